import Derived.Test.YthmlkcglglcljaaGreatDoorJ41
import Derived.Test.YthmlkcglglcljaaGreatDoorJ43
import Derived.Deep.DeepCutAuto
namespace Go.Proofs.YthmlkcglglcljaaGreatDoor
set_option maxRecDepth 100000
set_option maxHeartbeats 40000000
namespace C
open Go.RowKit
open T (Sep Ob Kp Mf TgIn boxOb Fm Tc Ed Vl Cp Bx tgOb mRow updV flt regRow regRow_at regRow_len Vl.row_len)

def smRw (n : Int) : Array Value := #[.int .u8 1, .int .i64 1, .int .i64 0, .int .i64 0, .int .i64 0, .int .u8 1, .int .i64 2, .int .i64 0, .int .i64 0, .int .i64 0, .int .u8 1, .int .i64 3, .int .i64 0, .int .i64 0, .int .i64 n, .int .u8 24, .int .i64 2, .int .i64 3, .int .i64 0, .int .i64 10, .int .u8 70, .int .i64 2, .int .i64 0, .int .i64 9, .int .i64 32, .int .u8 40, .int .i64 4, .int .i64 8, .int .i64 2, .int .i64 0, .int .u8 60, .int .i64 5, .int .i64 4, .int .i64 0, .int .i64 0, .int .u8 3, .int .i64 1, .int .i64 1, .int .i64 5, .int .i64 0, .int .u8 11, .int .i64 2, .int .i64 2, .int .i64 0, .int .i64 1, .int .u8 20, .int .i64 0, .int .i64 0, .int .i64 0, .int .i64 3, .int .u8 27, .int .i64 1, .int .i64 0, .int .i64 0, .int .i64 0]
theorem build_sm (n : Int) (W : World) : (Instr.buildSlice 48 11 #[(0, .agg #[.int .u8 1, .int .i64 1, .int .i64 0, .int .i64 0, .int .i64 0]), (1, .agg #[.int .u8 1, .int .i64 2, .int .i64 0, .int .i64 0, .int .i64 0]), (2, .agg #[.int .u8 1, .int .i64 3, .int .i64 0, .int .i64 0, .int .i64 n]), (3, .agg #[.int .u8 24, .int .i64 2, .int .i64 3, .int .i64 0, .int .i64 10]), (4, .agg #[.int .u8 70, .int .i64 2, .int .i64 0, .int .i64 9, .int .i64 32]), (5, .agg #[.int .u8 40, .int .i64 4, .int .i64 8, .int .i64 2, .int .i64 0]), (6, .agg #[.int .u8 60, .int .i64 5, .int .i64 4, .int .i64 0, .int .i64 0]), (7, .agg #[.int .u8 3, .int .i64 1, .int .i64 1, .int .i64 5, .int .i64 0]), (8, .agg #[.int .u8 11, .int .i64 2, .int .i64 2, .int .i64 0, .int .i64 1]), (9, .agg #[.int .u8 20, .int .i64 0, .int .i64 0, .int .i64 0, .int .i64 3]), (10, .agg #[.int .u8 27, .int .i64 1, .int .i64 0, .int .i64 0, .int .i64 0])]).run Tryz.prog W = .ok (.slice (some ⟨W.heap.size, 0, none⟩) 11 11) (W.alloc (.cells (smRw n) 56)) := by kernel_rfl
theorem wp_build_sm {o : Oper} {a : Act} {K : Act → World → Prop} {Q : Exit → Act → World → Prop} {w : World} (x0 x1 x2 x3 x4 x5 x6 x7 x8 x9 x10 : Operand) (ho : o.op = .buildSlice 48 11 #[(0, x0), (1, x1), (2, x2), (3, x3), (4, x4), (5, x5), (6, x6), (7, x7), (8, x8), (9, x9), (10, x10)]) (n : Int) (h0 : a.eval x0 = .agg #[.int .u8 1, .int .i64 1, .int .i64 0, .int .i64 0, .int .i64 0]) (h1 : a.eval x1 = .agg #[.int .u8 1, .int .i64 2, .int .i64 0, .int .i64 0, .int .i64 0]) (h2 : a.eval x2 = .agg #[.int .u8 1, .int .i64 3, .int .i64 0, .int .i64 0, .int .i64 n]) (h3 : a.eval x3 = .agg #[.int .u8 24, .int .i64 2, .int .i64 3, .int .i64 0, .int .i64 10]) (h4 : a.eval x4 = .agg #[.int .u8 70, .int .i64 2, .int .i64 0, .int .i64 9, .int .i64 32]) (h5 : a.eval x5 = .agg #[.int .u8 40, .int .i64 4, .int .i64 8, .int .i64 2, .int .i64 0]) (h6 : a.eval x6 = .agg #[.int .u8 60, .int .i64 5, .int .i64 4, .int .i64 0, .int .i64 0]) (h7 : a.eval x7 = .agg #[.int .u8 3, .int .i64 1, .int .i64 1, .int .i64 5, .int .i64 0]) (h8 : a.eval x8 = .agg #[.int .u8 11, .int .i64 2, .int .i64 2, .int .i64 0, .int .i64 1]) (h9 : a.eval x9 = .agg #[.int .u8 20, .int .i64 0, .int .i64 0, .int .i64 0, .int .i64 3]) (h10 : a.eval x10 = .agg #[.int .u8 27, .int .i64 1, .int .i64 0, .int .i64 0, .int .i64 0])
   (h : K (a.put o.dst (.slice (some ⟨w.heap.size, 0, none⟩) 11 11)) (w.alloc (.cells (smRw n) 56))) : o.wp Tryz.prog a w K Q := by
 unfold Oper.wp execOp
 simp only [ho, List.map_toArray, List.map_cons, List.map_nil, h0, h1, h2, h3, h4, h5, h6, h7, h8, h9, h10, build_sm, Sem.run_bind, Sem.run_pure, Result.andThen_ok]
 exact h
theorem sm_lin {W : World} {b n : Nat} (h : At W b (smRw n)) : LIn W.heap.size W (some ⟨b, 0, none⟩) (smCode n) := fun i hi => by
 have hi' : i < 11 := hi
 refine ⟨b, 0, rfl, h.1, h.1, ?_⟩
 match i, hi' with
 | 0, _ => exact ⟨h.2.1 0, h.2.1 1, h.2.1 2, h.2.1 3, h.2.1 4⟩
 | 1, _ => exact ⟨h.2.1 5, h.2.1 6, h.2.1 7, h.2.1 8, h.2.1 9⟩
 | 2, _ => exact ⟨h.2.1 10, h.2.1 11, h.2.1 12, h.2.1 13, h.2.1 14⟩
 | 3, _ => exact ⟨h.2.1 15, h.2.1 16, h.2.1 17, h.2.1 18, h.2.1 19⟩
 | 4, _ => exact ⟨h.2.1 20, h.2.1 21, h.2.1 22, h.2.1 23, h.2.1 24⟩
 | 5, _ => exact ⟨h.2.1 25, h.2.1 26, h.2.1 27, h.2.1 28, h.2.1 29⟩
 | 6, _ => exact ⟨h.2.1 30, h.2.1 31, h.2.1 32, h.2.1 33, h.2.1 34⟩
 | 7, _ => exact ⟨h.2.1 35, h.2.1 36, h.2.1 37, h.2.1 38, h.2.1 39⟩
 | 8, _ => exact ⟨h.2.1 40, h.2.1 41, h.2.1 42, h.2.1 43, h.2.1 44⟩
 | 9, _ => exact ⟨h.2.1 45, h.2.1 46, h.2.1 47, h.2.1 48, h.2.1 49⟩
 | 10, _ => exact ⟨h.2.1 50, h.2.1 51, h.2.1 52, h.2.1 53, h.2.1 54⟩
theorem img_sm {W : World} {k1 k2 k3 k4 b c : Nat} {X : List UInt8} (h1 : At W k1 #[.int .u64 0, .int .u64 32, .string (str X), .slice none 0 0]) (h2 : At W k2 #[.int .i64 8, .int .u64 0, .int .u64 32, .int .u64 0, .int .u8 3, .int .i64 0]) (h3 : At W k3 #[.slice (some ⟨k2, 0, none⟩) 1 1, .slice (some ⟨b, 0, none⟩) 11 c]) (h4 : At W k4 #[.int .i64 0, .int .i64 0, .slice none 0 0, .slice none 0 0]) (h5 : LIn W.heap.size W (some ⟨b, 0, none⟩) (smCode X.length)) :
   ImgIn W.heap.size W (some ⟨k1, 0, none⟩) (some ⟨k3, 0, none⟩) (some ⟨k4, 0, none⟩) (smP X) := by
 refine ⟨fun i hi => ?_, fun i hi => ?_, fun i hi => ?_⟩
 · have hi' : i < 1 := hi
   obtain rfl : i = 0 := by omega
   exact ⟨k1, 0, none, 0, rfl, h1.1, h1.1, h1.2.1 0, h1.2.1 1, h1.2.1 2, h1.2.1 3, FIn.nil _ _ _ _ _⟩
 · have hi' : i < 1 := hi
   obtain rfl : i = 0 := by omega
   refine ⟨k3, 0, some ⟨k2, 0, none⟩, 1, some ⟨b, 0, none⟩, c, rfl, h3.1, h3.1, h3.2.1 0, h3.2.1 1, fun j hj => ?_, h5⟩
   have hj' : j < 1 := hj
   obtain rfl : j = 0 := by omega
   refine ⟨k2, 0, rfl, h2.1, h2.1, fun o ho => ?_⟩
   rw [show 0 + 0 * 6 + o = o by omega, h2.2.1 o]
   match o, ho with
   | 0, _ => rfl
   | 1, _ => rfl
   | 2, _ => rfl
   | 3, _ => rfl
   | 4, _ => rfl
   | 5, _ => rfl
 · have hi' : i < 1 := hi
   obtain rfl : i = 0 := by omega
   exact ⟨k4, 0, none, 0, none, 0, rfl, h4.1, h4.1, h4.2.1 0, h4.2.1 1, h4.2.1 2, h4.2.1 3, FIn.nil _ _ _ _ _, FIn.nil _ _ _ _ _⟩
theorem strz_take (l : List UInt8) (n : Nat) : (str l).extract 0 n = str (l.take n) := by
 unfold str
 apply ByteArray.ext
 simp [ByteArray.data_extract, List.extract_toArray, List.extract_eq_take_drop]
theorem strz_at (s : List UInt8) (i : Nat) (h : i < (str s).size) (h' : i < s.length) : (str s)[i]'h = s[i] := by
 simp [str, ByteArray.getElem_eq_getElem_data]
theorem nought_of {X : List UInt8} (h : ∀ hk : 0 < X.length, (X[X.length - 1]'(by omega)).toNat ≠ 0) : endsNought X = false := by
 rcases List.eq_nil_or_concat X with rfl | ⟨L, b, rfl⟩
 · rfl
 · rw [List.concat_eq_append] at h ⊢
   have := h (by simp)
   have hb : b ≠ 0 := fun e => this (by subst e; simp)
   unfold endsNought
   simp [hb]
theorem sumT_next (X : List UInt8) (k : Nat) (h : k < X.length) : sumT X (k + 1) = sumT X k + X[k].toNat := by
 rw [sumT, List.getD_eq_getElem?_getD, List.getElem?_eq_getElem h]; rfl
structure SmIn (X : List UInt8) (k0 k1 k3 k4 : Nat) (W : World) : Prop where
 i : ImgIn W.heap.size W (some ⟨k1, 0, none⟩) (some ⟨k3, 0, none⟩) (some ⟨k4, 0, none⟩) (smP X)
 b : At W k0 #[.slice (some ⟨k1, 0, none⟩) 1 1, .slice (some ⟨k3, 0, none⟩) 1 1, .slice (some ⟨k4, 0, none⟩) 1 1, .int .i64 1]
 t : TabIn W
theorem SmIn.bl {X : List UInt8} {k0 k1 k3 k4 : Nat} {W V : World} (h : SmIn X k0 k1 k3 k4 W) (g : Bl W V) : SmIn X k0 k1 k3 k4 V := ⟨(h.i.below g).mono g.size, Bl.at_ g h.b, h.t.below g h.t.size⟩
theorem sm_new {X : List UInt8} (hX : X.length ≤ 32) (hz : endsNought X = false) {k0 k1 k3 k4 : Nat} {W : World} (h : SmIn X k0 k1 k3 k4 W) : Calls Tryz.prog 13 #[.agg #[.slice (some ⟨k1, 0, none⟩) 1 1, .slice (some ⟨k3, 0, none⟩) 1 1, .slice (some ⟨k4, 0, none⟩) 1 1, .int .i64 1], .int .i64 0, .slice none 0 0, .slice none 0 0] W fun x w' => ∃ a, x = .returned (.tuple #[.pointer (some ⟨a, 0, none⟩), .int .i64 0]) ∧ MIn W.heap.size w' a (smQ X.length) (start (smP X) 0 [] []) [] ∧ Below W.heap.size W w' :=
 new_ok (smP X) 0 [] [] (some ⟨k1, 0, none⟩) (some ⟨k3, 0, none⟩) (some ⟨k4, 0, none⟩) none none 1 1 1 0 0 W h.t h.i (sm_rng X hX) (sm_right X hX hz) (sm_ent X) rfl (fun i hi => absurd hi (Nat.not_lt_zero i)) (.inl ⟨rfl, rfl, rfl⟩) (Nat.zero_le _)
theorem sm_ok (X : List UInt8) (hX : X.length ≤ 32) (hz : endsNought X = false) : POk (smQ X.length) ∧ Okm (smQ X.length) 0 (start (smP X) 0 [] []) :=
 ⟨pok_of (smP X) (sm_right X hX hz) (sm_rng X hX), start_ok (sm_right X hX hz) (sm_rng X hX) (by decide : 0 < 1) (fun x hx => by cases hx) (fun x hx => by cases hx) (Nat.zero_le _)⟩

theorem one_new (b n c : Nat) (w : World) : Calls Tryz.prog 12 #[.slice (some ⟨b, 0, none⟩) n c] w fun x w' => ∃ k1 k2 k3 k4, x = .returned (.agg #[.slice (some ⟨k1, 0, none⟩) 1 1, .slice (some ⟨k3, 0, none⟩) 1 1, .slice (some ⟨k4, 0, none⟩) 1 1, .int .i64 1]) ∧ At w' k1 #[.int .u64 0, .int .u64 32, .string (str []), .slice none 0 0] ∧ At w' k2 #[.int .i64 8, .int .u64 0, .int .u64 32, .int .u64 0, .int .u8 3, .int .i64 0] ∧ At w' k3 #[.slice (some ⟨k2, 0, none⟩) 1 1, .slice (some ⟨b, 0, none⟩) n c] ∧ At w' k4 #[.int .i64 0, .int .i64 0, .slice none 0 0, .slice none 0 0] ∧ Bl w w' ∧ w.heap.size ≤ k1 := by
 go_enter Tryz.func12, Tryz.ntmps12
 go_wp2_with fail
 simp [bodyPost, results, Tryz.results12, go_sem]
 obtain ⟨h1, h2, h3, h4, h5⟩ := at5 w _ _ _ _ _ _ _ _ _ _
 exact ⟨_, w.heap.size + 1 + 1, _, _, ⟨rfl, rfl, rfl⟩, h1, h2, h3, h4, h5, by omega⟩
theorem at_ne {W : World} {k l : Nat} {A B : Array Value} (h1 : At W k A) (h2 : At W l B) (hn : A[0]? ≠ B[0]?) : k ≠ l := fun e => by
 subst e
 exact hn ((h1.2.1 0).symm.trans (h2.2.1 0))

theorem walk_CapmachineSum (T : List UInt8) (w : World) (ht : TabIn w) : Calls Tryz.prog 4 #[.string (str T)] w fun x w' => x = .returned (.bool true) ∧ Below w.heap.size w w' := by
 have hEx := Hz.mk (examples_any w ht)
 have ss := str_size T
 have hT0 := Hz.mk ht
 clear ht
 go_enter Tryz.func4, Tryz.ntmps4
 go_wp2_with fail
 refine hEx.out.mono ?_
 rintro r W1 ⟨rfl, e1⟩
 replace hEx := Hz.mk e1
 clear e1
 go_upto_if 18 with fail
 go_cut [0] (fun x wx => (∃ X : List UInt8, x = .string (str X) ∧ Hz (X.length ≤ 32)) ∧ W1 = wx)
 case first =>
   by_cases h32 : 32 < T.length
   · have h321 : (32 : Int) < T.length := by omega
     have e2 := strz_take T 32
     have l2 : Hz ((T.take 32).length ≤ 32) := Hz.mk (by rw [List.length_take]; omega)
     generalize T.take 32 = X at *
     go_wp2_with fail
     go_meet
     exact ⟨⟨X, rfl, l2⟩, rfl⟩
   · have h321 : ¬ (32 : Int) < T.length := by omega
     go_wp2_with fail
     go_meet
     exact ⟨⟨T, rfl, Hz.mk (by omega)⟩, rfl⟩
 case rest =>
   obtain ⟨⟨X0, hx, hX0⟩, hwx⟩ := hcut
   subst hwx
   subst hx
   clear ss
   go_upto_region 4 with fail
   go_loopw [0] (fun x wr => ∃ X : List UInt8, x = .string (str X) ∧ X.length ≤ 32 ∧ W1 = wr) (fun x _ => match x with | .string s => s.size | _ => 0)
   case atStart => exact ⟨X0, rfl, hX0.out, rfl⟩
   case round =>
     clear hX0
     obtain ⟨X, rfl, hX, rfl⟩ := hrel
     have ss := str_size X
     go_upto_region 4 with fail
     go_cut [31] (fun c wx => (∃ g : Bool, c = .bool g ∧ Hz (g = true → ∃ k, X.length = k + 1) ∧ Hz (g = false → endsNought X = false)) ∧ W1 = wx)
     case first =>
       by_cases hx0 : 0 < X.length
       · have hx1 : (0 : Int) < X.length := by omega
         obtain ⟨k, hk⟩ : ∃ k, X.length = k + 1 := ⟨X.length - 1, by omega⟩
         have r1 : wrap64 ((X.length : Int) - 1) = (k : Int) := by unfold wrap64; omega
         have r2 : (k : Int) < X.length := by omega
         have js : k < (str X).size := by rw [ss]; omega
         have ha := congrArg UInt8.toNat (strz_at X k js (by omega))
         obtain ⟨y, hy⟩ : ∃ y, (X[k]'(by omega)).toNat = y := ⟨_, rfl⟩
         rw [hy] at ha
         by_cases y0 : y = 0
         · subst y0
           replace hk := Hz.mk hk
           replace hy := Hz.mk hy
           go_wp2_with fail
           go_meet
           exact ⟨⟨true, rfl, Hz.mk (fun _ => ⟨k, hk.out⟩), Hz.mk (fun q => by cases q)⟩, rfl⟩
         · have y1 : ((y : Int) == 0) = false := by simp; omega
           have hz : Hz (endsNought X = false) := Hz.mk (nought_of (fun _ => by have e : X.length - 1 = k := by omega
                                                                                simp only [e]; rw [hy]; exact y0))
           replace hk := Hz.mk hk
           replace hy := Hz.mk hy
           go_wp2_with fail
           go_meet
           exact ⟨⟨false, rfl, Hz.mk (fun q => by cases q), Hz.mk (fun _ => hz.out)⟩, rfl⟩
       · have hx1 : ¬ (0 : Int) < X.length := by omega
         have hz : Hz (endsNought X = false) := Hz.mk (nought_of (fun q => absurd q hx0))
         go_wp2_with fail
         go_meet
         exact ⟨⟨false, rfl, Hz.mk (fun q => by cases q), Hz.mk (fun _ => hz.out)⟩, rfl⟩
     case rest =>
       obtain ⟨⟨g, hg, hgt, hgf⟩, hwx⟩ := hcut
       subst hwx
       subst hg
       cases g with
       | true =>
         obtain ⟨k, hk⟩ := hgt.out rfl
         clear hgt hgf
         have r1 : wrap64 ((X.length : Int) - 1) = (k : Int) := by unfold wrap64; omega
         have r2 : (k : Int) ≤ X.length := by omega
         have r3 : (1 : Int) ≤ X.length := by omega
         have r4 : (X.length : Int) - 1 ≤ X.length := by omega
         have e2 := Hz.mk (strz_take X k)
         have l2 : Hz ((X.take k).length = k) := Hz.mk (by rw [List.length_take]; omega)
         generalize X.take k = X2 at *
         replace hk := Hz.mk hk
         go_wp2_with fail
         refine And.intro (Exists.intro X2 ⟨by rw [show X.length - 1 = k by have := hk.out; omega, e2.out], by have := l2.out; have := hk.out; omega, by first | rfl | trivial⟩) ?_
         show ((str X).extract 0 (X.length - 1)).size < (str X).size
         rw [show X.length - 1 = k by have := hk.out; omega, e2.out, str_size, str_size]
         have := l2.out; have := hk.out
         omega
       | false =>
         have hz : Hz (endsNought X = false) := Hz.mk (hgf.out rfl)
         clear hgt hgf
         go_wp2_with fail
         go_loopw [5, 6] (fun v x wr => ∃ i : Nat, v = .int .u64 (sumT X i) ∧ x = .int .i64 i ∧ i ≤ X.length ∧ W1 = wr) (fun _ x _ => X.length - (intOf x).toNat)
         case atStart => exact ⟨0, rfl, rfl, Nat.zero_le _, rfl⟩
         case round =>
           obtain ⟨i, rfl, rfl, hi, rfl⟩ := hrel
           by_cases hil : i < X.length
           · have il : (i : Int) < X.length := by omega
             have js : i < (str X).size := by rw [ss]; exact hil
             have ha := congrArg UInt8.toNat (strz_at X i js hil)
             have hs := sumT_next X i hil
             have hle := sumT_le X i
             have yb := (X[i]'hil).toNat_lt
             obtain ⟨y, hy⟩ : ∃ y, (X[i]'hil).toNat = y := ⟨_, rfl⟩
             rw [hy] at ha hs yb
             have w1 : IntKind.u64.wrap (y : Int) = (y : Int) := by rw [IntKind.wrap_u64]; omega
             have w2 : IntKind.u64.wrap ((sumT X i : Nat) + (y : Int)) = ((sumT X (i + 1) : Nat) : Int) := by rw [IntKind.wrap_u64, hs]; omega
             replace hs := Hz.mk hs
             replace hy := Hz.mk hy
             replace hle := Hz.mk hle
             go_wp2_with fail
             exact ⟨⟨i + 1, rfl, by go_num, by omega, by first | rfl | trivial⟩, by simp [intOf]; omega⟩
           · have il : ¬ (i : Int) < X.length := by omega
             obtain rfl : i = X.length := by omega
             clear il hil
             obtain ⟨hP, hOk⟩ := sm_ok X hX hz.out
             have hNw := Hz.mk (fun k0 k1 k3 k4 V (q : SmIn X k0 k1 k3 k4 V) => sm_new hX hz.out q)
             obtain ⟨E1, E2, E3⟩ := sm_run hX (start (smP X) 0 [] []) rfl rfl rfl (fun a h => sm_mem X hX a h) rfl rfl
             have hSl := sumT_le X X.length
             obtain ⟨st, hst⟩ : ∃ st, 3 + 7 * X.length + 2 = st := ⟨_, rfl⟩
             obtain ⟨sp, hsp⟩ : ∃ sp, 3 + 7 * X.length + 1 = sp := ⟨_, rfl⟩
             rw [hst] at E1 E2
             rw [hsp] at E3
             have hR1 := Hz.mk (fun B Y a l' (q : MIn B Y a (smQ X.length) (start (smP X) 0 [] []) l') => run_any B Y a (smQ X.length) (start (smP X) 0 [] []) l' 0 (st : Nat) hP q hOk (by omega))
             have hR2 := Hz.mk (fun B Y a l' (q : MIn B Y a (smQ X.length) (start (smP X) 0 [] []) l') => run_any B Y a (smQ X.length) (start (smP X) 0 [] []) l' 0 (sp : Nat) hP q hOk (by omega))
             generalize runM (smQ X.length) (st : Nat) (start (smP X) 0 [] []) = u1 at *
             generalize runM (smQ X.length) (sp : Nat) (start (smP X) 0 [] []) = u2 at *
             rw [E1] at hR1
             rw [E3] at hR2
             have hTo := Hz.mk (fun B Y a l' (q : MIn B Y a (smQ X.length) u1 l') => tcs_any B Y a (smQ X.length) u1 l' q (by rw [E2]; omega))
             rw [E2] at hTo
             have m1 : wrap64 (7 * (X.length : Int)) = 7 * (X.length : Int) := by unfold wrap64; omega
             have m2 : wrap64 (3 + 7 * (X.length : Int)) = 3 + 7 * (X.length : Int) := by unfold wrap64; omega
             have m3 : wrap64 (3 + 7 * (X.length : Int) + 2) = (st : Int) := by unfold wrap64; omega
             have m4 : wrap64 ((st : Int) - 1) = (sp : Int) := by unfold wrap64; omega
             have hsm := Hz.mk (show ∀ (W : World) (b : Nat), At W b (smRw (X.length : Nat)) → LIn W.heap.size W (some ⟨b, 0, none⟩) (smCode X.length) from fun _ _ h => sm_lin h)
             have z1 : Hz (3 + 7 * (X.length : Int) + 2 = (st : Int)) := Hz.mk (by omega)
             have z2 : Hz (3 + 7 * (X.length : Int) + 2 - 1 = (sp : Int)) := Hz.mk (by omega)
             clear hP hOk E1 E2 E3 hSl hst hsp
             generalize start (smP X) 0 [] [] = s0 at *
             generalize sumT X X.length = zs at *
             generalize smQ X.length = P at *
             go_upto_region 12 with fail
             refine wp_region_lit ?_
             iterate 12 (refine wpList_plain rfl (fun K hK => ?_); go_simp; with_reducible refine hK _ _ ?_; clear hK K; (try simp only [xap]))
             refine wpList_plain rfl (fun K hK => ?_)
             refine wp_build_sm (.tmp 50) (.tmp 51) (.tmp 53) (.tmp 54) (.tmp 55) (.tmp 56) (.tmp 57) (.tmp 58) (.tmp 59) (.tmp 60) (.tmp 61) rfl (X.length : Nat) rfl rfl rfl rfl rfl rfl rfl rfl rfl rfl rfl (hK _ _ ?_)
             clear hK K
             try simp only [xap]
             have hA0 := Hz.mk (At.new W1 (smRw (X.length : Nat)) 56)
             have gA := Hz.mk ((Bl.refl W1).alloc (.cells (smRw (X.length : Nat)) 56))
             generalize hVx : W1.alloc (.cells (smRw (X.length : Nat)) 56) = W3 at *
             clear hVx
             have g0 := Hz.mk (Bl.trans hEx.out gA.out)
             generalize W1.heap.size = b0 at *
             clear gA hEx
             refine wpList_plain rfl (fun K hK => ?_)
             go_simp
             refine (one_new b0 11 11 W3).mono ?_
             rintro r W4 ⟨k1, k2, k3, k4, rfl, a1, a2, a3, a4, g2, hk1⟩
             with_reducible refine hK _ _ ?_
             clear hK K
             try simp only [xap]
             have hk1w := Hz.mk (Nat.le_trans g0.out.size hk1)
             replace g0 := Hz.mk (Bl.trans g0.out g2)
             replace hA0 := Hz.mk (Bl.at_ g2 hA0.out)
             have d2 := at_ne a2 a1 (by simp)
             have d3 := at_ne a3 a1 (by simp)
             have d4 := at_ne a4 a1 (by simp)
             have d0 := at_ne hA0.out a1 (by unfold smRw; simp)
             have d5 : W4.heap.size ≠ k1 := by have := a1.1; omega
             have hD := Hz.mk (And.intro d0 (And.intro d2 (And.intro d3 (And.intro d4 d5))))
             have hA := Hz.mk (And.intro a1 (And.intro a2 (And.intro a3 a4)))
             clear g2 a1 a2 a3 a4 hk1 d0 d2 d3 d4 d5
             go_upto_region 13 with fail
             refine wp_world (fun W => Hz (At W k1 #[.int .u64 0, .int .u64 32, .string (str []), .slice none 0 0] ∧ At W k2 #[.int .i64 8, .int .u64 0, .int .u64 32, .int .u64 0, .int .u8 3, .int .i64 0] ∧ At W k3 #[.slice (some ⟨k2, 0, none⟩) 1 1, .slice (some ⟨b0, 0, none⟩) 11 11] ∧ At W k4 #[.int .i64 0, .int .i64 0, .slice none 0 0, .slice none 0 0]) ∧ At W W4.heap.size #[.slice (some ⟨k1, 0, none⟩) 1 1, .slice (some ⟨k3, 0, none⟩) 1 1, .slice (some ⟨k4, 0, none⟩) 1 1, .int .i64 1] ∧ Hz (At W b0 (smRw (X.length : Nat))) ∧ Hz (Bl w W)) ⟨Hz.mk ⟨hA.out.1.alloc _, hA.out.2.1.alloc _, hA.out.2.2.1.alloc _, hA.out.2.2.2.alloc _⟩, At.new W4 _ _, Hz.mk (hA0.out.alloc _), Hz.mk (g0.out.alloc _)⟩ ?_
             clear hA hA0 g0
             rintro W5 ⟨hA, aI, hA0, g0⟩
             generalize W4.heap.size = kI at *
             have c0 : W5.cell? ⟨kI, 0, none⟩ = some (.slice (some ⟨k1, 0, none⟩) 1 1) := aI.2.1 0
             have lI := aI.1
             have l1 := hA.out.1.1
             have c1 : W5.cell? ⟨k1, 2, none⟩ = some (.string (str [])) := hA.out.1.2.1 2
             have aI' := Hz.mk aI
             clear aI
             have f1 := hA.out.1.2.2 2
             have hst1 := Hz.mk (show SmIn X kI k1 k3 k4 (W5.setCell ⟨k1, 2, none⟩ (.string (str X))) ∧ Bl w (W5.setCell ⟨k1, 2, none⟩ (.string (str X))) from by
               obtain ⟨a1, a2, a3, a4⟩ := hA.out
               obtain ⟨d0, d2, d3, d4, d5⟩ := hD.out
               have b1 := a1.set 2 (.string (str X)) (by decide)
               have g1 : Bl w (W5.setCell ⟨k1, 2, none⟩ (.string (str X))) := Below.setCell (p := ⟨k1, 2, none⟩) g0.out hk1w.out _
               exact ⟨⟨img_sm b1 (a2.set_other _ d2.symm) (a3.set_other _ d3.symm) (a4.set_other _ d4.symm) (hsm.out _ _ (hA0.out.set_other _ d0.symm)), aI'.out.set_other _ d5.symm, hT0.out.below g1 hT0.out.size⟩, g1⟩)
             go_upto_region 14 with fail
             refine wp_world (fun W => Hz (SmIn X kI k1 k3 k4 W) ∧ Hz (Bl w W)) ⟨Hz.mk hst1.out.1, Hz.mk hst1.out.2⟩ ?_
             clear hst1 c0 lI l1 c1 f1 aI' hA hA0 g0 hD hk1w hsm hT0
             rintro W6 ⟨hS, g0⟩
             have i0 : W6.cell? ⟨kI, 0, none⟩ = some (.slice (some ⟨k1, 0, none⟩) 1 1) := hS.out.b.2.1 0
             have i1 : W6.cell? ⟨kI, 1, none⟩ = some (.slice (some ⟨k3, 0, none⟩) 1 1) := hS.out.b.2.1 1
             have i2 : W6.cell? ⟨kI, 2, none⟩ = some (.slice (some ⟨k4, 0, none⟩) 1 1) := hS.out.b.2.1 2
             have i3 : W6.cell? ⟨kI, 3, none⟩ = some (.int .i64 1) := hS.out.b.2.1 3
             have lI := hS.out.b.1
             go_wp2_with fail
             refine (hNw.out _ _ _ _ _ hS.out).mono ?_
             rintro r W7 ⟨a, rfl, hM1, e1⟩
             clear i0 i1 i2 i3 lI
             replace hS := Hz.mk (hS.out.bl e1)
             replace hM1 := Hz.mk hM1
             have gB := Hz.mk e1
             clear e1
             have i0 : W7.cell? ⟨kI, 0, none⟩ = some (.slice (some ⟨k1, 0, none⟩) 1 1) := hS.out.b.2.1 0
             have i1 : W7.cell? ⟨kI, 1, none⟩ = some (.slice (some ⟨k3, 0, none⟩) 1 1) := hS.out.b.2.1 1
             have i2 : W7.cell? ⟨kI, 2, none⟩ = some (.slice (some ⟨k4, 0, none⟩) 1 1) := hS.out.b.2.1 2
             have i3 : W7.cell? ⟨kI, 3, none⟩ = some (.int .i64 1) := hS.out.b.2.1 3
             have lI := hS.out.b.1
             go_wp2_with fail
             refine (hNw.out _ _ _ _ _ hS.out).mono ?_
             rintro r W8 ⟨b, rfl, hM2, e1⟩
             clear i0 i1 i2 i3 lI hNw hS
             have hM := Hz.mk (hM1.out.both hM2 (Nat.le_refl _) e1)
             replace gB := Hz.mk (show Below W6.heap.size W6 W8 from Below.trans gB.out (Below.mono e1 gB.out.size))
             clear hM1 hM2 e1
             have hwB := Hz.mk g0.out.size
             generalize W6.heap.size = B at *
             go_wp2_with fail
             rw [z1.out]
             refine (M2.call hM.out (fun l' q => hR1.out _ _ _ _ q)).mono ?_
             rintro r W9 ⟨rfl, h9, e9⟩
             replace gB := Hz.mk (Below.trans gB.out e9)
             have h10 := Hz.mk (h9.new #[.int .i64 1, .int .u64 zs, .int .i64 0, .int .i64 0, .int .i64 10] 45)
             clear hM h9 e9 hR1
             go_upto_region 20 with fail
             refine wp_world (fun W => Hz (M2 B W P a u1 b s0 [boxOb W9.heap.size #[.int .i64 1, .int .u64 zs, .int .i64 0, .int .i64 0, .int .i64 10]]) ∧ Hz (Below B W6 W)) ⟨Hz.mk h10.out.1, Hz.mk (Below.trans gB.out h10.out.2)⟩ ?_
             clear h10 gB
             generalize W9.heap.size = kx at *
             rintro W10 ⟨hM, gB⟩
             go_wp2_with fail
             try rw [z2.out]
             refine (M2.call hM.out.turn (fun l' q => hR2.out _ _ _ _ q)).mono ?_
             rintro r W11 ⟨rfl, h9, e9⟩
             replace gB := Hz.mk (Below.trans gB.out e9)
             have h10 := Hz.mk (h9.turn.new #[.int .i64 4, .int .u64 0, .int .i64 0, .int .i64 0, .int .i64 10] 45)
             clear hM h9 e9 hR2
             go_upto_region 21 with fail
             refine wp_world (fun W => Hz (M2 B W P a u1 b u2 (boxOb W11.heap.size #[.int .i64 4, .int .u64 0, .int .i64 0, .int .i64 0, .int .i64 10] :: [boxOb kx #[.int .i64 1, .int .u64 zs, .int .i64 0, .int .i64 0, .int .i64 10]])) ∧ Hz (Below B W6 W)) ⟨Hz.mk h10.out.1, Hz.mk (Below.trans gB.out h10.out.2)⟩ ?_
             clear h10 gB
             generalize W11.heap.size = ky at *
             rintro W12 ⟨hM, gB⟩
             have A1 := hM.out.there (boxOb kx #[.int .i64 1, .int .u64 zs, .int .i64 0, .int .i64 0, .int .i64 10]) (by simp)
             have A2 := hM.out.there (boxOb ky #[.int .i64 4, .int .u64 0, .int .i64 0, .int .i64 0, .int .i64 10]) (by simp)
             have p0 : W12.cell? ⟨kx, 0, none⟩ = some (.int .i64 1) := A1.2.1 0
             have p1 : W12.cell? ⟨kx, 1, none⟩ = some (.int .u64 zs) := A1.2.1 1
             have p2 : W12.cell? ⟨kx, 2, none⟩ = some (.int .i64 0) := A1.2.1 2
             have p3 : W12.cell? ⟨kx, 3, none⟩ = some (.int .i64 0) := A1.2.1 3
             have p4 : W12.cell? ⟨kx, 4, none⟩ = some (.int .i64 10) := A1.2.1 4
             have q0 : W12.cell? ⟨ky, 0, none⟩ = some (.int .i64 4) := A2.2.1 0
             have q4 : W12.cell? ⟨ky, 4, none⟩ = some (.int .i64 10) := A2.2.1 4
             have lx := A1.1
             have ly := A2.1
             clear A1 A2
             obtain ⟨l', hl'⟩ := hM.out.one
             have hT1 := Hz.mk (hTo.out _ _ _ _ hl')
             clear hl' hTo
             go_wp2_with fail
             refine hT1.out.mono ?_
             rintro r W13 ⟨va, vc, rfl, -, e1⟩
             have gE := Hz.mk (Below.trans gB.out (Below.mono e1 hM.out.le))
             clear p0 p1 p2 p3 p4 q0 q4 lx ly hT1 hM gB e1
             go_wp2_with fail
             go_ret
             exact ⟨rfl, Below.trans g0.out (Below.mono gE.out hwB.out)⟩
end C
end Go.Proofs.YthmlkcglglcljaaGreatDoor
