import Derived.Test.YthmlkcglglcljaaGreatDoorJ02
import Derived.Deep.AppendLies
namespace Go.Proofs.YthmlkcglglcljaaGreatDoor
set_option maxRecDepth 100000
set_option maxHeartbeats 40000000
open Go.RowKit

structure Hid (p : Prop) : Prop where
 out : p
theorem ret_bool {a b : Bool} (h : a = b) : Ending.returned (.bool a) = .returned (.bool b) := by rw [h]
theorem letters_small (s : List UInt8) (hs : s ∈ shapes) : s.length ≤ 3 ∧ ∀ l ∈ s, l.toNat < 128 := by
 have : shapes.all (fun s => decide (s.length ≤ 3) && s.all fun l => decide (l.toNat < 128)) = true := by kernel_rfl
 have := List.all_eq_true.1 this s hs
 simp only [Bool.and_eq_true, decide_eq_true_eq, List.all_eq_true] at this
 exact this
theorem str_size (s : List UInt8) : (str s).size = s.length := by simp [str, ByteArray.size]
theorem str_at (s : List UInt8) (i : Nat) (h : i < (str s).size) (h' : i < s.length) : (str s)[i]'h = s[i] := by
 simp [str, ByteArray.getElem_eq_getElem_data]
theorem next_str (w : World) (ob : Obj) (s : List UInt8) (pos : Nat) (ty : TypeId) (h : pos < s.length) (ha : ∀ l ∈ s, l.toNat < 128) :
   (Instr.next (.pointer (some ⟨w.heap.size + 1, 0, none⟩)) true ty).run Tryz.prog ((w.alloc ob).alloc (.stringIter (str s) pos)) = .ok (.tuple #[.bool true, .int .i64 pos, .int .i32 (s[pos]'h).toNat]) ((w.alloc ob).alloc (.stringIter (str s) (pos + 1))) := by
 have h1 : pos < (str s).size := by rw [str_size]; exact h
 have := run_next_ascii (P := Tryz.prog) (w.alloc ob) (str s) pos ty h1 (by rw [str_at s pos h1 h]; exact ha _ (List.getElem_mem h))
 rwa [str_at s pos h1 h, World.size_alloc] at this
theorem next_str_end (w : World) (ob : Obj) (s : List UInt8) (pos : Nat) (ty : TypeId) (h : ¬ pos < s.length) :
   (Instr.next (.pointer (some ⟨w.heap.size + 1, 0, none⟩)) true ty).run Tryz.prog ((w.alloc ob).alloc (.stringIter (str s) pos)) = .ok (.tuple #[.bool false]) ((w.alloc ob).alloc (.stringIter (str s) pos)) := by
 have := run_next_end (P := Tryz.prog) (w.alloc ob) (str s) pos ty (by rw [str_size]; exact h)
 rwa [World.size_alloc] at this
theorem iterPos_at (w : World) (ob : Obj) (s : ByteArray) (pos : Nat) : ((w.alloc ob).alloc (.stringIter s pos)).iterPos (w.heap.size + 1) = pos := by
 have := (MapKept.heap_alloc (w.alloc ob) (.stringIter s pos)).1
 rw [World.size_alloc] at this
 unfold World.iterPos
 rw [this]
theorem out_lo {op l x : Int} {b : Bool} (h : x < loE op l) : false = (inE op l x && b) := by
 have : ¬ loE op l ≤ x := by omega
 simp [inE, this]
theorem out_hi {op l x : Int} {b : Bool} (h : hiE l < x) : false = (inE op l x && b) := by
 have : ¬ x ≤ hiE l := by omega
 simp [inE, this]
theorem in_e {op l x : Int} {b : Bool} (h : ¬ x < loE op l) (h' : ¬ hiE l < x) : (inE op l x && b) = b := by
 have h1 : loE op l ≤ x := by omega
 have h2 : x ≤ hiE l := by omega
 simp [inE, h1, h2]
theorem fR_r0 (op : Int) (l : UInt8) (r : List UInt8) (n a b c m : Int) (hl : (l.toNat : Int) = 114) (hn : n = 0) : fR op (l :: r) n a b c m = (inE op l.toNat a && fR op r (n + 1) 0 b c m) := by
 rw [fR, if_pos hl, if_pos hn]
theorem fR_r1 (op : Int) (l : UInt8) (r : List UInt8) (n a b c m : Int) (hl : (l.toNat : Int) = 114) (hn : n = 1) : fR op (l :: r) n a b c m = (inE op l.toNat b && fR op r (n + 1) a 0 c m) := by
 rw [fR, if_pos hl, if_neg (by omega), if_pos hn]
theorem fR_r2 (op : Int) (l : UInt8) (r : List UInt8) (n a b c m : Int) (hl : (l.toNat : Int) = 114) (hn : n ≠ 0) (hn1 : n ≠ 1) : fR op (l :: r) n a b c m = (inE op l.toNat c && fR op r (n + 1) a b 0 m) := by
 rw [fR, if_pos hl, if_neg hn, if_neg hn1]
theorem fR_c (op : Int) (l : UInt8) (r : List UInt8) (n a b c m : Int) (hl : (l.toNat : Int) = 99) (h : op ≠ 28) : fR op (l :: r) n a b c m = (inE op l.toNat c && fR op r n a b 0 m) := by
 rw [fR, if_neg (by omega), if_pos ⟨hl, h⟩]
theorem fR_m (op : Int) (l : UInt8) (r : List UInt8) (n a b c m : Int) (hl : (l.toNat : Int) ≠ 114) (h : ¬ ((l.toNat : Int) = 99 ∧ op ≠ 28)) : fR op (l :: r) n a b c m = (inE op l.toNat m && fR op r n a b c 0) := by
 rw [fR, if_neg hl, if_neg h]
theorem drop_cons {s r : List UInt8} {pos : Nat} (h : s.drop pos = r) (hp : pos < s.length) : ∃ r', r = s[pos] :: r' ∧ s.drop (pos + 1) = r' := by
 rw [List.drop_eq_getElem_cons hp] at h
 exact ⟨_, h.symm, rfl⟩

theorem fieldsRight_any (op a b c m : Int) (w : World) (ht : TabIn w) (h0 : 0 ≤ op) (h1 : op < 256) :
   Calls Tryz.prog 128 #[.agg #[.int .u8 op, .int .i64 a, .int .i64 b, .int .i64 c, .int .i64 m]] w fun x w' => x = .returned (.bool (fR op (shapeOf op) 0 a b c m)) ∧ Gr w w' := by
 have hsh := Shape_any op (w.alloc (.cells #[.int .u8 op, .int .i64 a, .int .i64 b, .int .i64 c, .int .i64 m] 56)) (ht.gr ((Gr.refl w).alloc _)) h0 h1
 obtain ⟨hl3, hasc⟩ := letters_small _ (shape_in op h1)
 generalize shapeOf op = s at hsh hl3 hasc
 replace hasc := Hid.mk hasc
 clear ht
 go_enter Tryz.func128, Tryz.ntmps128
 go_wp2_with (go_at_call 147; refine hsh.mono ?_; rintro x w' ⟨rfl, rfl⟩)
 clear hsh
 go_loopw [3] (fun n w' => ∃ (pos : Nat) (r : List UInt8) (n0 a1 b1 c1 m1 : Int), n = .int .i64 n0 ∧ 0 ≤ n0 ∧ n0 ≤ pos ∧ pos ≤ s.length ∧ w' = (w.alloc (.cells #[.int .u8 op, .int .i64 a1, .int .i64 b1, .int .i64 c1, .int .i64 m1] 56)).alloc (.stringIter (str s) pos) ∧ Hid (s.drop pos = r) ∧ Hid (fR op r n0 a1 b1 c1 m1 = fR op s 0 a b c m)) (fun _ w' => s.length - w'.iterPos (w.heap.size + 1))
 case atStart => exact ⟨0, s, 0, a, b, c, m, rfl, by omega, by omega, by omega, rfl, ⟨rfl⟩, ⟨rfl⟩⟩
 case round =>
   obtain ⟨pos, r, n0, a1, b1, c1, m1, rfl, hn0, hnp, hp, rfl, hr, hf⟩ := hrel
   by_cases hlt : pos < s.length
   · obtain ⟨r', rfl, hr'⟩ := drop_cons hr.out hlt
     have hnx := fun ty => next_str w (.cells #[.int .u8 op, .int .i64 a1, .int .i64 b1, .int .i64 c1, .int .i64 m1] 56) s pos ty hlt hasc.out
     clear hr
     generalize s[pos] = l at hf hnx
     by_cases hl : (l.toNat : Int) = 114
     · have q1 : ((l.toNat : Int) == 114) = true := by simpa using hl
       by_cases hz : n0 = 0
       · have rn : regNo n0 = 1 := by simp [regNo, hz]
         have st := fR_r0 op l r' n0 a1 b1 c1 m1 hl hz
         rw [st] at hf
         clear st
         generalize (l.toNat : Int) = L at *
         replace hl := Hid.mk hl
         replace hz := Hid.mk hz
         by_cases g1 : a1 < loE op L
         · have g2 : decide (a1 < loE op L) = true := by simpa using g1
           go_wp2_with (first | (go_at_call 148; refine (register_any _ _ _).mono ?_; rintro x w' ⟨rfl, rfl⟩) | (go_at_call 149; refine (ends_any _ _ _).mono ?_; rintro x w' ⟨rfl, rfl⟩))
           go_ret
           exact ⟨ret_bool ((out_lo g1).trans hf.out), ((Gr.refl w).alloc _).alloc _⟩
         · have g2 : decide (a1 < loE op L) = false := by simpa using g1
           by_cases g3 : hiE L < a1
           · have g4 : decide (hiE L < a1) = true := by simpa using g3
             go_wp2_with (first | (go_at_call 148; refine (register_any _ _ _).mono ?_; rintro x w' ⟨rfl, rfl⟩) | (go_at_call 149; refine (ends_any _ _ _).mono ?_; rintro x w' ⟨rfl, rfl⟩))
             go_ret
             exact ⟨ret_bool ((out_hi g3).trans hf.out), ((Gr.refl w).alloc _).alloc _⟩
           · have g4 : decide (hiE L < a1) = false := by simpa using g3
             rw [in_e g1 g3] at hf
             go_wp2_with (first | (go_at_call 148; refine (register_any _ _ _).mono ?_; rintro x w' ⟨rfl, rfl⟩) | (go_at_call 149; refine (ends_any _ _ _).mono ?_; rintro x w' ⟨rfl, rfl⟩))
             go_roundw
             case rel => exact ⟨pos + 1, r', n0 + 1, 0, b1, c1, m1, rfl, by omega, by omega, by omega, rfl, ⟨hr'⟩, hf⟩
             case measure => rw [iterPos_at, iterPos_at]; omega
       · by_cases ho : n0 = 1
         · have rn : regNo n0 = 2 := by simp [regNo, ho]
           have st := fR_r1 op l r' n0 a1 b1 c1 m1 hl ho
           rw [st] at hf
           clear st
           generalize (l.toNat : Int) = L at *
           replace hl := Hid.mk hl
           replace hz := Hid.mk hz
           replace ho := Hid.mk ho
           by_cases g1 : b1 < loE op L
           · have g2 : decide (b1 < loE op L) = true := by simpa using g1
             go_wp2_with (first | (go_at_call 148; refine (register_any _ _ _).mono ?_; rintro x w' ⟨rfl, rfl⟩) | (go_at_call 149; refine (ends_any _ _ _).mono ?_; rintro x w' ⟨rfl, rfl⟩))
             go_ret
             exact ⟨ret_bool ((out_lo g1).trans hf.out), ((Gr.refl w).alloc _).alloc _⟩
           · have g2 : decide (b1 < loE op L) = false := by simpa using g1
             by_cases g3 : hiE L < b1
             · have g4 : decide (hiE L < b1) = true := by simpa using g3
               go_wp2_with (first | (go_at_call 148; refine (register_any _ _ _).mono ?_; rintro x w' ⟨rfl, rfl⟩) | (go_at_call 149; refine (ends_any _ _ _).mono ?_; rintro x w' ⟨rfl, rfl⟩))
               go_ret
               exact ⟨ret_bool ((out_hi g3).trans hf.out), ((Gr.refl w).alloc _).alloc _⟩
             · have g4 : decide (hiE L < b1) = false := by simpa using g3
               rw [in_e g1 g3] at hf
               go_wp2_with (first | (go_at_call 148; refine (register_any _ _ _).mono ?_; rintro x w' ⟨rfl, rfl⟩) | (go_at_call 149; refine (ends_any _ _ _).mono ?_; rintro x w' ⟨rfl, rfl⟩))
               go_roundw
               case rel => exact ⟨pos + 1, r', n0 + 1, a1, 0, c1, m1, rfl, by omega, by omega, by omega, rfl, ⟨hr'⟩, hf⟩
               case measure => rw [iterPos_at, iterPos_at]; omega
         · have rn : regNo n0 = 3 := by simp [regNo, hz, ho]
           have st := fR_r2 op l r' n0 a1 b1 c1 m1 hl hz ho
           rw [st] at hf
           clear st
           generalize (l.toNat : Int) = L at *
           replace hl := Hid.mk hl
           replace hz := Hid.mk hz
           replace ho := Hid.mk ho
           by_cases g1 : c1 < loE op L
           · have g2 : decide (c1 < loE op L) = true := by simpa using g1
             go_wp2_with (first | (go_at_call 148; refine (register_any _ _ _).mono ?_; rintro x w' ⟨rfl, rfl⟩) | (go_at_call 149; refine (ends_any _ _ _).mono ?_; rintro x w' ⟨rfl, rfl⟩))
             go_ret
             exact ⟨ret_bool ((out_lo g1).trans hf.out), ((Gr.refl w).alloc _).alloc _⟩
           · have g2 : decide (c1 < loE op L) = false := by simpa using g1
             by_cases g3 : hiE L < c1
             · have g4 : decide (hiE L < c1) = true := by simpa using g3
               go_wp2_with (first | (go_at_call 148; refine (register_any _ _ _).mono ?_; rintro x w' ⟨rfl, rfl⟩) | (go_at_call 149; refine (ends_any _ _ _).mono ?_; rintro x w' ⟨rfl, rfl⟩))
               go_ret
               exact ⟨ret_bool ((out_hi g3).trans hf.out), ((Gr.refl w).alloc _).alloc _⟩
             · have g4 : decide (hiE L < c1) = false := by simpa using g3
               rw [in_e g1 g3] at hf
               go_wp2_with (first | (go_at_call 148; refine (register_any _ _ _).mono ?_; rintro x w' ⟨rfl, rfl⟩) | (go_at_call 149; refine (ends_any _ _ _).mono ?_; rintro x w' ⟨rfl, rfl⟩))
               go_roundw
               case rel => exact ⟨pos + 1, r', n0 + 1, a1, b1, 0, m1, rfl, by omega, by omega, by omega, rfl, ⟨hr'⟩, hf⟩
               case measure => rw [iterPos_at, iterPos_at]; omega
     · have q1 : ((l.toNat : Int) == 114) = false := by simpa using hl
       by_cases hc : (l.toNat : Int) = 99 ∧ op ≠ 28
       · have q2 : ((l.toNat : Int) == 99) = true := by simpa using hc.1
         have q3 : (op != 28) = true := by simpa using hc.2
         have st := fR_c op l r' n0 a1 b1 c1 m1 hc.1 hc.2
         rw [st] at hf
         clear st
         generalize (l.toNat : Int) = L at *
         replace hl := Hid.mk hl
         replace hc := Hid.mk hc
         by_cases g1 : c1 < loE op L
         · have g2 : decide (c1 < loE op L) = true := by simpa using g1
           go_wp2_with (first | (go_at_call 148; refine (register_any _ _ _).mono ?_; rintro x w' ⟨rfl, rfl⟩) | (go_at_call 149; refine (ends_any _ _ _).mono ?_; rintro x w' ⟨rfl, rfl⟩))
           go_ret
           exact ⟨ret_bool ((out_lo g1).trans hf.out), ((Gr.refl w).alloc _).alloc _⟩
         · have g2 : decide (c1 < loE op L) = false := by simpa using g1
           by_cases g3 : hiE L < c1
           · have g4 : decide (hiE L < c1) = true := by simpa using g3
             go_wp2_with (first | (go_at_call 148; refine (register_any _ _ _).mono ?_; rintro x w' ⟨rfl, rfl⟩) | (go_at_call 149; refine (ends_any _ _ _).mono ?_; rintro x w' ⟨rfl, rfl⟩))
             go_ret
             exact ⟨ret_bool ((out_hi g3).trans hf.out), ((Gr.refl w).alloc _).alloc _⟩
           · have g4 : decide (hiE L < c1) = false := by simpa using g3
             rw [in_e g1 g3] at hf
             go_wp2_with (first | (go_at_call 148; refine (register_any _ _ _).mono ?_; rintro x w' ⟨rfl, rfl⟩) | (go_at_call 149; refine (ends_any _ _ _).mono ?_; rintro x w' ⟨rfl, rfl⟩))
             go_roundw
             case rel => exact ⟨pos + 1, r', n0, a1, b1, 0, m1, rfl, by omega, by omega, by omega, rfl, ⟨hr'⟩, hf⟩
             case measure => rw [iterPos_at, iterPos_at]; omega
       · by_cases hd : (l.toNat : Int) = 99
         · have q2 : ((l.toNat : Int) == 99) = true := by simpa using hd
           have q3 : (op != 28) = false := by simp; omega
           have st := fR_m op l r' n0 a1 b1 c1 m1 hl hc
           rw [st] at hf
           clear st
           generalize (l.toNat : Int) = L at *
           replace hl := Hid.mk hl
           replace hc := Hid.mk hc
           replace hd := Hid.mk hd
           by_cases g1 : m1 < loE op L
           · have g2 : decide (m1 < loE op L) = true := by simpa using g1
             go_wp2_with (first | (go_at_call 148; refine (register_any _ _ _).mono ?_; rintro x w' ⟨rfl, rfl⟩) | (go_at_call 149; refine (ends_any _ _ _).mono ?_; rintro x w' ⟨rfl, rfl⟩))
             go_ret
             exact ⟨ret_bool ((out_lo g1).trans hf.out), ((Gr.refl w).alloc _).alloc _⟩
           · have g2 : decide (m1 < loE op L) = false := by simpa using g1
             by_cases g3 : hiE L < m1
             · have g4 : decide (hiE L < m1) = true := by simpa using g3
               go_wp2_with (first | (go_at_call 148; refine (register_any _ _ _).mono ?_; rintro x w' ⟨rfl, rfl⟩) | (go_at_call 149; refine (ends_any _ _ _).mono ?_; rintro x w' ⟨rfl, rfl⟩))
               go_ret
               exact ⟨ret_bool ((out_hi g3).trans hf.out), ((Gr.refl w).alloc _).alloc _⟩
             · have g4 : decide (hiE L < m1) = false := by simpa using g3
               rw [in_e g1 g3] at hf
               go_wp2_with (first | (go_at_call 148; refine (register_any _ _ _).mono ?_; rintro x w' ⟨rfl, rfl⟩) | (go_at_call 149; refine (ends_any _ _ _).mono ?_; rintro x w' ⟨rfl, rfl⟩))
               go_roundw
               case rel => exact ⟨pos + 1, r', n0, a1, b1, c1, 0, rfl, by omega, by omega, by omega, rfl, ⟨hr'⟩, hf⟩
               case measure => rw [iterPos_at, iterPos_at]; omega
         · have q2 : ((l.toNat : Int) == 99) = false := by simpa using hd
           have st := fR_m op l r' n0 a1 b1 c1 m1 hl hc
           rw [st] at hf
           clear st
           generalize (l.toNat : Int) = L at *
           replace hl := Hid.mk hl
           replace hc := Hid.mk hc
           replace hd := Hid.mk hd
           by_cases g1 : m1 < loE op L
           · have g2 : decide (m1 < loE op L) = true := by simpa using g1
             go_wp2_with (first | (go_at_call 148; refine (register_any _ _ _).mono ?_; rintro x w' ⟨rfl, rfl⟩) | (go_at_call 149; refine (ends_any _ _ _).mono ?_; rintro x w' ⟨rfl, rfl⟩))
             go_ret
             exact ⟨ret_bool ((out_lo g1).trans hf.out), ((Gr.refl w).alloc _).alloc _⟩
           · have g2 : decide (m1 < loE op L) = false := by simpa using g1
             by_cases g3 : hiE L < m1
             · have g4 : decide (hiE L < m1) = true := by simpa using g3
               go_wp2_with (first | (go_at_call 148; refine (register_any _ _ _).mono ?_; rintro x w' ⟨rfl, rfl⟩) | (go_at_call 149; refine (ends_any _ _ _).mono ?_; rintro x w' ⟨rfl, rfl⟩))
               go_ret
               exact ⟨ret_bool ((out_hi g3).trans hf.out), ((Gr.refl w).alloc _).alloc _⟩
             · have g4 : decide (hiE L < m1) = false := by simpa using g3
               rw [in_e g1 g3] at hf
               go_wp2_with (first | (go_at_call 148; refine (register_any _ _ _).mono ?_; rintro x w' ⟨rfl, rfl⟩) | (go_at_call 149; refine (ends_any _ _ _).mono ?_; rintro x w' ⟨rfl, rfl⟩))
               go_roundw
               case rel => exact ⟨pos + 1, r', n0, a1, b1, c1, 0, rfl, by omega, by omega, by omega, rfl, ⟨hr'⟩, hf⟩
               case measure => rw [iterPos_at, iterPos_at]; omega
   · have hnx := fun ty => next_str_end w (.cells #[.int .u8 op, .int .i64 a1, .int .i64 b1, .int .i64 c1, .int .i64 m1] 56) s pos ty hlt
     have hd : r = [] := by rw [← hr.out, List.drop_eq_nil_iff]; omega
     subst hd
     clear hr
     go_wp2_with fail
     all_goals go_ret
     all_goals refine ⟨?_, ((Gr.refl w).alloc _).alloc _⟩
     all_goals rw [← hf.out]
     all_goals simp [fR, *]
end Go.Proofs.YthmlkcglglcljaaGreatDoor


namespace Go.Proofs.YthmlkcglglcljaaGreatDoor
open Go.RowKit

structure Ins where
 op : Int
 a : Int
 b : Int
 c : Int
 m : Int
def Ins.vals (k : Ins) : List Value := [.int .u8 k.op, .int .i64 k.a, .int .i64 k.b, .int .i64 k.c, .int .i64 k.m]
def Ins.agg (k : Ins) : Value := .agg #[.int .u8 k.op, .int .i64 k.a, .int .i64 k.b, .int .i64 k.c, .int .i64 k.m]
def flat (L : List Ins) : List Value := L.flatMap Ins.vals
theorem flat_get (L : List Ins) (i j : Nat) (hi : i < L.length) (hj : j < 5) : (flat L)[i * 5 + j]? = (L[i]).vals[j]? := by
 induction L generalizing i with
 | nil => simp at hi
 | cons a l ih =>
   have e : flat (a :: l) = a.vals ++ flat l := by simp [flat]
   rw [e]
   cases i with
   | zero => rw [List.getElem?_append_left (by simp [Ins.vals]; omega)]; simp
   | succ i =>
     rw [List.getElem?_append_right (by simp [Ins.vals]; omega)]
     have : (i + 1) * 5 + j - a.vals.length = i * 5 + j := by simp [Ins.vals]; omega
     rw [this, ih i (by simpa using hi)]
     simp
def Five (w : World) (b off : Nat) (k : Ins) : Prop :=
 w.cell? ⟨b, off, none⟩ = some (.int .u8 k.op) ∧ w.cell? ⟨b, off + 1, none⟩ = some (.int .i64 k.a) ∧ w.cell? ⟨b, off + 1 + 1, none⟩ = some (.int .i64 k.b) ∧ w.cell? ⟨b, off + 1 + 1 + 1, none⟩ = some (.int .i64 k.c) ∧ w.cell? ⟨b, off + 1 + 1 + 1 + 1, none⟩ = some (.int .i64 k.m)
theorem Five.below {w w1 : World} {B b off : Nat} {k : Ins} (h : Five w b off k) (hb : Below B w w1) (hlt : b < B) : Five w1 b off k :=
 ⟨(hb.cell (p := ⟨b, _, none⟩) hlt).trans h.1, (hb.cell (p := ⟨b, _, none⟩) hlt).trans h.2.1, (hb.cell (p := ⟨b, _, none⟩) hlt).trans h.2.2.1, (hb.cell (p := ⟨b, _, none⟩) hlt).trans h.2.2.2.1, (hb.cell (p := ⟨b, _, none⟩) hlt).trans h.2.2.2.2⟩
def LIn (B : Nat) (w : World) (a : Option Addr) (L : List Ins) : Prop := ∀ i (h : i < L.length), ∃ b off : Nat, a = some ⟨b, off, none⟩ ∧ b < B ∧ b < w.heap.size ∧ Five w b (off + i * 5) L[i]
theorem LIn.below {B : Nat} {w w1 : World} {a : Option Addr} {L : List Ins} (h : LIn B w a L) (hb : Below B w w1) : LIn B w1 a L := fun i hi => by
 obtain ⟨b, off, ha, h1, h2, h3⟩ := h i hi
 exact ⟨b, off, ha, h1, Nat.lt_of_lt_of_le h2 hb.size, h3.below hb h1⟩
theorem LIn.mono {B B' : Nat} {w : World} {a : Option Addr} {L : List Ins} (h : LIn B w a L) (hb : B ≤ B') : LIn B' w a L := fun i hi => by
 obtain ⟨b, off, ha, h1, h2, h3⟩ := h i hi
 exact ⟨b, off, ha, Nat.lt_of_lt_of_le h1 hb, h2, h3⟩
theorem Below.of_grown {B : Nat} {w w1 : World} {row : Option Nat} (h : w.grownBy w1 row) (hB : B ≤ w.heap.size) (hr : ∀ g, row = some g → B ≤ g) : Below B w w1 :=
 ⟨h.os, h.tape, h.output, h.size, fun k hk => h.block k (Nat.lt_of_lt_of_le hk hB) (fun e => by have := hr k e.symm; omega)⟩
theorem own_below {w w1 : World} {base e size n : Nat} {v : Value} {xs : List Value} (h : w.ownsRow base e size v n xs) (hb : Below w.heap.size w w1) : w1.ownsRow base e size v n xs := by
 refine ⟨h.1, ?_⟩
 rcases h.2 with h2 | ⟨g, cap, cur, hv, hbg, hg, rest⟩
 · exact .inl h2
 · have hlt : g < w.heap.size := (Array.getElem?_eq_some_iff.1 hg).1
   exact .inr ⟨g, cap, cur, hv, hbg, (hb.block g hlt).trans hg, rest⟩
theorem own_grown {w w1 : World} {base e size n : Nat} {v : Value} {xs : List Value} {row : Option Nat} (h : w.ownsRow base e size v n xs) (hg : w.grownBy w1 row) (hne : ∀ g, v.ownBlock = some g → row ≠ some g) : w1.ownsRow base e size v n xs := by
 refine ⟨h.1, ?_⟩
 rcases h.2 with h2 | ⟨g, cap, cur, hv, hbg, hh, rest⟩
 · exact .inl h2
 · have hlt : g < w.heap.size := (Array.getElem?_eq_some_iff.1 hh).1
   refine .inr ⟨g, cap, cur, hv, hbg, (hg.block g hlt ?_).trans hh, rest⟩
   intro e
   exact hne g (by rw [hv]; rfl) e.symm
theorem own_block {w : World} {base e size n : Nat} {v : Value} {xs : List Value} (h : w.ownsRow base e size v n xs) : ∀ g, v.ownBlock = some g → base ≤ g ∧ g < w.heap.size := by
 intro g hg
 rcases h.2 with ⟨rfl, _⟩ | ⟨g', cap, cur, rfl, hbg, hh, rest⟩
 · cases hg
 · have : g' = g := by simpa [Value.ownBlock] using hg
   subst this
   exact ⟨hbg, (Array.getElem?_eq_some_iff.1 hh).1⟩
def LOwn (w : World) (base : Nat) (v : Value) (L : List Ins) : Prop := w.ownsRow base 56 5 v L.length (flat L)
end Go.Proofs.YthmlkcglglcljaaGreatDoor


namespace Go.Proofs.YthmlkcglglcljaaGreatDoor
open Go.RowKit

theorem info_parts {t : TypeId} {z : Value} {s b : Nat} (h : (Tryz.prog.info? t).map (fun i => (i.zero, i.size, i.bytes)) = some (some z, s, b)) :
   ∃ i, Tryz.prog.info? t = some i ∧ i.zero = some z ∧ i.size = s ∧ i.bytes = b := by
 obtain ⟨i, hi, he⟩ := Option.map_eq_some_iff.1 h
 simp only [Prod.mk.injEq] at he
 exact ⟨i, hi, he.1, he.2.1, he.2.2⟩
theorem news_at {w : World} {X : Nat} {cs : List Value} (h : At w X cs.toArray) : ∀ j u, cs[j]? = some u → w.cell? ((⟨X, 0, none⟩ : Addr).add j) = some u := by
 intro j u hj
 have ea : (⟨X, 0, none⟩ : Addr).add j = ⟨X, j, none⟩ := by by_cases h0 : j = 0 <;> simp [Addr.add, h0]
 rw [ea, h.2.1]
 simpa using hj
end Go.Proofs.YthmlkcglglcljaaGreatDoor


namespace Go.Proofs.YthmlkcglglcljaaGreatDoor
set_option maxRecDepth 100000
set_option maxHeartbeats 40000000
open Go.RowKit

theorem str_list (l : List UInt8) : (str l).toList = l := by
 rw [ByteArray.toList_eq]; rfl
theorem Right_any (op a b c m : Int) (w : World) (ht : TabIn w) (h0 : 0 ≤ op) (h1 : op < 256) :
   Calls Tryz.prog 96 #[.agg #[.int .u8 op, .int .i64 a, .int .i64 b, .int .i64 c, .int .i64 m]] w fun x w' => x = .returned (.int .i64 (rightF op a b c m)) ∧ Gr w w' := by
 have hn := Name_any op (w.alloc (.cells #[.int .u8 op, .int .i64 a, .int .i64 b, .int .i64 c, .int .i64 m] 56)) (ht.gr ((Gr.refl w).alloc _)) h0 h1
 have hf := fieldsRight_any op a b c m (w.alloc (.cells #[.int .u8 op, .int .i64 a, .int .i64 b, .int .i64 c, .int .i64 m] 56)) (ht.gr ((Gr.refl w).alloc _)) h0 h1
 unfold rightF
 generalize fR op (shapeOf op) 0 a b c m = ok at *
 generalize nameOf op = nm at *
 have sl := str_list
 by_cases hm : nm = []
 · subst hm
   rw [if_pos rfl]
   go_enter Tryz.func96, Tryz.ntmps96
   go_wp2_with (go_at_call 127; refine hn.mono ?_; rintro x w' ⟨rfl, rfl⟩)
   go_ret
   exact ⟨rfl, (Gr.refl w).alloc _⟩
 · rw [if_neg hm]
   have hq : nm.isEmpty = false := by simpa using hm
   cases ok with
   | true =>
     go_enter Tryz.func96, Tryz.ntmps96
     go_wp2_with (first | (go_at_call 127; refine hn.mono ?_; rintro x w' ⟨rfl, rfl⟩) | (go_at_call 128; refine hf.mono ?_; rintro x w' ⟨rfl, hG⟩))
     go_ret
     exact ⟨rfl, hG.of_alloc⟩
   | false =>
     go_enter Tryz.func96, Tryz.ntmps96
     go_wp2_with (first | (go_at_call 127; refine hn.mono ?_; rintro x w' ⟨rfl, rfl⟩) | (go_at_call 128; refine hf.mono ?_; rintro x w' ⟨rfl, hG⟩))
     go_ret
     exact ⟨rfl, hG.of_alloc⟩
end Go.Proofs.YthmlkcglglcljaaGreatDoor
