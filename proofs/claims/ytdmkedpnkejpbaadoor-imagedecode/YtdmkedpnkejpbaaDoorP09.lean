import Derived.Test.YtdmkedpnkejpbaaDoorP08
/-
  Stage 4, image: typesRight, rootsRight.
-/
namespace Go.Proofs.YtdmkedpnkejpbaaDoor
open Go.RowKit

theorem typ_cells {w : World} {b o : Nat} {t : PTyp} (h : ∀ j, j < 7 → w.cell? ⟨b, o + j, none⟩ = t.vals[j]?) :
    w.cell? ⟨b, o, none⟩ = some (.bool t.cap) ∧ w.cell? ⟨b, o + 1, none⟩ = some (.int .u64 t.b) ∧ w.cell? ⟨b, o + 1 + 1, none⟩ = some (.int .u64 t.e) ∧ w.cell? ⟨b, o + 1 + 1 + 1, none⟩ = some (.int .u64 t.lo) ∧ w.cell? ⟨b, o + 1 + 1 + 1 + 1, none⟩ = some (.int .u64 t.hi) ∧ w.cell? ⟨b, o + 1 + 1 + 1 + 1 + 1, none⟩ = some (.int .u8 t.p) ∧ w.cell? ⟨b, o + 1 + 1 + 1 + 1 + 1 + 1, none⟩ = some (.int .i64 t.s) :=
  ⟨h 0 (by omega), h 1 (by omega), h 2 (by omega), h 3 (by omega), h 4 (by omega), h 5 (by omega), h 6 (by omega)⟩
theorem root_cells {w : World} {b o : Nat} {t : PRoot} (h : ∀ j, j < 6 → w.cell? ⟨b, o + j, none⟩ = t.vals[j]?) :
    w.cell? ⟨b, o, none⟩ = some (.int .i64 t.r) ∧ w.cell? ⟨b, o + 1, none⟩ = some (.int .u64 t.b) ∧ w.cell? ⟨b, o + 1 + 1, none⟩ = some (.int .u64 t.e) ∧ w.cell? ⟨b, o + 1 + 1 + 1, none⟩ = some (.int .u64 t.c) ∧ w.cell? ⟨b, o + 1 + 1 + 1 + 1, none⟩ = some (.int .u8 t.p) ∧ w.cell? ⟨b, o + 1 + 1 + 1 + 1 + 1, none⟩ = some (.int .i64 t.s) :=
  ⟨h 0 (by omega), h 1 (by omega), h 2 (by omega), h 3 (by omega), h 4 (by omega), h 5 (by omega)⟩
theorem slot_cells {w : World} {b o : Nat} {t : PSlot} (h : ∀ j, j < 8 → w.cell? ⟨b, o + j, none⟩ = t.vals[j]?) :
    w.cell? ⟨b, o, none⟩ = some (.bool t.t.cap) ∧ w.cell? ⟨b, o + 1, none⟩ = some (.int .u64 t.t.b) ∧ w.cell? ⟨b, o + 1 + 1, none⟩ = some (.int .u64 t.t.e) ∧ w.cell? ⟨b, o + 1 + 1 + 1, none⟩ = some (.int .u64 t.t.lo) ∧ w.cell? ⟨b, o + 1 + 1 + 1 + 1, none⟩ = some (.int .u64 t.t.hi) ∧ w.cell? ⟨b, o + 1 + 1 + 1 + 1 + 1, none⟩ = some (.int .u8 t.t.p) ∧ w.cell? ⟨b, o + 1 + 1 + 1 + 1 + 1 + 1, none⟩ = some (.int .i64 t.t.s) ∧ w.cell? ⟨b, o + 1 + 1 + 1 + 1 + 1 + 1 + 1, none⟩ = some (.int .u64 t.c) :=
  ⟨h 0 (by omega), h 1 (by omega), h 2 (by omega), h 3 (by omega), h 4 (by omega), h 5 (by omega), h 6 (by omega), h 7 (by omega)⟩
theorem typesR_at {L : List PTyp} {j : Nat} (h : j < L.length) : typesR (L.drop j) = (L[j].right && typesR (L.drop (j + 1))) := by
  rw [List.drop_eq_getElem_cons h, typesR]
theorem drop_end {α : Type} {L : List α} {j : Nat} (h : ¬ j < L.length) : L.drop j = [] := by rw [List.drop_eq_nil_iff]; omega
set_option maxHeartbeats 1000000 in
theorem typesRight_any (L : List PTyp) (c : Nat) (a : Option Addr) (w : World) (hL : FIn 7 PTyp.vals w.heap.size w a L) (hl : L.length ≤ 140737488355328) :
    Calls Tryd.prog 66 #[.slice a L.length c] w fun x w' => x = .returned (.bool (typesR L)) ∧ Gr w w' := by
  replace hL := Hid.mk hL
  go_enter Tryd.func66, Tryd.ntmps66
  go_wp2_with fail
  go_loopw [7] (fun i wr => ∃ j : Nat, i = .int .i64 j ∧ j ≤ L.length ∧ Hid (typesR (L.drop j) = typesR L ∧ Gr w wr)) (fun i _ => L.length - (intOf i).toNat)
  case atStart => exact ⟨0, rfl, by omega, ⟨rfl, Gr.refl w⟩⟩
  case round =>
    obtain ⟨j, rfl, hj, ⟨hf, hG⟩⟩ := hrel
    by_cases hlt : j < L.length
    · have jl : (j : Int) < L.length := by omega
      obtain ⟨b, off, rfl, hb, hb2, hc⟩ := hL.out.below hG.below j hlt
      obtain ⟨c0, c1, c2, c3, c4, c5, c6⟩ := typ_cells hc
      clear hc
      rw [typesR_at hlt] at hf
      have ht := typeRight_any L[j]
      generalize L[j] = t at *
      generalize t.right = q at hf ht
      replace hf := Hid.mk hf
      replace hG := Hid.mk hG
      cases q
      all_goals
        go_wp2_with fail
        refine (ht _).mono ?_
        rintro x w2 ⟨rfl, hG2⟩
        replace hG := hG.out.trans hG2.of_alloc
        clear hG2
        replace hG := Hid.mk hG
        go_wp2_with fail
      · go_ret
        exact ⟨ret_bool (by rw [← hf.out]; simp), hG.out⟩
      · go_roundw
        case rel => exact ⟨j + 1, by simp, by omega, ⟨by rw [← hf.out]; simp, hG.out⟩⟩
        case measure => simp [intOf]; omega
    · have jl : ¬ (j : Int) < L.length := by omega
      rw [drop_end hlt] at hf
      replace hf := Hid.mk hf
      replace hG := Hid.mk hG
      go_wp2_with fail
      go_ret
      exact ⟨ret_bool hf.out, hG.out⟩
theorem rootsR_yes {L : List PRoot} {j : Nat} {f : Int} (h : j < L.length) (h1 : f < L[j].r) (h2 : L[j].r < 16) (h3 : dataB L[j].b L[j].e L[j].p L[j].s = true) : rootsR (L.drop j) f = rootsR (L.drop (j + 1)) L[j].r := by
  rw [List.drop_eq_getElem_cons h, rootsR, if_pos ⟨h1, h2, h3⟩]
theorem rootsR_no {L : List PRoot} {j : Nat} {f : Int} (h : j < L.length) (h1 : ¬ (f < L[j].r ∧ L[j].r < 16 ∧ dataB L[j].b L[j].e L[j].p L[j].s = true)) : rootsR (L.drop j) f = false := by
  rw [List.drop_eq_getElem_cons h, rootsR, if_neg h1]
set_option maxHeartbeats 1000000 in
theorem rootsRight_any (L : List PRoot) (c : Nat) (a : Option Addr) (w : World) (hL : FIn 6 PRoot.vals w.heap.size w a L) (hl : L.length ≤ 140737488355328) :
    Calls Tryd.prog 64 #[.slice a L.length c] w fun x w' => x = .returned (.bool (rootsR L 7)) ∧ Gr w w' := by
  replace hL := Hid.mk hL
  go_enter Tryd.func64, Tryd.ntmps64
  go_wp2_with fail
  go_loopw [3, 8] (fun v i wr => ∃ (j : Nat) (f : Int), v = .int .i64 f ∧ i = .int .i64 j ∧ j ≤ L.length ∧ Hid (rootsR (L.drop j) f = rootsR L 7 ∧ Gr w wr)) (fun _ i _ => L.length - (intOf i).toNat)
  case atStart => exact ⟨0, 7, rfl, rfl, by omega, ⟨rfl, Gr.refl w⟩⟩
  case round =>
    obtain ⟨j, f, rfl, rfl, hj, ⟨hf, hG⟩⟩ := hrel
    by_cases hlt : j < L.length
    · have jl : (j : Int) < L.length := by omega
      obtain ⟨b, off, rfl, hb, hb2, hc⟩ := hL.out.below hG.below j hlt
      obtain ⟨c0, c1, c2, c3, c4, c5⟩ := root_cells hc
      clear hc
      have hy := rootsR_yes (f := f) hlt
      have hn := rootsR_no (f := f) hlt
      rw [hf] at hy hn
      clear hf
      have ht := dataCap_any L[j].b L[j].e L[j].c L[j].p L[j].s
      generalize L[j] = t at *
      generalize dataB t.b t.e t.p t.s = q at *
      replace hG := Hid.mk hG
      by_cases k1 : t.r ≤ f
      · replace hn := Hid.mk (hn (fun h => by omega))
        clear hy
        go_wp2_with fail
        go_ret
        exact ⟨ret_bool hn.out.symm, hG.out.alloc _⟩
      by_cases k2 : 16 ≤ t.r
      · replace hn := Hid.mk (hn (fun h => by omega))
        clear hy
        go_wp2_with fail
        go_ret
        exact ⟨ret_bool hn.out.symm, hG.out.alloc _⟩
      have k1' : ¬ t.r ≤ f := k1
      have k2' : ¬ 16 ≤ t.r := k2
      cases q
      · replace hn := Hid.mk (hn (fun h => by simp at h))
        clear hy
        have L1 := grow_cell; have L2 := grow_frozen; have L3 := grow_set; have L4 := grow_lt; have L5 := glt1; have L6 := glt2; have L7 := glt3; have L8 := glt4; have L9 := glt5; have L10 := glt6; have L11 := lt1; have L12 := lt2; have L13 := lt3; have L14 := lt4; have L15 := lt5; have L16 := lt6; have L17 := lt7; have L18 := lt8
        go_wp2_with (go_at_call 81; refine (ht _).mono ?_; rintro x w' ⟨rfl, hG⟩; (repeat (replace hG := Gr.of_grow hG)); obtain ⟨l, rfl⟩ := hG)
        go_ret
        exact ⟨ret_bool hn.out.symm, (hG.out.alloc _).grow _⟩
      · replace hy := Hid.mk (hy (by omega) (by omega) rfl)
        clear hn
        have L1 := grow_cell; have L2 := grow_frozen; have L3 := grow_set; have L4 := grow_lt; have L5 := glt1; have L6 := glt2; have L7 := glt3; have L8 := glt4; have L9 := glt5; have L10 := glt6; have L11 := lt1; have L12 := lt2; have L13 := lt3; have L14 := lt4; have L15 := lt5; have L16 := lt6; have L17 := lt7; have L18 := lt8
        go_wp2_with (go_at_call 81; refine (ht _).mono ?_; rintro x w' ⟨rfl, hG⟩; (repeat (replace hG := Gr.of_grow hG)); obtain ⟨l, rfl⟩ := hG)
        go_roundw
        case rel => exact ⟨j + 1, t.r, rfl, by simp, by omega, ⟨hy.out.symm, (hG.out.alloc _).grow _⟩⟩
        case measure => simp [intOf]; omega
    · have jl : ¬ (j : Int) < L.length := by omega
      rw [drop_end hlt] at hf
      replace hf := Hid.mk hf
      replace hG := Hid.mk hG
      go_wp2_with fail
      go_ret
      exact ⟨ret_bool hf.out, hG.out⟩
end Go.Proofs.YtdmkedpnkejpbaaDoor


/-
  Stage 4, image: the writer's put.
-/
namespace Go.Proofs.YtdmkedpnkejpbaaDoor
open Go.RowKit

/-- A block of these cells, of this type. -/
def Box (w : World) (k : Nat) (cs : Array Value) (t : TypeId) : Prop := w.heap[k]? = some (.cells cs t (0, 0))
theorem Box.new (w : World) (cs : Array Value) (t : TypeId) : Box (w.alloc (.cells cs t)) w.heap.size cs t := (MapKept.heap_alloc w _).1
theorem Box.lt {w : World} {k : Nat} {cs : Array Value} {t : TypeId} (h : Box w k cs t) : k < w.heap.size := (Array.getElem?_eq_some_iff.1 h).1
theorem Box.below {w w1 : World} {k B : Nat} {cs : Array Value} {t : TypeId} (h : Box w k cs t) (hb : Below B w w1) (hk : k < B) : Box w1 k cs t := (hb.block k hk).trans h
theorem Box.gr {w w1 : World} {k : Nat} {cs : Array Value} {t : TypeId} (h : Box w k cs t) (hb : Gr w w1) : Box w1 k cs t := h.below hb.below h.lt
theorem Box.alloc {w : World} {k : Nat} {cs : Array Value} {t : TypeId} (h : Box w k cs t) (o : Obj) : Box (w.alloc o) k cs t := h.gr ((Gr.refl w).alloc o)
theorem Box.at {w : World} {k : Nat} {cs : Array Value} {t : TypeId} (h : Box w k cs t) : At w k cs := one_at h
/-- What the writer may have done: what lies below is as it was, and so is every block that is no row of bytes and no writer. -/
structure Wrote (base : Nat) (w w' : World) : Prop where
  below : Below base w w'
  keep : ∀ k cs t, t ≠ 5 → t ≠ 70 → Box w k cs t → Box w' k cs t
theorem Wrote.refl (base : Nat) (w : World) : Wrote base w w := ⟨Below.refl _ _, fun _ _ _ _ _ h => h⟩
theorem Wrote.trans {base : Nat} {a b c : World} (h : Wrote base a b) (k : Wrote base b c) : Wrote base a c := ⟨h.below.trans k.below, fun i cs t h1 h2 hb => k.keep i cs t h1 h2 (h.keep i cs t h1 h2 hb)⟩
theorem Wrote.gr {base : Nat} {w w' : World} (h : Gr w w') (hb : base ≤ w.heap.size) : Wrote base w w' := ⟨h.below.mono hb, fun _ _ _ _ _ hb => hb.gr h⟩
theorem Wrote.size {base : Nat} {w w' : World} (h : Wrote base w w') : w.heap.size ≤ w'.heap.size := h.below.size
/-- The box is written anew behind an append. -/
theorem Wrote.stored {w w1 : World} {base kw : Nat} {v v' : Value} {B B' : List UInt8} (hk : base ≤ kw) (h2 : w.heap[kw]? = some (.cells #[v] 70 (0, 0))) (h3 : BOwn w base v B) (hg : w.grownBy w1 v.ownBlock) (h4 : BOwn w1 base v' B') : Wrote base w (w1.setCell ⟨kw, 0, none⟩ v') := by
  refine ⟨(WBox.stored hk h2 h3 hg h4).2.2, fun k cs t t1 t2 hb => ?_⟩
  have hne : k ≠ kw := by
    rintro rfl
    unfold Box at hb
    rw [h2] at hb
    simp at hb
    exact t2 hb.2.symm
  unfold Box
  rw [Below.heap_setCell _ _ _ _ hne]
  exact (hg.block k hb.lt (fun e => own_ne h3 hb t1 e.symm)).trans hb
/-- A number's bytes, the lowest first. -/
def leB : Nat → Int → List UInt8
  | 0, _ => []
  | k + 1, n => UInt8.ofNat (n % 256).toNat :: leB k (n / 256)
theorem leB_length (k : Nat) (n : Int) : (leB k n).length = k := by
  induction k generalizing n with
  | zero => rfl
  | succ k ih => simp [leB, ih]
def putB (k : Nat) : List Int → List UInt8
  | [] => []
  | n :: l => leB k n ++ putB k l
theorem putB_length (k : Nat) (L : List Int) : (putB k L).length = k * L.length := by
  induction L with
  | nil => simp [putB]
  | cons n l ih => simp only [putB, List.length_append, leB_length, ih, List.length_cons]; rw [Nat.mul_succ]; omega
theorem putB_at {k : Nat} {L : List Int} {j : Nat} (h : j < L.length) : putB k (L.drop j) = leB k L[j] ++ putB k (L.drop (j + 1)) := by
  rw [List.drop_eq_getElem_cons h, putB]
set_option maxHeartbeats 2000000 in
theorem put_any (k : Nat) (L : List Int) (X cx : Nat) (base kw : Nat) (B : List UInt8) (w : World) (h : WBox w base kw B) (hX : Box w X (L.map (Value.int .u64)).toArray 36) (hL : ∀ n ∈ L, W64 n) (hk : k ≤ 8) (hlen : B.length + k * L.length ≤ 140737488355328) (hl : L.length ≤ 1000) :
    Calls Tryd.prog 46 #[.pointer (some ⟨kw, 0, none⟩), .int .i64 k, .slice (some ⟨X, 0, none⟩) L.length cx] w fun x w' => x = .returned (.tuple #[]) ∧ WBox w' base kw (B ++ putB k L) ∧ Wrote base w w' := by
  have hbs := h.lt
  replace h := Hid.mk h
  replace hX := Hid.mk hX
  replace hL := Hid.mk hL
  replace hlen := Hid.mk hlen
  go_enter Tryd.func46, Tryd.ntmps46
  go_wp2_with fail
  go_loopw [10] (fun i wr => ∃ (j : Nat) (B1 : List UInt8), i = .int .i64 j ∧ j ≤ L.length ∧ Hid (WBox wr base kw B1 ∧ B1 ++ putB k (L.drop j) = B ++ putB k L ∧ Wrote base w wr)) (fun i _ => L.length - (intOf i).toNat)
  case atStart => exact ⟨0, B, rfl, by omega, ⟨h.out, rfl, Wrote.refl _ _⟩⟩
  case round =>
    clear h
    obtain ⟨j, B1, rfl, hj, ⟨hW, hB1, hWr⟩⟩ := hrel
    by_cases hlt : j < L.length
    · have jl : (j : Int) < L.length := by omega
      have hXr := hWr.keep _ _ _ (by decide) (by decide) hX.out
      have c0 : wr.cell? ⟨X, j, none⟩ = some (.int .u64 L[j]) := by rw [hXr.at.2.1]; simp [hlt]
      have hn := hL.out L[j] (List.getElem_mem hlt)
      rw [putB_at hlt] at hB1
      generalize L[j] = n at *
      clear hXr
      replace hB1 := Hid.mk hB1
      replace hW := Hid.mk hW
      replace hWr := Hid.mk hWr
      go_wp2_with fail
      go_loopw [7, 15] (fun v i ws => ∃ (q : Nat) (n' : Int) (B2 : List UInt8), v = .int .u64 n' ∧ i = .int .i64 q ∧ q ≤ k ∧ Hid (W64 n' ∧ WBox ws base kw B2 ∧ B2 ++ leB (k - q) n' = B1 ++ leB k n ∧ Wrote base w ws)) (fun _ i _ => k - (intOf i).toNat)
      case atStart => exact ⟨0, n, B1, rfl, rfl, by omega, ⟨hn, hW.out, rfl, hWr.out⟩⟩
      case round =>
        clear hW hWr
        obtain ⟨q, n', B2, rfl, rfl, hq, ⟨hn', hW, hB2, hWr⟩⟩ := hrel
        by_cases hql : q < k
        · have ql : (q : Int) < k := by omega
          obtain ⟨hk0, v, hb2, h3⟩ := hW
          obtain ⟨a, c, rfl⟩ := own_form h3
          have hcv : IntKind.u8.wrap n' = n' % 256 := IntKind.wrap_u8 n'
          have hbv : byteV (UInt8.ofNat (n' % 256).toNat) = .int .u8 (n' % 256) := byteV_of _ (by omega) (by omega)
          have hb3 : Box (wr.alloc (.cells #[.int .u8 (n' % 256)] 5)) kw #[.slice a B2.length c] 70 := Box.alloc hb2 _
          have h4 : BOwn (wr.alloc (.cells #[.int .u8 (n' % 256)] 5)) base (.slice a B2.length c) B2 := own_below h3 ((Gr.refl wr).alloc _).below
          have hst := fun v' w1 => WBox.stored (w1 := w1) (v' := v') (B' := B2 ++ [UInt8.ofNat (n' % 256).toNat]) hk0 hb3 h4
          have hst2 := fun v' w1 => Wrote.stored (w1 := w1) (v' := v') (B' := B2 ++ [UInt8.ofNat (n' % 256).toNat]) hk0 hb3 h4
          have hA := Wrote.gr ((Gr.refl wr).alloc (.cells #[.int .u8 (n' % 256)] 5)) (base := base) (by have := hWr.size; omega)
          have ⟨z0, p0, f0⟩ := one_at hb2
          have hX1 : At (wr.alloc (.cells #[.int .u8 (n' % 256)] 5)) wr.heap.size ([UInt8.ofNat (n' % 256).toNat].map byteV).toArray := by
            rw [List.map_cons, hbv]; exact At.new _ _ _
          have e1 : k - q = (k - (q + 1)) + 1 := by omega
          have hl2 : B2.length + 1 ≤ 140737488355328 := by
            have h1 := congrArg List.length hB2
            have h2 := congrArg List.length hB1.out
            have h3 := hlen.out
            simp only [List.length_append, leB_length, putB_length] at h1 h2
            omega
          rw [e1, leB] at hB2
          have hn2 : W64 (n' / 256) := by unfold W64 at *; omega
          have hn0 := hn'.1
          have hs0 : base ≤ (wr.alloc (.cells #[.int .u8 (n' % 256)] 5)).heap.size := by have := hWr.size; simp; omega
          replace hb2 := Hid.mk hb2
          replace hb3 := Hid.mk hb3
          replace h3 := Hid.mk h3
          replace h4 := Hid.mk h4
          replace hst := Hid.mk hst
          replace hst2 := Hid.mk hst2
          replace hX1 := Hid.mk hX1
          replace hB2 := Hid.mk hB2
          replace hl2 := Hid.mk hl2
          replace hWr := Hid.mk (hWr.trans hA)
          replace hs0 := Hid.mk hs0
          clear hbv hA
          go_wp2_with (at_builtin; refine wpList_append_bytes rfl (.tmp 21) (.tmp 24) rfl base (.slice a B2.length c) B2 [UInt8.ofNat (n' % 256).toNat] rfl h4.out wr.heap.size 1 rfl hX1.out rfl (by omega) hl2.out hs0.out ?_)
          intro g c' w1 hO hg
          obtain ⟨⟨z1, p1, f1⟩, hW, hBe⟩ := hst.out _ w1 hg hO
          have hWr2 := hst2.out _ w1 hg hO
          replace hW := Hid.mk hW
          replace hWr := Hid.mk (hWr.out.trans hWr2)
          replace hO := Hid.mk hO
          clear hg hBe hWr2 z0 p0 f0
          go_wp2_with fail
          exact ⟨⟨q + 1, n' / 256, B2 ++ [UInt8.ofNat (n' % 256).toNat], rfl, by go_num, by omega, ⟨hn2, hW.out, by rw [← hB2.out]; simp, hWr.out⟩⟩, by simp [intOf]; omega⟩
        · have ql : ¬ (q : Int) < k := by omega
          obtain rfl : q = k := by omega
          rw [Nat.sub_self, leB, List.append_nil] at hB2
          subst hB2
          replace hW := Hid.mk hW
          replace hWr := Hid.mk hWr
          go_wp2_with fail
          go_roundw
          case rel => exact ⟨j + 1, _, by simp, by omega, ⟨hW.out, by rw [← hB1.out, List.append_assoc], hWr.out⟩⟩
          case measure => simp [intOf]; omega
    · have jl : ¬ (j : Int) < L.length := by omega
      rw [drop_end hlt, putB, List.append_nil] at hB1
      subst hB1
      replace hW := Hid.mk hW
      replace hWr := Hid.mk hWr
      go_wp2_with fail
      simp [bodyPost, results, Tryd.results46, go_sem]
      exact ⟨hW.out, hWr.out⟩
set_option maxRecDepth 100000 in
set_option maxHeartbeats 1000000 in
theorem text_any' (s : List UInt8) (base kw : Nat) (B : List UInt8) (w : World) (h : WBox w base kw B) (hlen : B.length + s.length ≤ 140737488355328) :
    Calls Tryd.prog 45 #[.pointer (some ⟨kw, 0, none⟩), .string (str s)] w fun x w' => x = .returned (.tuple #[]) ∧ WBox w' base kw (B ++ s) ∧ Wrote base w w' := by
  have hbs := h.lt
  obtain ⟨hk, v, h2, h3⟩ := h
  obtain ⟨a, c, rfl⟩ := own_form h3
  have hst := fun v' w1 => WBox.stored (w1 := w1) (v' := v') (B' := B ++ s) hk h2 h3
  have hst2 := fun v' w1 => Wrote.stored (w1 := w1) (v' := v') (B' := B ++ s) hk h2 h3
  have ⟨z0, p0, f0⟩ := one_at h2
  replace h2 := Hid.mk h2
  replace h3 := Hid.mk h3
  replace hst := Hid.mk hst
  replace hst2 := Hid.mk hst2
  go_enter Tryd.func45, Tryd.ntmps45
  go_wp2_with (at_builtin; refine wpList_append_text rfl (.tmp 8) (.tmp 9) rfl base (.slice a B.length c) B s rfl h3.out rfl hlen hbs ?_)
  intro v' w1 hO hg
  obtain ⟨⟨z1, p1, f1⟩, hW, hBe⟩ := hst.out v' w1 hg hO
  replace hBe := hst2.out v' w1 hg hO
  obtain ⟨a', c', rfl⟩ := own_form hO
  rw [List.length_append] at hO hW hBe ⊢
  replace hO := Hid.mk hO
  replace hW := Hid.mk hW
  replace hBe := Hid.mk hBe
  clear hg
  go_wp2_with fail
  simp [bodyPost, results, Tryd.results45, go_sem]
  exact ⟨hW.out, hBe.out⟩
end Go.Proofs.YtdmkedpnkejpbaaDoor
