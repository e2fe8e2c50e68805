import Derived.Test.YtpdekcchkhahcaaDoorP08
import Derived.Test.YtpdekcchkhahcaaDoorP09
import Derived.Laws.MakeOwn
import Derived.Laws.IdiomCopy
import Derived.BigFrame
/-
  Twins of programs: rows made and copied, elements of any size. No Go in sight.
-/
namespace Go.Proofs.YtpdekcchkhahcaaDoor
namespace Q
open Go.RowKit

theorem made_k {α : Type} {vals : α → List Value} {k : Nat} (hk : 0 < k) (hv : ∀ x, (vals x).length = k) (Z : α) (n : Nat) : madeCells (vals Z).toArray (n * k) = (rowV [] vals (List.replicate n Z)).toArray := by
  apply Array.ext_getElem?
  intro i
  have e : (rowV [] vals (List.replicate n Z)).toArray[i]? = (rowV [] vals (List.replicate n Z))[i]? := by simp
  rw [e]
  have hl := row_len (pre := []) hv (List.replicate n Z)
  rw [List.length_replicate] at hl
  by_cases h : i < n * k
  · have hd : i / k < n := by rw [Nat.div_lt_iff_lt_mul hk]; exact h
    have hm := Nat.mod_lt i hk
    have ei : i = ([] : List Value).length + i / k * k + i % k := by
      have := Nat.div_add_mod i k
      rw [Nat.mul_comm] at this
      simp; omega
    have r := row_at (pre := []) hv (List.replicate n Z) (i / k) (by simpa using hd) (i % k) hm
    rw [← ei] at r
    rw [r]
    have hz : i % k < (vals Z).length := by rw [hv]; exact hm
    simp [madeCells, h, hv]
    rw [List.getElem?_eq_getElem hz]
    rfl
  · rw [Array.getElem?_eq_none (by rw [size_madeCells]; omega), List.getElem?_eq_none (by rw [hl]; simp; omega)]
theorem info_partsQ {t : TypeId} {z : Value} {s b : Nat} (h : (Tryd.prog.info? t).map (fun i => (i.zero, i.size, i.bytes)) = some (some z, s, b)) :
    ∃ i, Tryd.prog.info? t = some i ∧ i.zero = some z ∧ i.size = s ∧ i.bytes = b := by
  obtain ⟨i, hi, he⟩ := Option.map_eq_some_iff.1 h
  simp only [Prod.mk.injEq] at he
  exact ⟨i, hi, he.1, he.2.1, he.2.2⟩
theorem make_k {α : Type} {vals : α → List Value} {t e : TypeId} {k b : Nat} {Z : α} (hk : 0 < k) (hv : ∀ x, (vals x).length = k) (ht : Tryd.prog.underlying t = some (.slice e))
    (hi : (Tryd.prog.info? e).map (fun i => (i.zero, i.size, i.bytes)) = some (some (.agg (vals Z).toArray), k, b)) (n : Nat) (hn : n ≤ 4611686018427387904) (hb : b * n ≤ 281474976710656) (w : World) :
    (Instr.makeSlice t (.int .i64 n) (.int .i64 n)).run Tryd.prog w = .ok (.slice (some ⟨w.heap.size, 0, none⟩) n n) (w.alloc (.cells (rowV [] vals (List.replicate n Z)).toArray e)) := by
  obtain ⟨i0, hi0, hz0, hz1, hz2⟩ := info_partsQ hi
  have hbb : (i0.bytes : Int) * (n : Int) ≤ 281474976710656 := by
    rw [hz2]
    have h : ((b * n : Nat) : Int) ≤ 281474976710656 := by omega
    rwa [Int.natCast_mul] at h
  have h := run_make (P := Tryd.prog) w t e i0 _ ht hi0 hz0 .i64 .i64 n n (by omega) (by omega) hbb (by omega)
  rw [hz1, Int.toNat_natCast, show (Value.agg (vals Z).toArray).cells = (vals Z).toArray from rfl, made_k hk hv] at h
  exact h
theorem run_copy_none {P : Program} (w : World) (dT sT ty elem : TypeId) (k : Nat) (d : Addr) (dLen dCap sCap : Nat) (hu : P.underlying dT = some (.slice elem)) (hs : (P.info? elem).map (·.size) = some k) :
    (Builtin.copy_ #[dT, sT] ty #[.slice (some d) dLen dCap, .slice none 0 sCap]).run P w = .ok (goInt 0) w := by
  cases hq : P.info? elem with
  | none => simp [hq] at hs
  | some i => simp [Builtin.copy_, run_underlying hu, Builtin.lenOf, Builtin.firstCells, sizeOf, typeInfo, hq, storeCells]
theorem run_copy_q {P : Program} (w : World) (dT sT ty elem : TypeId) (k b o dLen dCap : Nat) (a : Addr) (sLen sCap : Nat) (cs : List Value)
    (hu : P.underlying dT = some (.slice elem)) (hs : (P.info? elem).map (·.size) = some k) (hn : cs.length = Nat.min sLen dLen * k)
    (hsrc : ∀ j v, cs[j]? = some v → w.cell? (a.add j) = some v) (hc : ∀ j, j < cs.length → (w.cell? ⟨b, o + j, none⟩).isSome = true) (hf : ∀ j, j < cs.length → w.frozen? ⟨b, o + j, none⟩ = false) (h1 : ∀ v ∈ cs, v.oneCell' = true) :
    (Builtin.copy_ #[dT, sT] ty #[.slice (some ⟨b, o, none⟩) dLen dCap, .slice (some a) sLen sCap]).run P w = .ok (goInt (Nat.min sLen dLen)) (w.setCells b o cs) := by
  have hl := run_loadCells_list (P := P) w a cs hsrc
  have hst := run_storeCells_cells (P := P) b o cs 0 w (by simpa using hc) (by simpa using hf) h1
  cases hq : P.info? elem with
  | none => simp [hq] at hs
  | some i =>
    have hi : i.size = k := by simpa [hq] using hs
    simp [Builtin.copy_, run_underlying hu, Builtin.lenOf, Builtin.firstCells, sizeOf, typeInfo, hq, hi, ← hn, hl, hst]
theorem addr_addQ (b o j : Nat) : (⟨b, o, none⟩ : Addr).add j = ⟨b, o + j, none⟩ := by unfold Addr.add; split <;> simp_all
/-- A list copied to the head of a row. -/
theorem copy_rows {α : Type} {vals : α → List Value} {k : Nat} (hk : 0 < k) (hv : ∀ x, (vals x).length = k) (h1 : ∀ x, ∀ v ∈ vals x, v.oneCell' = true) {w : World} {B g : Nat} {l L : List α} {a : Option Addr} {c : Nat} {t e : TypeId} (ty : TypeId) (ht : Tryd.prog.underlying t = some (.slice e)) (hi : (Tryd.prog.info? e).map (·.size) = some k)
    (h : At w g (rowV [] vals l).toArray) (hL : FIn k vals B w a L) (hl : L.length ≤ l.length) :
    (Builtin.copy_ #[t, t] ty #[.slice (some ⟨g, 0, none⟩) l.length l.length, .slice a L.length c]).run Tryd.prog w = .ok (goInt L.length) (w.setCells g 0 (L.flatMap vals)) ∧ At (w.setCells g 0 (L.flatMap vals)) g (rowV [] vals (L ++ l.drop L.length)).toArray := by
  have e1 := flat_len hv L
  have e2 := row_len (pre := []) hv l
  have e3 := row_len (pre := []) hv (L ++ l.drop L.length)
  have hle : L.length * k ≤ l.length * k := Nat.mul_le_mul_right k hl
  constructor
  · cases a with
    | none =>
      have e0 : L = [] := by
        cases L with
        | nil => rfl
        | cons x L => obtain ⟨b, off, q, _⟩ := hL 0 (by simp); cases q
      subst e0
      exact run_copy_none w t t ty e k _ _ _ _ ht hi
    | some ad =>
      have hmin : Nat.min L.length l.length = L.length := Nat.min_eq_left hl
      have := run_copy_q (P := Tryd.prog) w t t ty e k g 0 l.length l.length ad L.length c (L.flatMap vals) ht hi (by rw [hmin]; exact e1) (fun j v hj => ?_) (fun j hj => ?_) (fun j hj => h.2.2 _) (fun v hv' => ?_)
      · rw [hmin] at this
        exact this
      · have hjl : j < L.length * k := by rw [← e1]; exact (List.getElem?_eq_some_iff.1 hj).1
        have hd : j / k < L.length := by rw [Nat.div_lt_iff_lt_mul hk]; exact hjl
        have hm := Nat.mod_lt j hk
        obtain ⟨b, off, q, _, _, hc⟩ := hL (j / k) hd
        cases q
        have ej : j = j / k * k + j % k := by
          have := Nat.div_add_mod j k
          rw [Nat.mul_comm] at this
          omega
        have r := flat_at' hv L (j / k) hd (j % k) hm
        rw [← ej, hj] at r
        rw [addr_addQ, show off + j = off + j / k * k + j % k by omega, hc _ hm, ← r]
      · rw [h.2.1, List.getElem?_toArray, List.getElem?_eq_getElem (by omega)]
        rfl
      · obtain ⟨x, _, hx⟩ := List.mem_flatMap.1 hv'
        exact h1 x v hx
  · refine h.setRange 0 (L.flatMap vals) ?_ (by omega) (fun j hj => ?_) (fun i hi => ?_)
    · rw [e3, e2, List.length_append, List.length_drop, show L.length + (l.length - L.length) = l.length by omega]
    · unfold rowV
      rw [Nat.zero_add, List.nil_append, List.flatMap_append, List.getElem?_append_left hj]
    · have hi' : L.length * k ≤ i := by omega
      unfold rowV
      rw [List.nil_append, List.nil_append, List.flatMap_append, List.getElem?_append_right (by omega)]
      have es : l.flatMap vals = (l.take L.length).flatMap vals ++ (l.drop L.length).flatMap vals := by rw [← List.flatMap_append, List.take_append_drop]
      have et := flat_len hv (l.take L.length)
      rw [List.length_take, Nat.min_eq_left hl] at et
      rw [es, List.getElem?_append_right (by omega), et, e1]
/-- A row while marks are laid. -/
structure Mk {α : Type} (vals : α → List Value) (M : α) (w : World) (g n j : Nat) (l : List α) (wr : World) : Prop where
  len : l.length = n
  at_ : At wr g (rowV [] vals l).toArray
  set : ∀ i, i < j → l[i]? = some M
  gr : Gr w wr
theorem Mk.grow {α : Type} {vals : α → List Value} {M : α} {w : World} {g n j : Nat} {l : List α} {wr wq : World} (h : Mk vals M w g n j l wr) (q : Gr wr wq) : Mk vals M w g n j l wq := ⟨h.len, h.at_.gr q, h.set, h.gr.trans q⟩
theorem Mk.there {α : Type} {vals : α → List Value} {M : α} {w : World} {g n j k : Nat} {l : List α} {wr : World} (hv : ∀ x, (vals x).length = k) (h : Mk vals M w g n j l wr) (hj : j < n) : wr.there g (j * k) k := by
  refine h.at_.there _ _ ?_
  rw [row_len hv, h.len]
  have : (j + 1) * k ≤ n * k := Nat.mul_le_mul_right k hj
  rw [Nat.add_mul] at this
  simp; omega
theorem Mk.next {α : Type} {vals : α → List Value} {M : α} {w : World} {g n j k : Nat} {l : List α} {wr : World} (hv : ∀ x, (vals x).length = k) (h : Mk vals M w g n j l wr) (hj : j < n) (hg : w.heap.size ≤ g) : Mk vals M w g n (j + 1) (l.set j M) (wr.setCells g (j * k) (vals M)) := by
  refine ⟨by rw [List.length_set]; exact h.len, h.at_.setElem hv j (by rw [h.len]; exact hj) M (j * k) (by simp), fun i hi => ?_, h.gr.setCells g hg _ _⟩
  by_cases e : i = j
  · subst e; simp [h.len, hj]
  · rw [List.getElem?_set_ne (fun r => e r.symm)]
    exact h.set i (by omega)
theorem Mk.all {α : Type} {vals : α → List Value} {M : α} {w : World} {g n : Nat} {l : List α} {wr : World} (h : Mk vals M w g n n l wr) : l = List.replicate n M := by
  apply List.ext_getElem?
  intro i
  by_cases hi : i < n
  · rw [h.set i hi]; simp [hi]
  · rw [List.getElem?_eq_none (by rw [h.len]; omega), List.getElem?_eq_none (by simp; omega)]
/-- A list with eight marks behind it. -/
def marked {α : Type} (M : α) (L : List α) : List α := L ++ List.replicate 8 M
theorem marked_drop {α : Type} (M : α) (L : List α) : L ++ (List.replicate (L.length + 8) M).drop L.length = marked M L := by
  unfold marked
  rw [List.drop_replicate, show L.length + 8 - L.length = 8 by omega]
theorem lin_fin {B : Nat} {w : World} {a : Option Addr} {L : List Ins} (h : LIn B w a L) : FIn 5 Ins.vals B w a L := fun i hi => by
  obtain ⟨b, off, e, h1, h2, h3⟩ := h i hi
  refine ⟨b, off, e, h1, h2, fun j hj => ?_⟩
  obtain ⟨c0, c1, c2, c3, c4⟩ := h3
  match j, hj with
  | 0, _ => exact c0
  | 1, _ => exact c1
  | 2, _ => exact c2
  | 3, _ => exact c3
  | 4, _ => exact c4
  | n + 5, h => omega
end Q
end Go.Proofs.YtpdekcchkhahcaaDoor


/-
  Twins of programs: lists with marks behind them.
-/
namespace Go.Proofs.YtpdekcchkhahcaaDoor
namespace Q
open Go.RowKit

def instM : Ins := { op := 222, a := -7, b := 0, c := 0, m := 0 }
def typeM : PTyp := { cap := true, b := 77, e := 0, lo := 0, hi := 0, p := 0, s := 222 }
def rootM : PRoot := { r := -7, b := 0, e := 0, c := 0, p := 0, s := 0 }
def slotM : PSlot := { t := typeM, c := 0 }
def instZ : Ins := { op := 0, a := 0, b := 0, c := 0, m := 0 }
def typeZ : PTyp := { cap := false, b := 0, e := 0, lo := 0, hi := 0, p := 0, s := 0 }
def rootZ : PRoot := { r := 0, b := 0, e := 0, c := 0, p := 0, s := 0 }
def slotZ : PSlot := { t := typeZ, c := 0 }
theorem ins_len (x : Ins) : x.vals.length = 5 := rfl
theorem typ_len (x : PTyp) : x.vals.length = 7 := rfl
theorem rot_len (x : PRoot) : x.vals.length = 6 := rfl
theorem slt_len (x : PSlot) : x.vals.length = 8 := rfl
theorem ins_one (x : Ins) : ∀ v ∈ x.vals, v.oneCell' = true := by
  intro v h
  simp only [Ins.vals, List.mem_cons, List.not_mem_nil, or_false] at h
  rcases h with rfl | rfl | rfl | rfl | rfl <;> rfl
theorem typ_one (x : PTyp) : ∀ v ∈ x.vals, v.oneCell' = true := by
  intro v h
  simp only [PTyp.vals, List.mem_cons, List.not_mem_nil, or_false] at h
  rcases h with rfl | rfl | rfl | rfl | rfl | rfl | rfl <;> rfl
theorem rot_one (x : PRoot) : ∀ v ∈ x.vals, v.oneCell' = true := by
  intro v h
  simp only [PRoot.vals, List.mem_cons, List.not_mem_nil, or_false] at h
  rcases h with rfl | rfl | rfl | rfl | rfl | rfl <;> rfl
theorem slt_one (x : PSlot) : ∀ v ∈ x.vals, v.oneCell' = true := by
  intro v h
  simp only [PSlot.vals, PTyp.vals, List.cons_append, List.nil_append, List.mem_cons, List.not_mem_nil, or_false] at h
  rcases h with rfl | rfl | rfl | rfl | rfl | rfl | rfl | rfl <;> rfl
set_option maxHeartbeats 400000 in
theorem instMark_any (w : World) : Calls Tryd.prog 25 #[] w fun x w' => x = .returned (.agg #[.int .u8 222, .int .i64 (-7), .int .i64 0, .int .i64 0, .int .i64 0]) ∧ Gr w w' := by
  have hg : Hid (∀ (o : Nat → Value) (n : Nat), True) := Hid.mk (fun _ _ => True.intro)
  go_enter Tryd.func25, Tryd.ntmps25
  go_wp2_with fail
  simp [bodyPost, results, Tryd.results25, go_sem]
  exact ((Gr.refl w).alloc _)
set_option maxHeartbeats 400000 in
theorem typeMark_any (w : World) : Calls Tryd.prog 24 #[] w fun x w' => x = .returned (.agg #[.bool true, .int .u64 77, .int .u64 0, .int .u64 0, .int .u64 0, .int .u8 0, .int .i64 222]) ∧ Gr w w' := by
  have hg : Hid (∀ (o : Nat → Value) (n : Nat), True) := Hid.mk (fun _ _ => True.intro)
  go_enter Tryd.func24, Tryd.ntmps24
  go_wp2_with fail
  simp [bodyPost, results, Tryd.results24, go_sem]
  exact ((Gr.refl w).alloc _)
set_option maxRecDepth 100000 in
set_option maxHeartbeats 2000000 in
theorem insts_any (L : List Ins) (a : Option Addr) (c B : Nat) (w : World) (hL : LIn B w a L) (hb : 40 * (L.length + 8) ≤ 281474976710656) (hB : B ≤ w.heap.size) : Calls Tryd.prog 15 #[.slice a L.length c] w fun x w' => x = .returned (.slice (some ⟨w.heap.size, 0, none⟩) L.length (L.length + 8)) ∧ At w' w.heap.size (rowV [] Ins.vals (marked instM L)).toArray ∧ Gr w w' := by
  have hm := make_k (vals := Ins.vals) (Z := instZ) (t := 51) (e := 70) (k := 5) (b := 40) (by omega) ins_len Tryd.underlying51 (by kernel_rfl) (L.length + 8) (by omega) hb w
  rw [show ((L.length + 8 : Nat) : Int) = (L.length : Int) + 8 by omega] at hm
  have hI0 := Hid.mk (show Mk Ins.vals instM w w.heap.size (L.length + 8) 0 (List.replicate (L.length + 8) instZ) (w.alloc (.cells (rowV [] Ins.vals (List.replicate (L.length + 8) instZ)).toArray 70)) from ⟨by simp, At.new _ _ _, fun i hi => by omega, (Gr.refl w).alloc _⟩)
  have hC := Hid.mk (fun (l : List Ins) (wr : World) (h : Mk Ins.vals instM w w.heap.size (L.length + 8) (L.length + 8) l wr) => show ((Builtin.copy_ #[51, 51] 3 #[.slice (some ⟨w.heap.size, 0, none⟩) (L.length + 8) (L.length + 8), .slice a L.length c]).run Tryd.prog wr = .ok (goInt L.length) (wr.setCells w.heap.size 0 (L.flatMap Ins.vals))) ∧ At (wr.setCells w.heap.size 0 (L.flatMap Ins.vals)) w.heap.size (rowV [] Ins.vals (marked instM L)).toArray ∧ Gr w (wr.setCells w.heap.size 0 (L.flatMap Ins.vals)) by
    have q := copy_rows (B := B) (c := c) (k := 5) (by omega) ins_len ins_one 3 Tryd.underlying51 (by kernel_rfl) h.at_ (lin_fin (hL.below ⟨h.gr.below.os, h.gr.below.tape, h.gr.below.output, h.gr.below.size, fun k hk => h.gr.below.block k (by omega)⟩)) (by rw [h.len]; omega)
    rw [h.len] at q
    refine ⟨q.1, ?_, h.gr.setCells _ (Nat.le_refl _) _ _⟩
    have q2 := q.2
    rw [h.all, marked_drop] at q2
    exact q2)
  have hM := Hid.mk (fun W => instMark_any W)
  skip
  have hle : L.length ≤ 281474976710648 := by omega
  have hw8 : wrap64 ((L.length : Int) + 8) = (L.length : Int) + 8 := by unfold wrap64; omega
  clear hL hb hB 
  generalize List.replicate (L.length + 8) instZ = l0 at *
  generalize hA0 : Obj.cells (rowV [] Ins.vals l0).toArray 70 = ob at *
  clear hA0
  go_enter Tryd.func15, Tryd.ntmps15
  go_upto_region 3 with fail
  clear hm
  generalize w.alloc ob = W0 at *
  go_loopw [4] (fun x wr => ∃ (j : Nat) (l : List Ins), x = .int .i64 j ∧ j ≤ L.length + 8 ∧ Hid (Mk Ins.vals instM w w.heap.size (L.length + 8) j l wr)) (fun x _ => L.length + 8 - (intOf x).toNat)
  case atStart => exact ⟨0, l0, rfl, by omega, hI0⟩
  case round =>
    clear hI0
    obtain ⟨j, l, rfl, hj, hI⟩ := hrel
    by_cases hlt : j < L.length + 8
    · have hi1 : (j : Int) < (L.length : Int) + 8 := by omega
      go_upto_region 5 with fail
      refine wp_region_lit ?_
      refine wpList_plain rfl (fun K hK => ?_)
      go_simp
      with_reducible refine hK _ _ ?_
      clear hK K
      try simp only [Act.put, List.setIfInBounds_toArray, List.set_cons_zero, List.set_cons_succ]
      refine wpList_plain rfl (fun K hK => ?_)
      go_simp
      with_reducible refine hK _ _ ?_
      clear hK K
      try simp only [Act.put, List.setIfInBounds_toArray, List.set_cons_zero, List.set_cons_succ]
      refine wpList_plain rfl (fun K hK => ?_)
      go_simp
      (go_at_call 25; refine (hM.out _).mono ?_; rintro x wq ⟨rfl, q9⟩; replace q9 := Hid.mk q9)
      with_reducible refine hK _ _ ?_
      clear hK K
      try simp only [Act.put, List.setIfInBounds_toArray, List.set_cons_zero, List.set_cons_succ]
      refine wpList_plain rfl (fun K hK => ?_)
      go_simp
      with_reducible refine hK _ _ ?_
      clear hK K
      try simp only [Act.put, List.setIfInBounds_toArray, List.set_cons_zero, List.set_cons_succ]
      have hS := Hid.mk (hI.out.grow q9.out)
      have hN := Hid.mk (hS.out.next ins_len hlt (Nat.le_refl _))
      have hT := Hid.mk (hS.out.there ins_len hlt)
      refine wpList_plain rfl (fun K hK => ?_)
      refine wp_store_mid _ _ _ rfl _ _ (List.toArray (Ins.vals instM)) rfl rfl hT.out (by kernel_rfl) (all_oneCell_toArray (ins_one _)) (hK _ _ ?_)
      clear hK K hS hT hI
      try simp only [Act.put]
      generalize World.setCells _ _ _ _ = W5 at *
      go_wp2_with fail
      exact ⟨⟨j + 1, _, by go_num, by omega, hN⟩, by simp [intOf]; omega⟩
    · have hi1 : ¬ (j : Int) < (L.length : Int) + 8 := by omega
      have ej : j = L.length + 8 := by omega
      subst ej
      obtain ⟨d1, d2, d3⟩ := hC.out l wr hI.out
      have hi2 : (L.length : Int) ≤ (L.length : Int) + 8 := by omega
      replace d2 := Hid.mk d2
      replace d3 := Hid.mk d3
      generalize World.setCells _ _ _ _ = W5 at *
      go_wp2_with fail
      go_ret
      exact ⟨rfl, d2.out, d3.out⟩
set_option maxRecDepth 100000 in
set_option maxHeartbeats 2000000 in
theorem typed_any (L : List PTyp) (a : Option Addr) (c B : Nat) (w : World) (hL : FIn 7 PTyp.vals B w a L) (hb : 56 * (L.length + 8) ≤ 281474976710656) (hB : B ≤ w.heap.size) : Calls Tryd.prog 16 #[.slice a L.length c] w fun x w' => x = .returned (.slice (some ⟨w.heap.size, 0, none⟩) L.length (L.length + 8)) ∧ At w' w.heap.size (rowV [] PTyp.vals (marked typeM L)).toArray ∧ Gr w w' := by
  have hm := make_k (vals := PTyp.vals) (Z := typeZ) (t := 56) (e := 74) (k := 7) (b := 56) (by omega) typ_len Tryd.underlying56 (by kernel_rfl) (L.length + 8) (by omega) hb w
  rw [show ((L.length + 8 : Nat) : Int) = (L.length : Int) + 8 by omega] at hm
  have hI0 := Hid.mk (show Mk PTyp.vals typeM w w.heap.size (L.length + 8) 0 (List.replicate (L.length + 8) typeZ) (w.alloc (.cells (rowV [] PTyp.vals (List.replicate (L.length + 8) typeZ)).toArray 74)) from ⟨by simp, At.new _ _ _, fun i hi => by omega, (Gr.refl w).alloc _⟩)
  have hC := Hid.mk (fun (l : List PTyp) (wr : World) (h : Mk PTyp.vals typeM w w.heap.size (L.length + 8) (L.length + 8) l wr) => show ((Builtin.copy_ #[56, 56] 3 #[.slice (some ⟨w.heap.size, 0, none⟩) (L.length + 8) (L.length + 8), .slice a L.length c]).run Tryd.prog wr = .ok (goInt L.length) (wr.setCells w.heap.size 0 (L.flatMap PTyp.vals))) ∧ At (wr.setCells w.heap.size 0 (L.flatMap PTyp.vals)) w.heap.size (rowV [] PTyp.vals (marked typeM L)).toArray ∧ Gr w (wr.setCells w.heap.size 0 (L.flatMap PTyp.vals)) by
    have q := copy_rows (B := B) (c := c) (k := 7) (by omega) typ_len typ_one 3 Tryd.underlying56 (by kernel_rfl) h.at_ (id (hL.below ⟨h.gr.below.os, h.gr.below.tape, h.gr.below.output, h.gr.below.size, fun k hk => h.gr.below.block k (by omega)⟩)) (by rw [h.len]; omega)
    rw [h.len] at q
    refine ⟨q.1, ?_, h.gr.setCells _ (Nat.le_refl _) _ _⟩
    have q2 := q.2
    rw [h.all, marked_drop] at q2
    exact q2)
  have hM := Hid.mk (fun W => typeMark_any W)
  skip
  have hle : L.length ≤ 281474976710648 := by omega
  have hw8 : wrap64 ((L.length : Int) + 8) = (L.length : Int) + 8 := by unfold wrap64; omega
  clear hL hb hB 
  generalize List.replicate (L.length + 8) typeZ = l0 at *
  generalize hA0 : Obj.cells (rowV [] PTyp.vals l0).toArray 74 = ob at *
  clear hA0
  go_enter Tryd.func16, Tryd.ntmps16
  go_upto_region 3 with fail
  clear hm
  generalize w.alloc ob = W0 at *
  go_loopw [4] (fun x wr => ∃ (j : Nat) (l : List PTyp), x = .int .i64 j ∧ j ≤ L.length + 8 ∧ Hid (Mk PTyp.vals typeM w w.heap.size (L.length + 8) j l wr)) (fun x _ => L.length + 8 - (intOf x).toNat)
  case atStart => exact ⟨0, l0, rfl, by omega, hI0⟩
  case round =>
    clear hI0
    obtain ⟨j, l, rfl, hj, hI⟩ := hrel
    by_cases hlt : j < L.length + 8
    · have hi1 : (j : Int) < (L.length : Int) + 8 := by omega
      go_upto_region 5 with fail
      refine wp_region_lit ?_
      refine wpList_plain rfl (fun K hK => ?_)
      go_simp
      with_reducible refine hK _ _ ?_
      clear hK K
      try simp only [Act.put, List.setIfInBounds_toArray, List.set_cons_zero, List.set_cons_succ]
      refine wpList_plain rfl (fun K hK => ?_)
      go_simp
      with_reducible refine hK _ _ ?_
      clear hK K
      try simp only [Act.put, List.setIfInBounds_toArray, List.set_cons_zero, List.set_cons_succ]
      refine wpList_plain rfl (fun K hK => ?_)
      go_simp
      (go_at_call 24; refine (hM.out _).mono ?_; rintro x wq ⟨rfl, q9⟩; replace q9 := Hid.mk q9)
      with_reducible refine hK _ _ ?_
      clear hK K
      try simp only [Act.put, List.setIfInBounds_toArray, List.set_cons_zero, List.set_cons_succ]
      refine wpList_plain rfl (fun K hK => ?_)
      go_simp
      with_reducible refine hK _ _ ?_
      clear hK K
      try simp only [Act.put, List.setIfInBounds_toArray, List.set_cons_zero, List.set_cons_succ]
      have hS := Hid.mk (hI.out.grow q9.out)
      have hN := Hid.mk (hS.out.next typ_len hlt (Nat.le_refl _))
      have hT := Hid.mk (hS.out.there typ_len hlt)
      refine wpList_plain rfl (fun K hK => ?_)
      refine wp_store_mid _ _ _ rfl _ _ (List.toArray (PTyp.vals typeM)) rfl rfl hT.out (by kernel_rfl) (all_oneCell_toArray (typ_one _)) (hK _ _ ?_)
      clear hK K hS hT hI
      try simp only [Act.put]
      generalize World.setCells _ _ _ _ = W5 at *
      go_wp2_with fail
      exact ⟨⟨j + 1, _, by go_num, by omega, hN⟩, by simp [intOf]; omega⟩
    · have hi1 : ¬ (j : Int) < (L.length : Int) + 8 := by omega
      have ej : j = L.length + 8 := by omega
      subst ej
      obtain ⟨d1, d2, d3⟩ := hC.out l wr hI.out
      have hi2 : (L.length : Int) ≤ (L.length : Int) + 8 := by omega
      replace d2 := Hid.mk d2
      replace d3 := Hid.mk d3
      generalize World.setCells _ _ _ _ = W5 at *
      go_wp2_with fail
      go_ret
      exact ⟨rfl, d2.out, d3.out⟩
set_option maxRecDepth 100000 in
set_option maxHeartbeats 2000000 in
theorem roots_any (L : List PRoot) (a : Option Addr) (c B : Nat) (w : World) (hL : FIn 6 PRoot.vals B w a L) (hb : 48 * (L.length + 8) ≤ 281474976710656) (hB : B ≤ w.heap.size) : Calls Tryd.prog 14 #[.slice a L.length c] w fun x w' => x = .returned (.slice (some ⟨w.heap.size, 0, none⟩) L.length (L.length + 8)) ∧ At w' w.heap.size (rowV [] PRoot.vals (marked rootM L)).toArray ∧ Gr w w' := by
  have hm := make_k (vals := PRoot.vals) (Z := rootZ) (t := 50) (e := 49) (k := 6) (b := 48) (by omega) rot_len Tryd.underlying50 (by kernel_rfl) (L.length + 8) (by omega) hb w
  rw [show ((L.length + 8 : Nat) : Int) = (L.length : Int) + 8 by omega] at hm
  have hI0 := Hid.mk (show Mk PRoot.vals rootM w w.heap.size (L.length + 8) 0 (List.replicate (L.length + 8) rootZ) (w.alloc (.cells (rowV [] PRoot.vals (List.replicate (L.length + 8) rootZ)).toArray 49)) from ⟨by simp, At.new _ _ _, fun i hi => by omega, (Gr.refl w).alloc _⟩)
  have hC := Hid.mk (fun (l : List PRoot) (wr : World) (h : Mk PRoot.vals rootM w w.heap.size (L.length + 8) (L.length + 8) l wr) => show ((Builtin.copy_ #[50, 50] 3 #[.slice (some ⟨w.heap.size, 0, none⟩) (L.length + 8) (L.length + 8), .slice a L.length c]).run Tryd.prog wr = .ok (goInt L.length) (wr.setCells w.heap.size 0 (L.flatMap PRoot.vals))) ∧ At (wr.setCells w.heap.size 0 (L.flatMap PRoot.vals)) w.heap.size (rowV [] PRoot.vals (marked rootM L)).toArray ∧ Gr w (wr.setCells w.heap.size 0 (L.flatMap PRoot.vals)) by
    have q := copy_rows (B := B) (c := c) (k := 6) (by omega) rot_len rot_one 3 Tryd.underlying50 (by kernel_rfl) h.at_ (id (hL.below ⟨h.gr.below.os, h.gr.below.tape, h.gr.below.output, h.gr.below.size, fun k hk => h.gr.below.block k (by omega)⟩)) (by rw [h.len]; omega)
    rw [h.len] at q
    refine ⟨q.1, ?_, h.gr.setCells _ (Nat.le_refl _) _ _⟩
    have q2 := q.2
    rw [h.all, marked_drop] at q2
    exact q2)
  have hM := Hid.mk (fun W => Gr.refl W)
  skip
  have hle : L.length ≤ 281474976710648 := by omega
  have hw8 : wrap64 ((L.length : Int) + 8) = (L.length : Int) + 8 := by unfold wrap64; omega
  clear hL hb hB 
  generalize List.replicate (L.length + 8) rootZ = l0 at *
  generalize hA0 : Obj.cells (rowV [] PRoot.vals l0).toArray 49 = ob at *
  clear hA0
  go_enter Tryd.func14, Tryd.ntmps14
  go_upto_region 3 with fail
  clear hm
  generalize w.alloc ob = W0 at *
  go_loopw [4] (fun x wr => ∃ (j : Nat) (l : List PRoot), x = .int .i64 j ∧ j ≤ L.length + 8 ∧ Hid (Mk PRoot.vals rootM w w.heap.size (L.length + 8) j l wr)) (fun x _ => L.length + 8 - (intOf x).toNat)
  case atStart => exact ⟨0, l0, rfl, by omega, hI0⟩
  case round =>
    clear hI0
    obtain ⟨j, l, rfl, hj, hI⟩ := hrel
    by_cases hlt : j < L.length + 8
    · have hi1 : (j : Int) < (L.length : Int) + 8 := by omega
      go_upto_region 5 with fail
      refine wp_region_lit ?_
      refine wpList_plain rfl (fun K hK => ?_)
      go_simp
      with_reducible refine hK _ _ ?_
      clear hK K
      try simp only [Act.put, List.setIfInBounds_toArray, List.set_cons_zero, List.set_cons_succ]
      refine wpList_plain rfl (fun K hK => ?_)
      go_simp
      with_reducible refine hK _ _ ?_
      clear hK K
      try simp only [Act.put, List.setIfInBounds_toArray, List.set_cons_zero, List.set_cons_succ]
      refine wpList_plain rfl (fun K hK => ?_)
      go_simp
      with_reducible refine hK _ _ ?_
      clear hK K
      try simp only [Act.put, List.setIfInBounds_toArray, List.set_cons_zero, List.set_cons_succ]
      refine wpList_plain rfl (fun K hK => ?_)
      go_simp
      with_reducible refine hK _ _ ?_
      clear hK K
      try simp only [Act.put, List.setIfInBounds_toArray, List.set_cons_zero, List.set_cons_succ]
      have hS := Hid.mk (hI.out)
      have hN := Hid.mk (hS.out.next rot_len hlt (Nat.le_refl _))
      have hT := Hid.mk (hS.out.there rot_len hlt)
      refine wpList_plain rfl (fun K hK => ?_)
      refine wp_store_mid _ _ _ rfl _ _ (List.toArray (PRoot.vals rootM)) rfl rfl hT.out (by kernel_rfl) (all_oneCell_toArray (rot_one _)) (hK _ _ ?_)
      clear hK K hS hT hI
      try simp only [Act.put]
      generalize World.setCells _ _ _ _ = W5 at *
      go_wp2_with fail
      exact ⟨⟨j + 1, _, by go_num, by omega, hN⟩, by simp [intOf]; omega⟩
    · have hi1 : ¬ (j : Int) < (L.length : Int) + 8 := by omega
      have ej : j = L.length + 8 := by omega
      subst ej
      obtain ⟨d1, d2, d3⟩ := hC.out l wr hI.out
      have hi2 : (L.length : Int) ≤ (L.length : Int) + 8 := by omega
      replace d2 := Hid.mk d2
      replace d3 := Hid.mk d3
      generalize World.setCells _ _ _ _ = W5 at *
      go_wp2_with fail
      go_ret
      exact ⟨rfl, d2.out, d3.out⟩
set_option maxRecDepth 100000 in
set_option maxHeartbeats 2000000 in
theorem slots_any (L : List PSlot) (a : Option Addr) (c B : Nat) (w : World) (hL : FIn 8 PSlot.vals B w a L) (hb : 64 * (L.length + 8) ≤ 281474976710656) (hB : B ≤ w.heap.size) (hl0 : L ≠ []) : Calls Tryd.prog 13 #[.slice a L.length c] w fun x w' => x = .returned (.slice (some ⟨w.heap.size, 0, none⟩) L.length (L.length + 8)) ∧ At w' w.heap.size (rowV [] PSlot.vals (marked slotM L)).toArray ∧ Gr w w' := by
  have hm := make_k (vals := PSlot.vals) (Z := slotZ) (t := 44) (e := 77) (k := 8) (b := 64) (by omega) slt_len Tryd.underlying44 (by kernel_rfl) (L.length + 8) (by omega) hb w
  rw [show ((L.length + 8 : Nat) : Int) = (L.length : Int) + 8 by omega] at hm
  have hI0 := Hid.mk (show Mk PSlot.vals slotM w w.heap.size (L.length + 8) 0 (List.replicate (L.length + 8) slotZ) (w.alloc (.cells (rowV [] PSlot.vals (List.replicate (L.length + 8) slotZ)).toArray 77)) from ⟨by simp, At.new _ _ _, fun i hi => by omega, (Gr.refl w).alloc _⟩)
  have hC := Hid.mk (fun (l : List PSlot) (wr : World) (h : Mk PSlot.vals slotM w w.heap.size (L.length + 8) (L.length + 8) l wr) => show ((Builtin.copy_ #[44, 44] 3 #[.slice (some ⟨w.heap.size, 0, none⟩) (L.length + 8) (L.length + 8), .slice a L.length c]).run Tryd.prog wr = .ok (goInt L.length) (wr.setCells w.heap.size 0 (L.flatMap PSlot.vals))) ∧ At (wr.setCells w.heap.size 0 (L.flatMap PSlot.vals)) w.heap.size (rowV [] PSlot.vals (marked slotM L)).toArray ∧ Gr w (wr.setCells w.heap.size 0 (L.flatMap PSlot.vals)) by
    have q := copy_rows (B := B) (c := c) (k := 8) (by omega) slt_len slt_one 3 Tryd.underlying44 (by kernel_rfl) h.at_ (id (hL.below ⟨h.gr.below.os, h.gr.below.tape, h.gr.below.output, h.gr.below.size, fun k hk => h.gr.below.block k (by omega)⟩)) (by rw [h.len]; omega)
    rw [h.len] at q
    refine ⟨q.1, ?_, h.gr.setCells _ (Nat.le_refl _) _ _⟩
    have q2 := q.2
    rw [h.all, marked_drop] at q2
    exact q2)
  have hM := Hid.mk (fun W => typeMark_any W)
  have hl9 : L.length ≠ 0 := fun h => hl0 (List.length_eq_zero_iff.1 h)
  have hl8 : ((L.length : Int) == 0) = false := by rw [beq_eq_false_iff_ne]; omega
  have hl7 : ¬ (L.length : Int) = 0 := by omega
  have hl6 : L ≠ [] := hl0
  have hle : L.length ≤ 281474976710648 := by omega
  have hw8 : wrap64 ((L.length : Int) + 8) = (L.length : Int) + 8 := by unfold wrap64; omega
  clear hL hb hB hl0
  generalize List.replicate (L.length + 8) slotZ = l0 at *
  generalize hA0 : Obj.cells (rowV [] PSlot.vals l0).toArray 77 = ob at *
  clear hA0
  go_enter Tryd.func13, Tryd.ntmps13
  go_upto_region 5 with fail
  clear hm
  generalize w.alloc ob = W0 at *
  go_loopw [4] (fun x wr => ∃ (j : Nat) (l : List PSlot), x = .int .i64 j ∧ j ≤ L.length + 8 ∧ Hid (Mk PSlot.vals slotM w w.heap.size (L.length + 8) j l wr)) (fun x _ => L.length + 8 - (intOf x).toNat)
  case atStart => exact ⟨0, l0, rfl, by omega, hI0⟩
  case round =>
    clear hI0
    obtain ⟨j, l, rfl, hj, hI⟩ := hrel
    by_cases hlt : j < L.length + 8
    · have hi1 : (j : Int) < (L.length : Int) + 8 := by omega
      go_upto_region 7 with fail
      refine wp_region_lit ?_
      refine wpList_plain rfl (fun K hK => ?_)
      go_simp
      with_reducible refine hK _ _ ?_
      clear hK K
      try simp only [Act.put, List.setIfInBounds_toArray, List.set_cons_zero, List.set_cons_succ]
      refine wpList_plain rfl (fun K hK => ?_)
      go_simp
      with_reducible refine hK _ _ ?_
      clear hK K
      try simp only [Act.put, List.setIfInBounds_toArray, List.set_cons_zero, List.set_cons_succ]
      refine wpList_plain rfl (fun K hK => ?_)
      go_simp
      (go_at_call 24; refine (hM.out _).mono ?_; rintro x wq ⟨rfl, q9⟩; replace q9 := Hid.mk q9)
      with_reducible refine hK _ _ ?_
      clear hK K
      try simp only [Act.put, List.setIfInBounds_toArray, List.set_cons_zero, List.set_cons_succ]
      refine wpList_plain rfl (fun K hK => ?_)
      go_simp
      with_reducible refine hK _ _ ?_
      clear hK K
      try simp only [Act.put, List.setIfInBounds_toArray, List.set_cons_zero, List.set_cons_succ]
      refine wpList_plain rfl (fun K hK => ?_)
      go_simp
      with_reducible refine hK _ _ ?_
      clear hK K
      try simp only [Act.put, List.setIfInBounds_toArray, List.set_cons_zero, List.set_cons_succ]
      have hS := Hid.mk (hI.out.grow q9.out)
      have hN := Hid.mk (hS.out.next slt_len hlt (Nat.le_refl _))
      have hT := Hid.mk (hS.out.there slt_len hlt)
      refine wpList_plain rfl (fun K hK => ?_)
      refine wp_store_mid _ _ _ rfl _ _ (List.toArray (PSlot.vals slotM)) rfl rfl hT.out (by kernel_rfl) (all_oneCell_toArray (slt_one _)) (hK _ _ ?_)
      clear hK K hS hT hI
      try simp only [Act.put]
      generalize World.setCells _ _ _ _ = W5 at *
      go_wp2_with fail
      exact ⟨⟨j + 1, _, by go_num, by omega, hN⟩, by simp [intOf]; omega⟩
    · have hi1 : ¬ (j : Int) < (L.length : Int) + 8 := by omega
      have ej : j = L.length + 8 := by omega
      subst ej
      obtain ⟨d1, d2, d3⟩ := hC.out l wr hI.out
      have hi2 : (L.length : Int) ≤ (L.length : Int) + 8 := by omega
      replace d2 := Hid.mk d2
      replace d3 := Hid.mk d3
      generalize World.setCells _ _ _ _ = W5 at *
      go_wp2_with fail
      go_ret
      exact ⟨rfl, d2.out, d3.out⟩
end Q
end Go.Proofs.YtpdekcchkhahcaaDoor
