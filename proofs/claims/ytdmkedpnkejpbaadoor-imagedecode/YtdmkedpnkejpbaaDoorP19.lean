import Derived.Test.YtdmkedpnkejpbaaDoorP18
import Derived.Test.YtdmkedpnkejpbaaDoorP07
import Derived.Test.YtdmkedpnkejpbaaDoorP05
import Derived.Deep.AppendSrc
/-
  Stage 4, image: the chapter's first example: the reader's image, Decode.
-/
namespace Go.Proofs.YtdmkedpnkejpbaaDoor
open Go.RowKit

theorem least_pre : ((str leastS).extract 0 6).toList = (str magicB).toList := by rw [extract_any, str_list, str_list]; decide
set_option maxHeartbeats 400000 in
theorem litePrefix_least (w : World) :
    Calls Tryd.prog 50 #[.string (str leastS), .string (str magicB)] w fun x w' => x = .returned (.bool true) ∧ w = w' := by
  have s1 : (str leastS).size = 26 := rfl
  have s2 : (str magicB).size = 6 := rfl
  have e := least_pre
  generalize str leastS = S at *
  generalize str magicB = M at *
  go_enter Tryd.func50, Tryd.ntmps50
  go_wp2_with fail
  go_ret
  exact ⟨rfl, rfl⟩
set_option maxHeartbeats 400000 in
theorem HasPrefix_least (w : World) :
    Calls Tryd.prog 25 #[.string (str leastS), .string (str magicB)] w fun x w' => x = .returned (.bool true) ∧ w = w' := by
  have hl := litePrefix_least
  generalize str leastS = S at *
  generalize str magicB = M at *
  go_enter Tryd.func25, Tryd.ntmps25
  go_wp2_with (go_at_call 50; refine (hl _).mono ?_; rintro x w' ⟨rfl, rfl⟩)
  go_ret
  exact ⟨rfl, rfl⟩
set_option maxRecDepth 10000 in
set_option maxHeartbeats 2000000 in
theorem image_least (kr : Nat) (w : World) (ht : TabIn w) (h : RBox w kr leastS 0 0 0) (hk : 2 ≤ kr) :
    Calls Tryd.prog 12 #[.pointer (some ⟨kr, 0, none⟩)] w fun x w' => ∃ g c va vc g2 c2, x = .returned (.agg #[.slice none 0 0, .slice (some ⟨g, 0, none⟩) 1 c, .slice (some ⟨g2, 0, none⟩) 1 c2, .int .i64 1]) ∧ w'.ownsRow w.heap.size 57 2 (.slice (some ⟨g, 0, none⟩) 1 c) 1 [.slice none 0 0, .slice va 1 vc] ∧ LOwn w' w.heap.size (.slice va 1 vc) [retI1] ∧ w'.ownsRow w.heap.size 61 4 (.slice (some ⟨g2, 0, none⟩) 1 c2) 1 [.int .i64 0, .int .i64 0, .slice none 0 0, .slice none 0 0] ∧ RBox w' kr leastS 26 0 0 ∧ w.grownBy w' (some kr) := by
  have n1 : leN (sub leastS 6 1) = 1 := by decide
  have n2 : leN (sub leastS 7 1) = 0 := by decide
  have n3 : leN (sub leastS 8 1) = 1 := by decide
  have n4 : leN (sub leastS 9 1) = 1 := by decide
  have c1 := fun W h1 => count_ok leastS kr 6 1 0 W h1 (by decide) (by decide) (by omega)
  have c2 := fun W h1 => count_ok leastS kr 7 1 0 W h1 (by decide) (by decide) (by omega)
  have c3 := fun W h1 => count_ok leastS kr 8 1 0 W h1 (by decide) (by decide) (by omega)
  have c4 := fun W h1 => count_ok leastS kr 9 1 0 W h1 (by decide) (by decide) (by omega)
  rw [n1] at c1
  rw [n2] at c2
  rw [n3] at c3
  rw [n4] at c4
  have hp := HasPrefix_least
  have l1 := fun W h0 h1 => listComp_least kr W h0 h1 hk
  have l2 := fun W h1 => listGate_least kr W h1
  have ss : (str leastS).size = 26 := rfl
  generalize leastS = S at *
  have hne : w.heap.size ≠ kr := by have := h.lt; omega
  have hT : ∀ W, w.grownBy W (some kr) → TabIn W := fun W hg => ht.below (n := kr) (Below.of_grown hg (Nat.le_of_lt h.lt) (fun g e => by cases e; omega)) hk
  have ⟨z0, p0, f0⟩ := (h.alloc (.cells #[.slice none 0 0, .slice none 0 0, .slice none 0 0, .int .i64 0] 27)).at
  replace hT := Hid.mk hT
  clear n1 n2 n3 n4
  replace h := Hid.mk h
  go_enter Tryd.func12, Tryd.ntmps12
  go_wp2_with fail
  refine (hp _).mono ?_
  rintro x w1 ⟨rfl, rfl⟩
  go_wp2_with fail
  have h6 : RBox ((w.alloc (.cells #[.slice none 0 0, .slice none 0 0, .slice none 0 0, .int .i64 0] 27)).setCell ⟨kr, 1, none⟩ (.int .i64 6)) kr S 6 0 0 := (h.out.alloc _).set 1 (.int .i64 6)
  have hg := (grown_of ((Gr.refl w).alloc (.cells #[.slice none 0 0, .slice none 0 0, .slice none 0 0, .int .i64 0] 27)).below (some kr)).trans (grown_set _ kr 1 (.int .i64 6))
  have X := (Box.new w #[.slice none 0 0, .slice none 0 0, .slice none 0 0, .int .i64 0] 27).kept (grown_set _ kr 1 (.int .i64 6)) hne
  clear z0 p0 f0 h
  refine (c1 _ h6).mono ?_
  rintro x w1 ⟨rfl, h1, hg2⟩
  replace X := Hid.mk (X.kept hg2 hne)
  replace hg := Hid.mk (hg.trans hg2)
  replace h1 := Hid.mk h1
  clear hg2 h6 c1
  go_wp2_with fail
  refine (c2 _ h1.out).mono ?_
  rintro x w2 ⟨rfl, h2, hg2⟩
  replace X := Hid.mk (X.out.kept hg2 hne)
  replace hg := Hid.mk (hg.out.trans hg2)
  replace h2 := Hid.mk h2
  clear hg2 h1 c2
  go_wp2_with fail
  refine (c3 _ h2.out).mono ?_
  rintro x w3 ⟨rfl, h3, hg2⟩
  replace X := Hid.mk (X.out.kept hg2 hne)
  replace hg := Hid.mk (hg.out.trans hg2)
  replace h3 := Hid.mk h3
  clear hg2 h2 c3
  go_wp2_with fail
  refine (c4 _ h3.out).mono ?_
  rintro x w4 ⟨rfl, h4, hg2⟩
  replace X := Hid.mk (X.out.kept hg2 hne)
  replace hg := Hid.mk (hg.out.trans hg2)
  replace h4 := Hid.mk h4
  clear hg2 h3 c4
  go_wp2_with (go_at_call 28; refine (listRegion_nil _ _ _).mono ?_; rintro x w' ⟨rfl, rfl⟩)
  refine (l1 _ (hT.out _ hg.out) h4.out).mono ?_
  rintro x w5 ⟨g, c, va, vc, rfl, ho1, ho2, h5, hg2⟩
  replace X := Hid.mk (X.out.kept hg2 hne)
  replace ho1 := Hid.mk (own_base ho1 hg.out.size)
  replace ho2 := Hid.mk (own_base ho2 hg.out.size)
  replace hg := Hid.mk (hg.out.trans hg2)
  replace h5 := Hid.mk h5
  clear hg2 h4 l1
  go_wp2_with fail
  refine (l2 _ h5.out).mono ?_
  rintro x w6 ⟨g2, c2, rfl, ho3, h6, hg2⟩
  replace X := Hid.mk (X.out.kept hg2 hne)
  replace ho1 := Hid.mk (own_kept ho1.out hg2 (own_ne ho1.out h5.out (by decide)))
  replace ho2 := Hid.mk (own_kept ho2.out hg2 (own_ne ho2.out h5.out (by decide)))
  replace ho3 := Hid.mk (own_base ho3 hg.out.size)
  replace hg := Hid.mk (hg.out.trans hg2)
  replace h6 := Hid.mk h6
  clear hg2 h5 l2
  have ⟨z0, p0, f0⟩ := h6.out.at
  have ⟨z1, p1, f1⟩ := X.out.at
  have hws := hg.out.size
  go_wp2_with fail
  have hG6 : Gr w6 (w6.alloc (.cells #[.slice none 0 0, .slice (some ⟨g, 0, none⟩) 1 c, .slice (some ⟨g2, 0, none⟩) 1 c2, .int .i64 1] 27)) := (Gr.refl w6).alloc _
  refine wp_world (fun W => RBox W kr S 26 0 0 ∧ Box W w.heap.size #[.slice none 0 0, .slice none 0 0, .slice none 0 0, .int .i64 0] 27 ∧ Box W w6.heap.size #[.slice none 0 0, .slice (some ⟨g, 0, none⟩) 1 c, .slice (some ⟨g2, 0, none⟩) 1 c2, .int .i64 1] 27 ∧ (W.ownsRow w.heap.size 57 2 (.slice (some ⟨g, 0, none⟩) 1 c) 1 [.slice none 0 0, .slice va 1 vc] ∧ LOwn W w.heap.size (.slice va 1 vc) [retI1] ∧ W.ownsRow w.heap.size 61 4 (.slice (some ⟨g2, 0, none⟩) 1 c2) 1 [.int .i64 0, .int .i64 0, .slice none 0 0, .slice none 0 0]) ∧ w.grownBy W (some kr)) ⟨h6.out.gr hG6, X.out.gr hG6, Box.new _ _ _, ⟨own_below ho1.out hG6.below, own_below ho2.out hG6.below, own_below ho3.out hG6.below⟩, hg.out.trans (grown_of hG6.below _)⟩ ?_
  clear z0 p0 f0 z1 p1 f1 h6 X ho1 ho2 ho3 hg hG6
  rintro W ⟨h6, X, M, hO, hg⟩
  have ⟨z0, p0, f0⟩ := h6.at
  have ⟨z1, p1, f1⟩ := X.at
  have ⟨z2, p2, f2⟩ := M.at
  replace h6 := Hid.mk h6
  replace X := Hid.mk X
  replace M := Hid.mk M
  replace hO := Hid.mk hO
  replace hg := Hid.mk hg
  go_quiet (fail)
  go_wp2_with fail
  have hGn := (Gr.refl W).drewN nq
  have X' := X.out.gr hGn
  have b4 := (((X'.set 0 (.slice none 0 0)).set 1 (.slice (some ⟨g, 0, none⟩) 1 c)).set 2 (.slice (some ⟨g2, 0, none⟩) 1 c2)).set 3 (.int .i64 1)
  have h7 := ((((h6.out.gr hGn).kept (grown_set _ w.heap.size 0 (.slice none 0 0)) (Ne.symm hne)).kept (grown_set _ w.heap.size 1 (.slice (some ⟨g, 0, none⟩) 1 c)) (Ne.symm hne)).kept (grown_set _ w.heap.size 2 (.slice (some ⟨g2, 0, none⟩) 1 c2)) (Ne.symm hne)).kept (grown_set _ w.heap.size 3 (.int .i64 1)) (Ne.symm hne)
  have hg4 := grown_box (o := 3) (v := .int .i64 1) (grown_box (o := 2) (v := .slice (some ⟨g2, 0, none⟩) 1 c2) (grown_box (o := 1) (v := .slice (some ⟨g, 0, none⟩) 1 c) (grown_box (o := 0) (v := .slice none 0 0) (hg.out.trans (grown_of hGn.below _)) (Nat.le_refl _)) (Nat.le_refl _)) (Nat.le_refl _)) (Nat.le_refl _)
  have o1 := own_setBox (o := 3) (u := .int .i64 1) (own_setBox (o := 2) (u := .slice (some ⟨g2, 0, none⟩) 1 c2) (own_setBox (o := 1) (u := .slice (some ⟨g, 0, none⟩) 1 c) (own_setBox (o := 0) (u := .slice none 0 0) (own_below hO.out.1 hGn.below) X' (by decide)) (X'.set 0 _) (by decide)) ((X'.set 0 _).set 1 _) (by decide)) (((X'.set 0 _).set 1 _).set 2 _) (by decide)
  have o2 := own_setBox (o := 3) (u := .int .i64 1) (own_setBox (o := 2) (u := .slice (some ⟨g2, 0, none⟩) 1 c2) (own_setBox (o := 1) (u := .slice (some ⟨g, 0, none⟩) 1 c) (own_setBox (o := 0) (u := .slice none 0 0) (own_below hO.out.2.1 hGn.below) X' (by decide)) (X'.set 0 _) (by decide)) ((X'.set 0 _).set 1 _) (by decide)) (((X'.set 0 _).set 1 _).set 2 _) (by decide)
  have o3 := own_setBox (o := 3) (u := .int .i64 1) (own_setBox (o := 2) (u := .slice (some ⟨g2, 0, none⟩) 1 c2) (own_setBox (o := 1) (u := .slice (some ⟨g, 0, none⟩) 1 c) (own_setBox (o := 0) (u := .slice none 0 0) (own_below hO.out.2.2 hGn.below) X' (by decide)) (X'.set 0 _) (by decide)) ((X'.set 0 _).set 1 _) (by decide)) (((X'.set 0 _).set 1 _).set 2 _) (by decide)
  have ⟨_, q4, _⟩ := b4.at
  clear z0 p0 f0 z1 p1 f1 z2 p2 f2 X X' M hg h6 hO hGn b4
  generalize ((((W.drewN nq).setCell ⟨w.heap.size, 0, none⟩ (.slice none 0 0)).setCell ⟨w.heap.size, 1, none⟩ (.slice (some ⟨g, 0, none⟩) 1 c)).setCell ⟨w.heap.size, 2, none⟩ (.slice (some ⟨g2, 0, none⟩) 1 c2)).setCell ⟨w.heap.size, 3, none⟩ (.int .i64 1) = W4 at *
  simp [bodyPost, results, Tryd.results12, go_sem, q4]
  exact ⟨g, c, va, vc, g2, c2, ⟨⟨rfl, rfl⟩, rfl, rfl⟩, o1, o2, o3, h7, hg4⟩
end Go.Proofs.YtdmkedpnkejpbaaDoor


/-
  Rows of whole lists: what is appended, where it lies.
-/
namespace Go.Proofs.YtdmkedpnkejpbaaDoor
open Go.RowKit

theorem flatten_get {k : Nat} : ∀ {css : List (List Value)}, (∀ cs ∈ css, cs.length = k) → ∀ (i j : Nat) (cs : List Value), css[i]? = some cs → j < k → css.flatten[i * k + j]? = cs[j]?
  | [], _, i, _, cs, h, _ => by simp at h
  | c :: css, hl, 0, j, cs, h, hj => by
    obtain rfl : c = cs := by simpa using h
    have := hl c (by simp)
    rw [List.flatten_cons, Nat.zero_mul, Nat.zero_add, List.getElem?_append_left (by omega)]
  | c :: css, hl, i + 1, j, cs, h, hj => by
    have hc := hl c (by simp)
    rw [List.flatten_cons, List.getElem?_append_right (by rw [hc, Nat.succ_mul]; omega)]
    have e : (i + 1) * k + j - c.length = i * k + j := by rw [hc, Nat.succ_mul]; omega
    rw [e]
    exact flatten_get (fun x hx => hl x (by simp [hx])) i j cs (by simpa using h) hj
theorem flatMap_get {α : Type} {k : Nat} {vals : α → List Value} (hv : ∀ x, (vals x).length = k) (L : List α) (i j : Nat) (hi : i < L.length) (hj : j < k) : (L.flatMap vals)[i * k + j]? = (vals L[i])[j]? := by
  rw [List.flatMap_def]
  refine flatten_get (k := k) ?_ i j (vals L[i]) (by simp [hi]) hj
  intro cs h
  obtain ⟨x, _, rfl⟩ := List.mem_map.1 h
  exact hv x
theorem row_cell {w : World} {base e size g c n : Nat} {xs : List Value} (h : w.ownsRow base e size (.slice (some ⟨g, 0, none⟩) n c) n xs) (j : Nat) (v : Value) (hj : xs[j]? = some v) : w.cell? ⟨g, j, none⟩ = some v := by
  have hc := World.ownsRow.cells h (g := g) rfl j v hj
  have ea : (⟨g, 0, none⟩ : Addr).add j = ⟨g, j, none⟩ := by by_cases h0 : j = 0 <;> simp [Addr.add, h0]
  rwa [ea] at hc
theorem own_at {w : World} {base e size n c : Nat} {a : Option Addr} {xs : List Value} (h : w.ownsRow base e size (.slice a n c) n xs) (hn : 0 < n) : ∃ g, a = some ⟨g, 0, none⟩ ∧ base ≤ g ∧ g < w.heap.size := by
  have hb := own_block h
  rcases h.2 with ⟨e1, h0⟩ | ⟨g, cap, cur, e1, hbg, _⟩
  · omega
  · have e2 : a = some ⟨g, 0, none⟩ := by cases e1; rfl
    subst e2
    exact ⟨g, rfl, hb g rfl⟩
theorem own_cell {w : World} {base e size n c : Nat} {a : Option Addr} {xs : List Value} (h : w.ownsRow base e size (.slice a n c) n xs) {g : Nat} (ha : a = some ⟨g, 0, none⟩) (j : Nat) (v : Value) (hj : xs[j]? = some v) : w.cell? ⟨g, j, none⟩ = some v := by
  subst ha
  exact row_cell h j v hj
theorem own_fin {α : Type} {k : Nat} {vals : α → List Value} (hv : ∀ x, (vals x).length = k) {w : World} {base e c : Nat} {a : Option Addr} {L : List α} (h : w.ownsRow base e k (.slice a L.length c) L.length (L.flatMap vals)) : FIn k vals w.heap.size w a L := fun i hi => by
  obtain ⟨g, rfl, _, hg⟩ := own_at h (by omega)
  refine ⟨g, 0, rfl, hg, hg, fun j hj => ?_⟩
  have e := flatMap_get hv L i j hi hj
  have hs : j < (vals L[i]).length := by rw [hv]; exact hj
  rw [List.getElem?_eq_getElem hs] at e ⊢
  rw [Nat.zero_add]
  exact own_cell h rfl _ _ e
theorem slot_len (x : PSlot) : x.vals.length = 8 := rfl
theorem root_len (x : PRoot) : x.vals.length = 6 := rfl
theorem typ_len (x : PTyp) : x.vals.length = 7 := rfl
theorem infoType : (Tryd.prog.info? 88).map (fun i => (i.zero, i.size, i.bytes)) = some (some (.agg #[.bool false, .int .u64 0, .int .u64 0, .int .u64 0, .int .u64 0, .int .u8 0, .int .i64 0]), 7, 56) := by kernel_rfl
theorem infoSlot : (Tryd.prog.info? 91).map (fun i => (i.zero, i.size, i.bytes)) = some (some (.agg #[.bool false, .int .u64 0, .int .u64 0, .int .u64 0, .int .u64 0, .int .u8 0, .int .i64 0, .int .u64 0]), 8, 64) := by kernel_rfl
theorem infoRoot : (Tryd.prog.info? 93).map (fun i => (i.zero, i.size, i.bytes)) = some (some (.agg #[.int .i64 0, .int .u64 0, .int .u64 0, .int .u64 0, .int .u8 0, .int .i64 0]), 6, 48) := by kernel_rfl
/-- So many things as a row may have. -/
def Fit (n : Nat) : Prop := n * 64 ≤ 140737488355328
def FitB (k n : Nat) : Prop := n * k ≤ 140737488355328
theorem news_fin {α : Type} {k : Nat} {vals : α → List Value} (hv : ∀ x, (vals x).length = k) (hk : 0 < k) {w : World} {B : Nat} {a : Addr} {M : List α} (h : FIn k vals B w (some a) M) : ∀ j u, (M.flatMap vals)[j]? = some u → w.cell? (a.add j) = some u := by
  intro j u hj
  have hlen : (M.flatMap vals).length = M.length * k := by
    clear hj h
    induction M with
    | nil => simp
    | cons x M ih => rw [List.flatMap_cons, List.length_append, ih, hv, List.length_cons, Nat.succ_mul]; omega
  have hjl : j < M.length * k := by
    have := (List.getElem?_eq_some_iff.1 hj).1
    rwa [hlen] at this
  have hq : j / k < M.length := Nat.div_lt_of_lt_mul (by rw [Nat.mul_comm]; exact hjl)
  have hm : j % k < k := Nat.mod_lt _ hk
  obtain ⟨b, off, ha, _, _, hc⟩ := h (j / k) hq
  cases ha
  have ea : (⟨b, off, none⟩ : Addr).add j = ⟨b, off + j, none⟩ := by by_cases h0 : j = 0 <;> simp [Addr.add, h0]
  have hg := flatMap_get hv M (j / k) (j % k) hq hm
  have ej : j / k * k + j % k = j := by rw [Nat.mul_comm]; exact Nat.div_add_mod j k
  rw [ej, hj] at hg
  have := hc (j % k) hm
  rw [Nat.add_assoc, ej] at this
  rw [ea, this, ← hg]
theorem flatMap_len {α : Type} {k : Nat} {vals : α → List Value} (hv : ∀ x, (vals x).length = k) (M : List α) : (M.flatMap vals).length = M.length * k := by
  induction M with
  | nil => simp
  | cons x M ih => rw [List.flatMap_cons, List.length_append, ih, hv, List.length_cons, Nat.succ_mul]; omega
theorem slot_one (x : PSlot) : ∀ u ∈ x.vals, u.oneCell' = true := by
  intro u hu; simp [PSlot.vals, PTyp.vals] at hu; rcases hu with h | h | h | h | h | h | h | h <;> rw [h] <;> rfl
theorem root_one (x : PRoot) : ∀ u ∈ x.vals, u.oneCell' = true := by
  intro u hu; simp [PRoot.vals] at hu; rcases hu with h | h | h | h | h | h <;> rw [h] <;> rfl
theorem typ_one (x : PTyp) : ∀ u ∈ x.vals, u.oneCell' = true := by
  intro u hu; simp [PTyp.vals] at hu; rcases hu with h | h | h | h | h | h | h <;> rw [h] <;> rfl
/-- A whole list, appended to none. -/
theorem wpList_append_all {α : Type} {k : Nat} {vals : α → List Value} (hv : ∀ x, (vals x).length = k) (hk : 0 < k) (h1c : ∀ x, ∀ u ∈ vals x, u.oneCell' = true)
    {ops : Array Oper} {rest : List Oper} {o : Oper} {a : Act} {Q : Exit → Act → World → Prop} {w : World} (hgd : o.guard = none) (s x : Operand) (t e : TypeId) (z : Value) (bytes : Nat)
    (ho : o.op = .call { callee := .builtin .append, args := #[s, x], argTypes := #[t, t] }) (ht : Tryd.prog.underlying t = some (.slice e))
    (hi : (Tryd.prog.info? e).map (fun i => (i.zero, i.size, i.bytes)) = some (some z, k, bytes)) (hz : z.cells.size = k) (hby : 0 < bytes)
    (M : List α) (hs : a.eval s = .slice none 0 0) (ax : Option Addr) (c : Nat) (hx : a.eval x = .slice ax M.length c) (B : Nat) (hM : FIn k vals B w ax M) (hlen : FitB bytes M.length)
    (h : ∀ v' w', w'.ownsRow w.heap.size e k v' M.length (M.flatMap vals) → w.grownBy w' none → wpList Tryd.prog ops Q rest (a.put o.dst v') w') :
    wpList Tryd.prog ops Q (o :: rest) a w := by
  obtain ⟨i0, hi0, hz0, hz1, hz2⟩ := info_parts hi
  cases ax with
  | none =>
    have hM0 : M = [] := by
      cases M with
      | nil => rfl
      | cons y M =>
        obtain ⟨b, off, e, _⟩ := hM 0 (by simp)
        cases e
    subst hM0
    refine wpList_plain hgd fun K hK => ?_
    have hr : (Builtin.append_ #[t, t] o.type #[.slice none 0 0, .slice none 0 c]).run Tryd.prog w = .ok (.slice none 0 0) w := by
      simp [Builtin.append_, run_underlying ht, sizeOf, typeInfo, hi0, Builtin.lenOf, Builtin.firstCells]
    unfold Oper.wp execOp
    simp only [ho, resolve, invoke, builtin, Sem.run_bind, Sem.run_pure, Result.andThen_ok, List.map_toArray, List.map_cons, List.map_nil, hs, hx, List.length_nil, hr]
    exact hK _ _ (h (.slice none 0 0) w ⟨by simp, .inl ⟨rfl, rfl⟩⟩ ⟨rfl, rfl, rfl, Nat.le_refl _, fun _ _ _ => rfl⟩)
  | some ad =>
    unfold FitB at hlen
    have hb1 := Nat.le_mul_of_pos_right M.length hby
    have hb : (0 + M.length) * bytes ≤ 140737488355328 := by
      rw [Nat.zero_add]
      exact hlen
    refine wpList_append_own_at _ hgd s x t ho w.heap.size e i0 z k bytes ht hi0 hz0 hz1 hz2 hz hk
      (.slice none 0 0) 0 [] hs ⟨by simp, .inl ⟨rfl, rfl⟩⟩ ad M.length c (M.flatMap vals) hx (flatMap_len hv M) (news_fin hv hk hM) (fun u hu => by
        obtain ⟨y, _, hy⟩ := List.mem_flatMap.1 hu
        exact h1c y u hy) (by unfold maxLen; omega) hb (Nat.le_refl _) ?_
    intro v' w' k1 k2 _ _
    refine h v' w' ?_ k2
    simpa using k1
theorem fitB_of {k n : Nat} (h : Fit n) (hk : k ≤ 64) : FitB k n := by
  unfold Fit at h
  unfold FitB
  exact Nat.le_trans (Nat.mul_le_mul_left _ hk) h
end Go.Proofs.YtdmkedpnkejpbaaDoor
