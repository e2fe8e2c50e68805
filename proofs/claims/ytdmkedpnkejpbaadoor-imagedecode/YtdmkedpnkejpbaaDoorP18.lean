import Derived.Test.YtdmkedpnkejpbaaDoorP11
import Derived.Test.YtdmkedpnkejpbaaDoorP17
import Derived.Maps.RangeWalk
/-
  Stage 4, image: the chapter's first example: its bytes, read.
-/
namespace Go.Proofs.YtdmkedpnkejpbaaDoor
open Go.RowKit

def retI1 : Ins := ⟨32, 0, 0, 0, 0⟩
/-- The chapter's first example, and its bytes. -/
def leastP : PImg := ⟨[], [⟨[], [retI1]⟩], [⟨0, 0, [], []⟩], 1⟩
def leastS : List UInt8 := [80, 65, 68, 68, 75, 49, 1, 0, 1, 1, 0, 1, 0, 32, 0, 0, 0, 0, 0, 0, 0, 0, 0, 0, 0, 0]
theorem least_bytes : imgB leastP = leastS := by decide
theorem least_right : leastP.right = 0 := by decide
theorem least_enc : encI leastP = (leastS, 0) := by
  unfold encI
  rw [if_pos least_right, least_bytes, if_pos (by decide)]
set_option maxHeartbeats 1000000 in
theorem listRoot_nil (kr : Nat) (f : Value) (w : World) :
    Calls Tryd.prog 56 #[.pointer (some ⟨kr, 0, none⟩), .int .i64 0, f] w fun x w' => x = .returned (.slice none 0 0) ∧ w = w' := by
  go_enter Tryd.func56, Tryd.ntmps56
  go_wp2_with fail
  go_loopw [7, 10] (fun l i wr => l = .slice none 0 0 ∧ i = .int .i64 0 ∧ wr = w) (fun _ _ _ => 0)
  case atStart => exact ⟨rfl, rfl, rfl⟩
  case round =>
    obtain ⟨rfl, rfl, rfl⟩ := hrel
    go_wp2_with fail
    go_ret
    exact ⟨rfl, rfl⟩
set_option maxHeartbeats 1000000 in
theorem listType_nil (kr : Nat) (f : Value) (w : World) :
    Calls Tryd.prog 59 #[.pointer (some ⟨kr, 0, none⟩), .int .i64 0, f] w fun x w' => x = .returned (.slice none 0 0) ∧ w = w' := by
  go_enter Tryd.func59, Tryd.ntmps59
  go_wp2_with fail
  go_loopw [7, 10] (fun l i wr => l = .slice none 0 0 ∧ i = .int .i64 0 ∧ wr = w) (fun _ _ _ => 0)
  case atStart => exact ⟨rfl, rfl, rfl⟩
  case round =>
    obtain ⟨rfl, rfl, rfl⟩ := hrel
    go_wp2_with fail
    go_ret
    exact ⟨rfl, rfl⟩
set_option maxHeartbeats 1000000 in
theorem listRegion_nil (kr : Nat) (f : Value) (w : World) :
    Calls Tryd.prog 28 #[.pointer (some ⟨kr, 0, none⟩), .int .i64 0, f] w fun x w' => x = .returned (.slice none 0 0) ∧ w = w' := by
  go_enter Tryd.func28, Tryd.ntmps28
  go_wp2_with fail
  go_loopw [7, 10] (fun l i wr => l = .slice none 0 0 ∧ i = .int .i64 0 ∧ wr = w) (fun _ _ _ => 0)
  case atStart => exact ⟨rfl, rfl, rfl⟩
  case round =>
    obtain ⟨rfl, rfl, rfl⟩ := hrel
    go_wp2_with fail
    go_ret
    exact ⟨rfl, rfl⟩
theorem least_dec : decA (sub leastS 13 8) = ([retI1], 0, 0) := by kernel_rfl
set_option maxRecDepth 10000 in
set_option maxHeartbeats 1000000 in
theorem code_least (kr : Nat) (w : World) (ht : TabIn w) (h : RBox w kr leastS 13 0 0) (hk : 2 ≤ kr) :
    Calls Tryd.prog 58 #[.pointer (some ⟨kr, 0, none⟩), .int .i64 1] w fun x w' => ∃ v, x = .returned v ∧ LOwn w' w.heap.size v [retI1] ∧ RBox w' kr leastS 21 0 0 ∧ w.grownBy w' (some kr) := by
  have ss : (str leastS).size = 26 := rfl
  have ⟨z0, p0, f0⟩ := h.at
  have hT := take_ok leastS kr 13 8 0 w h (by decide) (by decide)
  have hD := fun W h1 => Decode_any (sub leastS 13 8) W h1 (by decide)
  rw [least_dec] at hD
  generalize sub leastS 13 8 = T at *
  generalize leastS = S at *
  go_enter Tryd.func58, Tryd.ntmps58
  go_wp2_with fail
  refine hT.mono ?_
  rintro x w1 ⟨rfl, h1, hg⟩
  have ht1 : TabIn w1 := ht.below (n := kr) (Below.of_grown hg (Nat.le_of_lt h.lt) (fun g e => by cases e; omega)) hk
  clear z0 p0 f0 h hT
  replace h1 := Hid.mk h1
  replace hg := Hid.mk hg
  go_wp2_with fail
  refine (hD _ ht1).mono ?_
  rintro x w2 ⟨v, rfl, hO, hBe⟩
  replace h1 := Hid.mk (h1.out.below hBe h1.out.lt)
  replace hO : LOwn w2 w.heap.size v [retI1] := ⟨hO.1, by
    rcases hO.2 with h | ⟨g, c, cur, e1, e2, e3⟩
    · exact .inl h
    · exact .inr ⟨g, c, cur, e1, Nat.le_trans hg.out.size e2, e3⟩⟩
  replace hg := Hid.mk (hg.out.trans (grown_of hBe _))
  replace hO := Hid.mk hO
  clear hBe hD
  go_wp2_with fail
  go_ret
  exact ⟨v, rfl, hO.out, h1.out, hg.out⟩
/-- One element, which lies in a new block, appended to a row that the call owns. -/
theorem wpList_append_el {ops : Array Oper} {rest : List Oper} {o : Oper} {a : Act} {Q : Exit → Act → World → Prop} {w : World} (hgd : o.guard = none) (s x : Operand) (t e : TypeId) (z : Value) (size bytes : Nat)
    (ho : o.op = .call { callee := .builtin .append, args := #[s, x], argTypes := #[t, t] }) (ht : Tryd.prog.underlying t = some (.slice e))
    (hi : (Tryd.prog.info? e).map (fun i => (i.zero, i.size, i.bytes)) = some (some z, size, bytes)) (hz : z.cells.size = size) (hsz : 0 < size) (hby : bytes ≤ 1000)
    (base : Nat) (v : Value) (n : Nat) (xs cs : List Value) (hs : a.eval s = v) (hown : w.ownsRow base e size v n xs) (X : Nat) (hx : a.eval x = .slice (some ⟨X, 0, none⟩) 1 1) (hX : At w X cs.toArray) (hc : cs.length = size) (h1 : ∀ u ∈ cs, u.oneCell' = true)
    (hlen : n ≤ 1000000) (hbase : base ≤ w.heap.size)
    (h : ∀ g cap w', w'.ownsRow base e size (.slice (some ⟨g, 0, none⟩) (n + 1) cap) (n + 1) (xs ++ cs) → w.grownBy w' v.ownBlock → wpList Tryd.prog ops Q rest (a.put o.dst (.slice (some ⟨g, 0, none⟩) (n + 1) cap)) w') :
    wpList Tryd.prog ops Q (o :: rest) a w := by
  obtain ⟨i0, hi0, hz0, hz1, hz2⟩ := info_parts hi
  have hb : (n + 1) * bytes ≤ 140737488355328 := by
    have := Nat.mul_le_mul (show n + 1 ≤ 1000001 by omega) hby
    omega
  refine wpList_append_lies _ hgd s x t ho base e i0 z size bytes ht hi0 hz0 hz1 hz2 hz hsz v n xs hs hown ⟨X, 0, none⟩ 1 1 cs hx (by omega) (news_at hX) h1 (by decide) (by unfold maxLen; omega) hb hbase _ rfl ?_
  intro g cap w' k1 k2 _ _
  exact h g cap w' k1 k2
theorem infoComp : (Tryd.prog.info? 57).map (fun i => (i.zero, i.size, i.bytes)) = some (some (.agg #[.slice none 0 0, .slice none 0 0]), 2, 48) := by kernel_rfl
theorem infoGate : (Tryd.prog.info? 61).map (fun i => (i.zero, i.size, i.bytes)) = some (some (.agg #[.int .i64 0, .int .i64 0, .slice none 0 0, .slice none 0 0]), 4, 64) := by kernel_rfl
theorem own_kept {w w' : World} {base e size n r : Nat} {v : Value} {xs : List Value} (h : w.ownsRow base e size v n xs) (hg : w.grownBy w' (some r)) (hne : v.ownBlock ≠ some r) : w'.ownsRow base e size v n xs :=
  own_grown h hg (fun g hv hr => hne (by rw [hv]; exact hr.symm))
theorem own_base {w : World} {base base' e size n : Nat} {v : Value} {xs : List Value} (h : w.ownsRow base e size v n xs) (hb : base' ≤ base) : w.ownsRow base' e size v n xs := by
  refine ⟨h.1, ?_⟩
  rcases h.2 with h2 | ⟨g, c, cur, e1, e2, e3⟩
  · exact .inl h2
  · exact .inr ⟨g, c, cur, e1, Nat.le_trans hb e2, e3⟩
theorem own_setBox {w : World} {base e size n k o : Nat} {v u : Value} {xs : List Value} {cs : Array Value} {t : TypeId} (h : w.ownsRow base e size v n xs) (hb : Box w k cs t) (ht : t ≠ e) : (w.setCell ⟨k, o, none⟩ u).ownsRow base e size v n xs :=
  ownsRow_setCell_other h (a := ⟨k, o, none⟩) (own_ne h hb ht) u
theorem grown_box {w w3 : World} {kr k o : Nat} {v : Value} (hg : w.grownBy w3 (some kr)) (hk : w.heap.size ≤ k) : w.grownBy (w3.setCell ⟨k, o, none⟩ v) (some kr) :=
  hg.andThen (grown_set w3 k o v) (fun j hj => .inl (by cases hj; exact hk))
set_option maxRecDepth 10000 in
set_option maxHeartbeats 1000000 in
theorem comp_least (kr : Nat) (w : World) (ht : TabIn w) (h : RBox w kr leastS 10 0 0) (hk : 2 ≤ kr) :
    Calls Tryd.prog 31 #[.pointer (some ⟨kr, 0, none⟩)] w fun x w' => ∃ v, x = .returned (.agg #[.slice none 0 0, v]) ∧ LOwn w' w.heap.size v [retI1] ∧ RBox w' kr leastS 21 0 0 ∧ w.grownBy w' (some kr) := by
  have n1 : leN (sub leastS 10 1) = 0 := by decide
  have n2 : leN (sub leastS 11 2) = 1 := by decide
  have c1 := fun W h1 => count_ok leastS kr 10 1 0 W h1 (by decide) (by decide) (by omega)
  have c2 := fun W h1 => count_ok leastS kr 11 2 0 W h1 (by decide) (by decide) (by omega)
  rw [n1] at c1
  rw [n2] at c2
  have c3 := fun W h0 h1 => code_least kr W h0 h1 hk
  generalize leastS = S at *
  go_enter Tryd.func31, Tryd.ntmps31
  go_wp2_with fail
  have hT : ∀ W, w.grownBy W (some kr) → TabIn W := fun W hg => ht.below (n := kr) (Below.of_grown hg (Nat.le_of_lt h.lt) (fun g e => by cases e; omega)) hk
  have hne : w.heap.size ≠ kr := by have := h.lt; omega
  refine (c1 _ (h.alloc _)).mono ?_
  rintro x w1 ⟨rfl, h1, hg⟩
  have X := (Box.new w #[.slice none 0 0, .slice none 0 0] 57).kept hg hne
  replace hg := (grown_of ((Gr.refl w).alloc _).below (some kr)).trans hg
  replace h1 := Hid.mk h1
  replace hg := Hid.mk hg
  replace hT := Hid.mk hT
  replace X := Hid.mk X
  clear c1 n1 n2 h
  go_wp2_with (go_at_call 56; refine (listRoot_nil _ _ _).mono ?_; rintro x w' ⟨rfl, rfl⟩)
  refine (c2 _ h1.out).mono ?_
  rintro x w2 ⟨rfl, h2, hg2⟩
  replace X := Hid.mk (X.out.kept hg2 hne)
  replace hg := Hid.mk (hg.out.trans hg2)
  replace h2 := Hid.mk h2
  clear hg2 h1 c2
  go_wp2_with fail
  refine (c3 _ (hT.out _ hg.out) h2.out).mono ?_
  rintro x w3 ⟨v, rfl, hO, h3, hg2⟩
  obtain ⟨va, vc, rfl, _⟩ := LOwn.form hO
  replace X := Hid.mk (X.out.kept hg2 hne)
  replace hO := Hid.mk (own_base hO hg.out.size)
  replace hg := Hid.mk (hg.out.trans hg2)
  replace h3 := Hid.mk h3
  have ⟨z0, p0, f0⟩ := X.out.at
  clear hg2 h2 c3
  go_wp2_with fail
  have b4 := (X.out.set 0 (.slice none 0 0)).set 1 (.slice va 1 vc)
  have h4 := (h3.out.kept (grown_set w3 w.heap.size 0 (.slice none 0 0)) (Ne.symm hne)).kept (grown_set _ w.heap.size 1 (.slice va 1 vc)) (Ne.symm hne)
  have hO4 : LOwn ((w3.setCell ⟨w.heap.size, 0, none⟩ (.slice none 0 0)).setCell ⟨w.heap.size, 1, none⟩ (.slice va 1 vc)) w.heap.size (.slice va 1 vc) [retI1] :=
    own_setBox (own_setBox hO.out X.out (by decide)) (X.out.set 0 _) (by decide)
  have hg4 := grown_box (o := 1) (v := .slice va 1 vc) (grown_box (o := 0) (v := .slice none 0 0) hg.out (Nat.le_refl _)) (Nat.le_refl _)
  have ⟨_, q4, _⟩ := b4.at
  clear z0 p0 f0 X hg h3 hO b4
  generalize (w3.setCell ⟨w.heap.size, 0, none⟩ (.slice none 0 0)).setCell ⟨w.heap.size, 1, none⟩ (.slice va 1 vc) = W4 at *
  simp [bodyPost, results, Tryd.results31, go_sem, q4]
  exact ⟨hO4, h4, hg4⟩
end Go.Proofs.YtdmkedpnkejpbaaDoor


/-
  Stage 4, image: the chapter's first example: lists of one element, the gate.
-/
namespace Go.Proofs.YtdmkedpnkejpbaaDoor
open Go.RowKit

theorem grown_below {w w' : World} (h : w.grownBy w' none) : Below w.heap.size w w' := ⟨h.os, h.tape, h.output, h.size, fun k hk => h.block k hk (by simp)⟩
set_option maxRecDepth 10000 in
set_option maxHeartbeats 1000000 in
theorem listComp_least (kr : Nat) (w : World) (ht : TabIn w) (h : RBox w kr leastS 10 0 0) (hk : 2 ≤ kr) :
    Calls Tryd.prog 30 #[.pointer (some ⟨kr, 0, none⟩), .int .i64 1, .func (.func 31) #[.pointer (some ⟨kr, 0, none⟩)] #[]] w fun x w' => ∃ g c va vc, x = .returned (.slice (some ⟨g, 0, none⟩) 1 c) ∧ w'.ownsRow w.heap.size 57 2 (.slice (some ⟨g, 0, none⟩) 1 c) 1 [.slice none 0 0, .slice va 1 vc] ∧ LOwn w' w.heap.size (.slice va 1 vc) [retI1] ∧ RBox w' kr leastS 21 0 0 ∧ w.grownBy w' (some kr) := by
  have hc := comp_least kr w ht h hk
  have hkl := h.lt
  replace h := Hid.mk h
  generalize leastS = S at *
  go_enter Tryd.func30, Tryd.ntmps30
  go_wp2_with fail
  go_loopw [7, 10] (fun l i wr => (l = .slice none 0 0 ∧ i = .int .i64 0 ∧ wr = w) ∨ (∃ g c va vc, l = .slice (some ⟨g, 0, none⟩) 1 c ∧ i = .int .i64 1 ∧ Hid (wr.ownsRow w.heap.size 57 2 (.slice (some ⟨g, 0, none⟩) 1 c) 1 [.slice none 0 0, .slice va 1 vc] ∧ LOwn wr w.heap.size (.slice va 1 vc) [retI1] ∧ RBox wr kr S 21 0 0 ∧ w.grownBy wr (some kr)))) (fun _ i _ => 1 - (intOf i).toNat)
  case atStart => exact .inl ⟨rfl, rfl, rfl⟩
  case round =>
    rcases hrel with ⟨rfl, rfl, rfl⟩ | ⟨g, c, va, vc, rfl, rfl, hF⟩
    · go_wp2_with fail
      refine hc.mono ?_
      rintro x w1 ⟨v, rfl, hO, h1, hg⟩
      obtain ⟨va, vc, rfl, _⟩ := LOwn.form hO
      have ⟨z0, p0, f0⟩ := (h1.alloc (.cells #[.slice none 0 0, .slice va 1 vc] 57)).at
      have hA : At ((w1.alloc (.cells #[.slice none 0 0, .slice va 1 vc] 57)).alloc (.cells #[.slice none 0 0, .slice va 1 vc] 57)) (w1.heap.size + 1) [Value.slice none 0 0, .slice va 1 vc].toArray := At.next _ _ _ _
      have hG : Gr w1 ((w1.alloc (.cells #[.slice none 0 0, .slice va 1 vc] 57)).alloc (.cells #[.slice none 0 0, .slice va 1 vc] 57)) := ((Gr.refl w1).alloc _).alloc _
      have hs : wr.heap.size ≤ ((w1.alloc (.cells #[.slice none 0 0, .slice va 1 vc] 57)).alloc (.cells #[.slice none 0 0, .slice va 1 vc] 57)).heap.size := Nat.le_trans hg.size (gr_size hG)
      replace hO := Hid.mk (own_below hO hG.below)
      replace h1 := Hid.mk (h1.gr hG)
      replace hg := Hid.mk (hg.trans (grown_of hG.below _))
      replace hA := Hid.mk hA
      replace hs := Hid.mk hs
      clear hc hG h
      go_wp2_with (at_builtin; refine wpList_append_el rfl (.tmp 19) (.tmp 21) 24 57 _ 2 48 rfl Tryd.underlying24 infoComp rfl (by decide) (by decide) wr.heap.size (.slice none 0 0) 0 [] [Value.slice none 0 0, .slice va 1 vc] rfl ⟨rfl, .inl ⟨rfl, rfl⟩⟩ (w1.heap.size + 1) rfl hA.out rfl (by simp [Value.oneCell']) (by decide) hs.out ?_)
      intro g c w5 hrow hgr
      have hgr0 : ∀ row, World.grownBy _ w5 row := fun row => hgr.but row
      replace h1 := Hid.mk (h1.out.below (grown_below hgr) h1.out.lt)
      replace hO := Hid.mk (own_below hO.out (grown_below hgr))
      replace hg := Hid.mk (hg.out.trans (hgr0 _))
      replace hrow := Hid.mk hrow
      clear hgr hgr0 z0 p0 f0
      go_wp2_with fail
      go_roundw
      case rel => exact .inr ⟨g, c, va, vc, rfl, rfl, ⟨hrow.out, hO.out, h1.out, hg.out⟩⟩
      case measure => simp [intOf]
    · go_wp2_with fail
      go_ret
      exact ⟨g, c, va, vc, rfl, hF.out⟩
set_option maxRecDepth 10000 in
set_option maxHeartbeats 1000000 in
theorem gate_least (kr : Nat) (w : World) (h : RBox w kr leastS 21 0 0) :
    Calls Tryd.prog 33 #[.pointer (some ⟨kr, 0, none⟩)] w fun x w' => x = .returned (.agg #[.int .i64 0, .int .i64 0, .slice none 0 0, .slice none 0 0]) ∧ RBox w' kr leastS 26 0 0 ∧ w.grownBy w' (some kr) := by
  have n1 : leN (sub leastS 21 1) = 0 := by decide
  have n2 : leN (sub leastS 22 2) = 0 := by decide
  have n3 : leN (sub leastS 24 1) = 0 := by decide
  have n4 : leN (sub leastS 25 1) = 0 := by decide
  have c1 := fun W h1 => count_ok leastS kr 21 1 0 W h1 (by decide) (by decide) (by omega)
  have c2 := fun W h1 => count_ok leastS kr 22 2 0 W h1 (by decide) (by decide) (by omega)
  have c3 := fun W h1 => count_ok leastS kr 24 1 0 W h1 (by decide) (by decide) (by omega)
  have c4 := fun W h1 => count_ok leastS kr 25 1 0 W h1 (by decide) (by decide) (by omega)
  rw [n1] at c1
  rw [n2] at c2
  rw [n3] at c3
  rw [n4] at c4
  generalize leastS = S at *
  have hne : w.heap.size ≠ kr := by have := h.lt; omega
  go_enter Tryd.func33, Tryd.ntmps33
  go_wp2_with fail
  refine (c1 _ (h.alloc _)).mono ?_
  rintro x w1 ⟨rfl, h1, hg⟩
  have X := (Box.new w #[.int .i64 0, .int .i64 0, .slice none 0 0, .slice none 0 0] 61).kept hg hne
  replace hg := (grown_of ((Gr.refl w).alloc _).below (some kr)).trans hg
  replace h1 := Hid.mk h1
  replace hg := Hid.mk hg
  replace X := Hid.mk X
  clear c1 n1 n2 n3 n4 h
  go_wp2_with fail
  refine (c2 _ h1.out).mono ?_
  rintro x w2 ⟨rfl, h2, hg2⟩
  replace X := Hid.mk (X.out.kept hg2 hne)
  replace hg := Hid.mk (hg.out.trans hg2)
  replace h2 := Hid.mk h2
  clear hg2 h1 c2
  go_wp2_with fail
  refine (c3 _ h2.out).mono ?_
  rintro x w3 ⟨rfl, h3, hg2⟩
  replace X := Hid.mk (X.out.kept hg2 hne)
  replace hg := Hid.mk (hg.out.trans hg2)
  replace h3 := Hid.mk h3
  clear hg2 h2 c3
  go_wp2_with (go_at_call 59; refine (listType_nil _ _ _).mono ?_; rintro x w' ⟨rfl, rfl⟩)
  refine (c4 _ h3.out).mono ?_
  rintro x w4 ⟨rfl, h4, hg2⟩
  replace X := Hid.mk (X.out.kept hg2 hne)
  replace hg := Hid.mk (hg.out.trans hg2)
  replace h4 := Hid.mk h4
  have ⟨z0, p0, f0⟩ := X.out.at
  clear hg2 h3 c4
  go_wp2_with (go_at_call 59; refine (listType_nil _ _ _).mono ?_; rintro x w' ⟨rfl, rfl⟩)
  have b4 := (((X.out.set 0 (.int .i64 0)).set 1 (.int .i64 0)).set 2 (.slice none 0 0)).set 3 (.slice none 0 0)
  have h5 := (((h4.out.kept (grown_set _ w.heap.size 0 (.int .i64 0)) (Ne.symm hne)).kept (grown_set _ w.heap.size 1 (.int .i64 0)) (Ne.symm hne)).kept (grown_set _ w.heap.size 2 (.slice none 0 0)) (Ne.symm hne)).kept (grown_set _ w.heap.size 3 (.slice none 0 0)) (Ne.symm hne)
  have hg4 := grown_box (o := 3) (v := .slice none 0 0) (grown_box (o := 2) (v := .slice none 0 0) (grown_box (o := 1) (v := .int .i64 0) (grown_box (o := 0) (v := .int .i64 0) hg.out (Nat.le_refl _)) (Nat.le_refl _)) (Nat.le_refl _)) (Nat.le_refl _)
  have ⟨_, q4, _⟩ := b4.at
  clear z0 p0 f0 X hg h4 b4
  generalize (((w4.setCell ⟨w.heap.size, 0, none⟩ (.int .i64 0)).setCell ⟨w.heap.size, 1, none⟩ (.int .i64 0)).setCell ⟨w.heap.size, 2, none⟩ (.slice none 0 0)).setCell ⟨w.heap.size, 3, none⟩ (.slice none 0 0) = W4 at *
  simp [bodyPost, results, Tryd.results33, go_sem, q4]
  exact ⟨h5, hg4⟩
set_option maxRecDepth 10000 in
set_option maxHeartbeats 1000000 in
theorem listGate_least (kr : Nat) (w : World) (h : RBox w kr leastS 21 0 0) :
    Calls Tryd.prog 32 #[.pointer (some ⟨kr, 0, none⟩), .int .i64 1, .func (.func 33) #[.pointer (some ⟨kr, 0, none⟩)] #[]] w fun x w' => ∃ g c, x = .returned (.slice (some ⟨g, 0, none⟩) 1 c) ∧ w'.ownsRow w.heap.size 61 4 (.slice (some ⟨g, 0, none⟩) 1 c) 1 [.int .i64 0, .int .i64 0, .slice none 0 0, .slice none 0 0] ∧ RBox w' kr leastS 26 0 0 ∧ w.grownBy w' (some kr) := by
  have hc := gate_least kr w h
  have hkl := h.lt
  replace h := Hid.mk h
  generalize leastS = S at *
  go_enter Tryd.func32, Tryd.ntmps32
  go_wp2_with fail
  go_loopw [7, 10] (fun l i wr => (l = .slice none 0 0 ∧ i = .int .i64 0 ∧ wr = w) ∨ (∃ g c, l = .slice (some ⟨g, 0, none⟩) 1 c ∧ i = .int .i64 1 ∧ Hid (wr.ownsRow w.heap.size 61 4 (.slice (some ⟨g, 0, none⟩) 1 c) 1 [.int .i64 0, .int .i64 0, .slice none 0 0, .slice none 0 0] ∧ RBox wr kr S 26 0 0 ∧ w.grownBy wr (some kr)))) (fun _ i _ => 1 - (intOf i).toNat)
  case atStart => exact .inl ⟨rfl, rfl, rfl⟩
  case round =>
    rcases hrel with ⟨rfl, rfl, rfl⟩ | ⟨g, c, rfl, rfl, hF⟩
    · go_wp2_with fail
      refine hc.mono ?_
      rintro x w1 ⟨rfl, h1, hg⟩
      have ⟨z0, p0, f0⟩ := (h1.alloc (.cells #[.int .i64 0, .int .i64 0, .slice none 0 0, .slice none 0 0] 61)).at
      have hA : At ((w1.alloc (.cells #[.int .i64 0, .int .i64 0, .slice none 0 0, .slice none 0 0] 61)).alloc (.cells #[.int .i64 0, .int .i64 0, .slice none 0 0, .slice none 0 0] 61)) (w1.heap.size + 1) [Value.int .i64 0, .int .i64 0, .slice none 0 0, .slice none 0 0].toArray := At.next _ _ _ _
      have hG : Gr w1 ((w1.alloc (.cells #[.int .i64 0, .int .i64 0, .slice none 0 0, .slice none 0 0] 61)).alloc (.cells #[.int .i64 0, .int .i64 0, .slice none 0 0, .slice none 0 0] 61)) := ((Gr.refl w1).alloc _).alloc _
      have hs : wr.heap.size ≤ ((w1.alloc (.cells #[.int .i64 0, .int .i64 0, .slice none 0 0, .slice none 0 0] 61)).alloc (.cells #[.int .i64 0, .int .i64 0, .slice none 0 0, .slice none 0 0] 61)).heap.size := Nat.le_trans hg.size (gr_size hG)
      replace h1 := Hid.mk (h1.gr hG)
      replace hg := Hid.mk (hg.trans (grown_of hG.below _))
      replace hA := Hid.mk hA
      replace hs := Hid.mk hs
      clear hc hG h
      go_wp2_with (at_builtin; refine wpList_append_el rfl (.tmp 19) (.tmp 21) 25 61 _ 4 64 rfl Tryd.underlying25 infoGate rfl (by decide) (by decide) wr.heap.size (.slice none 0 0) 0 [] [Value.int .i64 0, .int .i64 0, .slice none 0 0, .slice none 0 0] rfl ⟨rfl, .inl ⟨rfl, rfl⟩⟩ (w1.heap.size + 1) rfl hA.out rfl (by simp [Value.oneCell']) (by decide) hs.out ?_)
      intro g c w5 hrow hgr
      have hgr0 : ∀ row, World.grownBy _ w5 row := fun row => hgr.but row
      replace h1 := Hid.mk (h1.out.below (grown_below hgr) h1.out.lt)
      replace hg := Hid.mk (hg.out.trans (hgr0 _))
      replace hrow := Hid.mk hrow
      clear hgr hgr0 z0 p0 f0
      go_wp2_with fail
      go_roundw
      case rel => exact .inr ⟨g, c, rfl, rfl, ⟨hrow.out, h1.out, hg.out⟩⟩
      case measure => simp [intOf]
    · go_wp2_with fail
      go_ret
      exact ⟨g, c, rfl, hF.out⟩
end Go.Proofs.YtdmkedpnkejpbaaDoor
