import Derived.Test.YtoppcikacakjcaaP28
/-
  Stage 8, flow: rows that their owner writes full; appends that keep what there is; colours for lists that lie apart.
-/
namespace Go.Proofs.Ytoppcikacakjcaa
namespace F
open Go.RowKit
open T

/-- An append onto a row of its own leaves the cells of that row as they were. -/
theorem run_append_keep (w : World) (t ty : TypeId) (base : Nat) (e : TypeId) (i : TypeInfo) (z : Value) (size bytes : Nat) (ht : Try.prog.underlying t = some (.slice e)) (hi : Try.prog.info? e = some i) (hz : i.zero = some z)
    (hsize : i.size = size) (hby : i.bytes = bytes) (hzs : z.cells.size = size) (hsz : 0 < size)
    (v : Value) (n : Nat) (xs : List Value) (hown : w.ownsRow base e size v n xs)
    (ad : Addr) (m c : Nat) (news : List Value) (hl : news.length = m * size) (hnews : ∀ j u, news[j]? = some u → w.cell? (ad.add j) = some u) (h1 : ∀ u ∈ news, u.oneCell' = true)
    (hm : 0 < m) (h63 : n + m ≤ maxLen) (hbytes : (n + m) * bytes ≤ 140737488355328) (hbase : base ≤ w.heap.size) :
    ∃ g cap w', (Builtin.append_ #[t, t] ty #[v, .slice (some ad) m c]).run Try.prog w = .ok (.slice (some ⟨g, 0, none⟩) (n + m) cap) w' ∧
      w'.ownsRow base e size (.slice (some ⟨g, 0, none⟩) (n + m) cap) (n + m) (xs ++ news) ∧ w.grownBy w' v.ownBlock ∧ (v.ownBlock = some g ∨ g = w.heap.size) ∧ g < w'.heap.size ∧ (∀ k o, v.ownBlock = some k → o < n * size → w'.cell? ⟨k, o, none⟩ = w.cell? ⟨k, o, none⟩) := by
  obtain ⟨g, cap', w', hr, h2, h3, h4, h5⟩ := run_append_lies (P := Try.prog) w t ty base e i z size bytes ht hi hz hsize hby hzs hsz v n xs hown ad m c news hl hnews h1 hm h63 hbytes hbase _ rfl
  refine ⟨g, cap', w', hr, h2, h3, h4, h5, fun k o hv ho => ?_⟩
  subst hsize
  subst hby
  rcases hown.2 with ⟨rfl, _⟩ | ⟨g', cap, cur, rfl, hbg, hg, hnc, hcm, hcs, htake⟩
  · cases hv
  · have hv' : g' = k := by simpa [Value.ownBlock] using hv
    subst hv'
    have hk : g' < w.heap.size := (Array.getElem?_eq_some_iff.1 hg).1
    by_cases hroom : n + m ≤ cap
    · have hfit : n * i.size + news.length ≤ cur.size := by rw [hl, hcs, ← Nat.add_mul]; exact Nat.mul_le_mul_right _ hroom
      have hrr := run_append_room (P := Try.prog) w t ty e i ht hi g' n cap cur hg ad m c news hl hnews h1 hroom hfit
      rw [hr] at hrr
      injection hrr with e1 e2
      subst e2
      have hsr := setRow_heap w g' cur (cur.toList.take (n * i.size) ++ news ++ cur.toList.drop (n * i.size + news.length)).toArray e _ hg
      rw [cell_of_row _ g' o _ _ _ hsr, cell_of_row w g' o cur _ _ hg, List.getElem?_toArray]
      have hlt : (cur.toList.take (n * i.size)).length = n * i.size := by rw [List.length_take]; simp; omega
      rw [List.append_assoc, List.getElem?_append_left (by omega), List.getElem?_take_of_lt ho]
      simp
    · have holds : ∀ j u, xs[j]? = some u → w.cell? ((⟨g', 0, none⟩ : Addr).add j) = some u := World.ownsRow.cells hown (g := g') rfl
      have hrr := run_append_grow (P := Try.prog) w t ty e i z ht hi hz ⟨g', 0, none⟩ n cap xs hown.1 holds ad m c news hl hnews (by omega) (by simp only [maxLen] at h63; omega) (growslice_fits (by omega) hbytes)
      rw [hr] at hrr
      injection hrr with e1 e2
      subst e2
      exact cell_of_block (heap_alloc_old w.drew _ hk) o
/-- Rows of code, the first of them written. -/
def XB (w : World) (v : Value) (n k : Nat) (m : Int) : Prop := ∃ xs : List Value, w.ownsRow 0 37 3 v n xs ∧ ∀ q, q < k → q < n → xs[q * 3]? = some (.int .i64 m)
theorem XB.slice {w : World} {v : Value} {n k : Nat} {m : Int} (h : XB w v n k m) : ∃ a c, v = .slice a n c := by
  obtain ⟨xs, h1, _⟩ := h
  rcases h1.2 with ⟨rfl, rfl⟩ | ⟨g, cap, cur, rfl, _⟩
  · exact ⟨_, _, rfl⟩
  · exact ⟨_, _, rfl⟩
theorem XB.here {w : World} {a : Option Addr} {n c k : Nat} {m : Int} (h : XB w (.slice a n c) n k m) (hn : 0 < n) : ∃ g, a = some ⟨g, 0, none⟩ ∧ g < w.heap.size := by
  obtain ⟨xs, h1, _⟩ := h
  obtain ⟨g, cap, e, _, hlt⟩ := h1.form hn
  injection e with e1 e2 e3
  exact ⟨g, e1, hlt⟩
theorem XB.cell {w : World} {g n c k : Nat} {m : Int} (h : XB w (.slice (some ⟨g, 0, none⟩) n c) n k m) (q : Nat) (hq : q < k) (hn : q < n) : w.cell? ⟨g, q * 3, none⟩ = some (.int .i64 m) := by
  obtain ⟨xs, h1, h2⟩ := h
  have := World.ownsRow.cells h1 (g := g) rfl (q * 3) _ (h2 q hq hn)
  rwa [addr_add, Nat.zero_add] at this
theorem XB.store {w : World} {g n c k : Nat} {m : Int} (h : XB w (.slice (some ⟨g, 0, none⟩) n c) n k m) (hk : k < n) :
    (∀ j, j < 3 → ∃ y, w.cell? ⟨g, k * 3 + j, none⟩ = some y) ∧ (∀ o, w.frozen? ⟨g, o, none⟩ = false) ∧ XB (((w.setCell ⟨g, k * 3, none⟩ (.int .i64 m)).setCell ⟨g, k * 3 + 1, none⟩ (.int .i64 0)).setCell ⟨g, k * 3 + 2, none⟩ (.slice none 0 0)) (.slice (some ⟨g, 0, none⟩) n c) n (k + 1) m := by
  obtain ⟨xs, h1, h2⟩ := h
  have hx : xs.length = n * 3 := h1.1
  refine ⟨fun j hj => ?_, fun o => World.ownsRow.frozenAt h1 o, ((xs.set (k * 3) (.int .i64 m)).set (k * 3 + 1) (.int .i64 0)).set (k * 3 + 2) (.slice none 0 0), ?_, fun q hq hn => ?_⟩
  · have hlt : k * 3 + j < xs.length := by omega
    have := World.ownsRow.cells h1 (g := g) rfl (k * 3 + j) _ (List.getElem?_eq_getElem hlt)
    rw [addr_add, Nat.zero_add] at this
    exact ⟨_, this⟩
  · have e1 := (World.ownsRow.stored h1 (k * 3) (.int .i64 m)).1
    have e2 := (World.ownsRow.stored e1 (k * 3 + 1) (.int .i64 0)).1
    exact (World.ownsRow.stored e2 (k * 3 + 2) (.slice none 0 0)).1
  · rw [List.getElem?_set_ne (by omega), List.getElem?_set_ne (by omega)]
    by_cases e : q = k
    · subst e
      rw [List.getElem?_set_self (by omega)]
    · rw [List.getElem?_set_ne (by omega)]
      exact h2 q (by omega) hn
theorem XB.more {w : World} {v : Value} {n k k' : Nat} {m : Int} (h : XB w v n k m) (hk : n ≤ k) : XB w v n k' m := by
  obtain ⟨xs, h1, h2⟩ := h
  exact ⟨xs, h1, fun q _ hn => h2 q (by omega) hn⟩
theorem XB.stp {w w1 : World} {c c1 : Nat → Int} {v : Value} {n k : Nat} {m a b : Int} (h : XB w v n k m) (hs : Stp a w w1 c c1) (hc : Cl c v b) (hne : b ≠ a) : XB w1 v n k m ∧ Cl c1 v b := by
  obtain ⟨xs, h1, h2⟩ := h
  obtain ⟨g1, g2⟩ := hs.own h1 hc hne
  exact ⟨⟨xs, g1, h2⟩, g2⟩
theorem wpList_append_xb {ops : Array Oper} {rest : List Oper} {o : Oper} {a : Act} {Q : Exit → Act → World → Prop} {w : World} (hgd : o.guard = none) (s x : Operand)
    (ho : o.op = .call { callee := .builtin .append, args := #[s, x], argTypes := #[31, 31] })
    (v : Value) (n : Nat) (m : Int) (hs : a.eval s = v) (hv : XB w v n n m)
    (X : Nat) (hx : a.eval x = .slice (some ⟨X, 0, none⟩) 1 1) (hX : At w X #[.int .i64 m, .int .i64 0, .slice none 0 0]) (hlen : n ≤ 8000000)
    (h : ∀ g cap w', XB w' (.slice (some ⟨g, 0, none⟩) (n + 1) cap) (n + 1) (n + 1) m → w.grownBy w' v.ownBlock → (v.ownBlock = some g ∨ g = w.heap.size) → g < w'.heap.size → (∀ k o, v.ownBlock = some k → o < n * 3 → w'.cell? ⟨k, o, none⟩ = w.cell? ⟨k, o, none⟩) → wpList Try.prog ops Q rest (a.put o.dst (.slice (some ⟨g, 0, none⟩) (n + 1) cap)) w') :
    wpList Try.prog ops Q (o :: rest) a w := by
  refine wpList_plain hgd fun K hK => ?_
  obtain ⟨xs, hv1, hv2⟩ := hv
  obtain ⟨i0, hi, hz0, hz1, hz2⟩ := info_parts' (t := 37) (z := .agg #[.int .i64 0, .int .i64 0, .slice none 0 0]) (s := 3) (b := 40) (by kernel_rfl)
  have hn : ∀ j u, [Value.int .i64 m, .int .i64 0, .slice none 0 0][j]? = some u → w.cell? ((⟨X, 0, none⟩ : Addr).add j) = some u := by
    intro j u hj
    rw [addr_add, hX.2.1]
    simpa using hj
  obtain ⟨g, c, w', hr, h1, h2, h3, h4, h5⟩ := run_append_keep w 31 o.type 0 37 i0 (.agg #[.int .i64 0, .int .i64 0, .slice none 0 0]) 3 40 Try.underlying31 hi hz0 hz1 hz2 rfl (by decide) v n xs hv1 ⟨X, 0, none⟩ 1 1 [.int .i64 m, .int .i64 0, .slice none 0 0] rfl hn (fun u hu => by simp only [List.mem_cons, List.not_mem_nil, or_false] at hu; rcases hu with rfl | rfl | rfl <;> rfl) (by decide) (by unfold maxLen; omega) (by omega) (Nat.zero_le _)
  unfold Oper.wp execOp
  simp only [ho, resolve, invoke, builtin, Sem.run_bind, Sem.run_pure, Result.andThen_ok, List.map_toArray, List.map_cons, List.map_nil, hs, hx, hr]
  refine hK _ _ (h g c w' ⟨_, h1, fun q hq _ => ?_⟩ h2 h3 h4 h5)
  have hxl : xs.length = n * 3 := hv1.1
  by_cases e : q < n
  · rw [List.getElem?_append_left (by omega)]
    exact hv2 q e e
  · have : q = n := by omega
    subst this
    rw [List.getElem?_append_right (by omega), hxl, Nat.sub_self]
    rfl
/-- Colours: to each list its own. -/
theorem colours (vs : List Value) (bB : Nat) (V : Value) (hd : ∀ i j (hi : i < vs.length) (hj : j < vs.length) g, vs[i].ownBlock = some g → vs[j].ownBlock = some g → i = j) (hB : ∀ j (h : j < vs.length), vs[j].ownBlock ≠ some bB) (hV : ∀ j (h : j < vs.length) g, vs[j].ownBlock = some g → V.ownBlock ≠ some g) (hVB : V.ownBlock ≠ some bB) :
    ∃ c : Nat → Int, c bB = -3 ∧ Cl c V 0 ∧ (∀ j (h : j < vs.length), Cl c vs[j] ((j : Int) + 1)) ∧ (∀ k, c k ≠ -1 ∧ c k ≠ -2) ∧ (∀ k, 0 < c k → ∃ j, ∃ h : j < vs.length, vs[j].ownBlock = some k) ∧ ∀ k, k ≠ bB → (∀ j (h : j < vs.length), vs[j].ownBlock ≠ some k) → c k = 0 := by
  classical
  refine ⟨fun k => if k = bB then -3 else if h : ∃ j, ∃ h : j < vs.length, vs[j].ownBlock = some k then ((Classical.choose h : Nat) : Int) + 1 else 0, by simp, fun g hg => ?_, fun j hj g hg => ?_, fun k => ?_, fun k hk => ?_, fun k h1 h2 => ?_⟩
  · have e1 : g ≠ bB := fun e => hVB (e ▸ hg)
    have e2 : ¬ ∃ j, ∃ h : j < vs.length, vs[j].ownBlock = some g := fun ⟨j, h, r⟩ => hV j h g r hg
    simp [e1, e2]
  · have e1 : g ≠ bB := fun e => hB j hj (e ▸ hg)
    have e2 : ∃ j, ∃ h : j < vs.length, vs[j].ownBlock = some g := ⟨j, hj, hg⟩
    have e3 := Classical.choose_spec e2
    obtain ⟨e4, e5⟩ := e3
    have e6 := hd _ _ e4 hj g e5 hg
    simp only [e1, if_false, dif_pos e2]
    omega
  · by_cases e1 : k = bB
    · simp [e1]
    · by_cases e2 : ∃ j, ∃ h : j < vs.length, vs[j].ownBlock = some k
      · simp only [e1, if_false, dif_pos e2]
        omega
      · simp [e1, e2]
  · by_cases e1 : k = bB
    · simp [e1] at hk
    · by_cases e2 : ∃ j, ∃ h : j < vs.length, vs[j].ownBlock = some k
      · exact e2
      · simp [e1, e2] at hk
  · have e2 : ¬ ∃ j, ∃ h : j < vs.length, vs[j].ownBlock = some k := fun ⟨j, h, r⟩ => h2 j h r
    simp [h1, e2]
end F
end Go.Proofs.Ytoppcikacakjcaa


/-
  Stage 8, flow: the law's apart.
-/
namespace Go.Proofs.Ytoppcikacakjcaa
namespace F
open Go.RowKit
open T

/-- Both written full. -/
def RB (w : World) (a : Option Addr) (n : Nat) (m : Int) : Prop := ∀ q, q < n → ∃ g, a = some ⟨g, 0, none⟩ ∧ g < w.heap.size ∧ w.cell? ⟨g, q * 3, none⟩ = some (.int .i64 m)
theorem XB.rb {w : World} {a : Option Addr} {n c k : Nat} {m : Int} (h : XB w (.slice a n c) n k m) (hk : n ≤ k) : RB w a n m := fun q hq => by
  obtain ⟨g, rfl, hg⟩ := h.here (by omega)
  exact ⟨g, rfl, hg, h.cell q (by omega) hq⟩
theorem RB.stp {w w1 : World} {c c1 : Nat → Int} {a : Option Addr} {n cp : Nat} {m x y : Int} (h : RB w a n m) (hc : Cl c (.slice a n cp) x) (hs : Stp y w w1 c c1) (hne : x ≠ y) : RB w1 a n m := fun q hq => by
  obtain ⟨g, rfl, h1, h2⟩ := h q hq
  exact ⟨g, rfl, Nat.lt_of_lt_of_le h1 hs.1.size, (cell_of_block (hs.1.block g h1 (fun e => hne ((hc g rfl).symm.trans e))) _).trans h2⟩
/-- One more behind, and what there was is as it was. -/
theorem RB.app {w w1 : World} {a va : Option Addr} {n vn vc j : Nat} {m : Int} (h : RB w a n m) (hg : w.grownBy w1 (Value.slice va vn vc).ownBlock) (hk : ∀ k o, (Value.slice va vn vc).ownBlock = some k → o < (n + j) * 3 → w1.cell? ⟨k, o, none⟩ = w.cell? ⟨k, o, none⟩) : RB w1 a n m := fun q hq => by
  obtain ⟨g, rfl, h1, h2⟩ := h q hq
  refine ⟨g, rfl, Nat.lt_of_lt_of_le h1 hg.size, ?_⟩
  by_cases e : (Value.slice va vn vc).ownBlock = some g
  · rw [hk g _ e (by omega)]
    exact h2
  · exact hg.cell (a := ⟨g, q * 3, none⟩) h2 (fun r => e r.symm)
set_option maxRecDepth 100000 in
set_option maxHeartbeats 16000000 in
theorem apart_any (x z : Value) (n n' : Nat) (xs zs : List Value) (w : World) (h1 : w.ownsRow 0 37 3 x n xs) (h2 : w.ownsRow 0 37 3 z n' zs) (hne : ∀ g, x.ownBlock = some g → z.ownBlock ≠ some g) (hn : n ≤ 2000000) (hn' : n' ≤ 2000000) :
    Calls Try.prog 12 #[x, z] w fun e w' => e = .returned (.bool true) ∧ Kp (fun k => x.ownBlock = some k ∨ z.ownBlock = some k) w w' := by
  obtain ⟨c, cx, cz, cS⟩ : ∃ c : Nat → Int, Cl c x 1 ∧ Cl c z 2 ∧ ∀ k, (c k = 1 ∨ c k = 2) → (x.ownBlock = some k ∨ z.ownBlock = some k) := by
    refine ⟨fun k => if x.ownBlock = some k then 1 else if z.ownBlock = some k then 2 else 0, fun g hg => by simp [hg], fun g hg => ?_, fun k hk => ?_⟩
    · have : x.ownBlock ≠ some g := fun e => hne g e hg
      simp [this, hg]
    · by_cases e1 : x.ownBlock = some k
      · exact .inl e1
      · by_cases e2 : z.ownBlock = some k
        · exact .inr e2
        · simp [e1, e2] at hk
  have X0 : XB w x n 0 (-5) := ⟨xs, h1, fun q hq => by omega⟩
  have Z0 : XB w z n' 0 (-6) := ⟨zs, h2, fun q hq => by omega⟩
  have hxl := fun g hg => (World.ownsRow.lt h1 g hg).2
  clear h1 h2 hne
  obtain ⟨xa, xc, rfl⟩ := X0.slice
  obtain ⟨za, zc, rfl⟩ := Z0.slice
  replace cS := Hid.mk cS
  replace hxl := Hid.mk hxl
  replace cx := Hid.mk cx
  replace cz := Hid.mk cz
  replace X0 := Hid.mk (show XB w (.slice xa n xc) n 0 (-5) ∧ Stp 1 w w c c from ⟨X0, Stp.refl _ _ _⟩)
  replace Z0 := Hid.mk Z0
  go_enter Try.func12, Try.ntmps12
  go_wp2_with fail
  go_loopw [5] (fun x wr => ∃ k : Nat, x = .int .i64 k ∧ k ≤ n ∧ Hid (XB wr (.slice xa n xc) n k (-5) ∧ Stp 1 w wr c c)) (fun x _ => n - (intOf x).toNat)
  case atStart => exact ⟨0, rfl, by omega, X0⟩
  case round =>
    clear X0
    obtain ⟨k, rfl, hk, ⟨i1, i2⟩⟩ := hrel
    by_cases hlt : k < n
    · have hi1 : (k : Int) < n := by omega
      obtain ⟨g, rfl, hg⟩ := i1.here (by omega)
      obtain ⟨s1, s2, s3⟩ := i1.store hlt
      obtain ⟨y0, z0⟩ := s1 0 (by omega)
      obtain ⟨y1, z1⟩ := s1 1 (by omega)
      obtain ⟨y2, z2⟩ := s1 2 (by omega)
      have hcg := cx.out g rfl
      have hnw : Hid (XB (((wr.setCell ⟨g, k * 3, none⟩ (.int .i64 (-5))).setCell ⟨g, k * 3 + 1, none⟩ (.int .i64 0)).setCell ⟨g, k * 3 + 2, none⟩ (.slice none 0 0)) (.slice (some ⟨g, 0, none⟩) n xc) n (k + 1) (-5) ∧ Stp 1 w (((wr.setCell ⟨g, k * 3, none⟩ (.int .i64 (-5))).setCell ⟨g, k * 3 + 1, none⟩ (.int .i64 0)).setCell ⟨g, k * 3 + 2, none⟩ (.slice none 0 0)) c c) := Hid.mk ⟨s3, ((i2.trans (Stp.set _ _ _ _ hcg)).trans (Stp.set _ _ _ _ hcg)).trans (Stp.set _ _ _ _ hcg)⟩
      simp only [Nat.add_zero] at z0
      clear s1 s3 i1 i2 hcg
      go_wp2_with fail
      go_roundw
      all_goals first | exact ⟨k + 1, by simp, by omega, hnw⟩ | (simp only [intOf]; omega)
    · have hi1 : ¬ (k : Int) < n := by omega
      have hX1 : Hid (XB wr (.slice xa n xc) n n (-5)) := Hid.mk (i1.more (by omega))
      obtain ⟨Z1, cz1⟩ := Z0.out.stp i2 cz.out (by omega)
      replace i2 := Hid.mk i2
      replace Z1 := Hid.mk (show XB wr (.slice za n' zc) n' 0 (-6) ∧ Stp 2 wr wr c c from ⟨Z1, Stp.refl _ _ _⟩)
      clear i1 Z0 cz1
      go_wp2_with fail
      rename World => w1
      go_loopw [6] (fun x wr => ∃ k : Nat, x = .int .i64 k ∧ k ≤ n' ∧ Hid (XB wr (.slice za n' zc) n' k (-6) ∧ Stp 2 w1 wr c c)) (fun x _ => n' - (intOf x).toNat)
      case atStart => exact ⟨0, rfl, by omega, Z1⟩
      case round =>
        clear Z1
        obtain ⟨k, rfl, hk, ⟨i1, i3⟩⟩ := hrel
        by_cases hlt : k < n'
        · have hi1 : (k : Int) < n' := by omega
          obtain ⟨g, rfl, hg⟩ := i1.here (by omega)
          obtain ⟨s1, s2, s3⟩ := i1.store hlt
          obtain ⟨y0, z0⟩ := s1 0 (by omega)
          obtain ⟨y1, z1⟩ := s1 1 (by omega)
          obtain ⟨y2, z2⟩ := s1 2 (by omega)
          have hcg := cz.out g rfl
          have hnw : Hid (XB (((wr.setCell ⟨g, k * 3, none⟩ (.int .i64 (-6))).setCell ⟨g, k * 3 + 1, none⟩ (.int .i64 0)).setCell ⟨g, k * 3 + 2, none⟩ (.slice none 0 0)) (.slice (some ⟨g, 0, none⟩) n' zc) n' (k + 1) (-6) ∧ Stp 2 w1 (((wr.setCell ⟨g, k * 3, none⟩ (.int .i64 (-6))).setCell ⟨g, k * 3 + 1, none⟩ (.int .i64 0)).setCell ⟨g, k * 3 + 2, none⟩ (.slice none 0 0)) c c) := Hid.mk ⟨s3, ((i3.trans (Stp.set _ _ _ _ hcg)).trans (Stp.set _ _ _ _ hcg)).trans (Stp.set _ _ _ _ hcg)⟩
          simp only [Nat.add_zero] at z0
          clear s1 s3 i1 i3 hcg
          go_wp2_with fail
          go_roundw
          all_goals first | exact ⟨k + 1, by simp, by omega, hnw⟩ | (simp only [intOf]; omega)
        · have hi1 : ¬ (k : Int) < n' := by omega
          have hZ2 : Hid (XB wr (.slice za n' zc) n' n' (-6)) := Hid.mk (i1.more (by omega))
          obtain ⟨X2, cx2⟩ := hX1.out.stp i3 cx.out (by omega)
          replace i3 := Hid.mk i3
          have U0 : Hid (∃ c', XB wr (.slice xa n xc) (n + 0) (n + 0) (-5) ∧ Cl c' (.slice xa n xc) 1 ∧ Stp 1 wr wr c c' ∧ RB wr xa n (-5)) := Hid.mk ⟨c, X2, cx2, Stp.refl _ _ _, X2.rb (Nat.le_refl _)⟩
          clear i1 hX1 X2 cx2
          go_wp2_with fail
          rename World => w2
          go_loopw [7, 9] (fun u x wr => ∃ j : Nat, x = .int .i64 j ∧ j ≤ 64 ∧ Hid (∃ c', XB wr u (n + j) (n + j) (-5) ∧ Cl c' u 1 ∧ Stp 1 w2 wr c c' ∧ RB wr xa n (-5))) (fun _ x _ => 64 - (intOf x).toNat)
          case atStart => exact ⟨0, rfl, by omega, U0⟩
          case round =>
            clear U0
            obtain ⟨j, rfl, hj, ⟨c', j1, j2, j3, j4⟩⟩ := hrel
            obtain ⟨va, vc, rfl⟩ := j1.slice
            by_cases hlt : j < 64
            · have hi2 : (j : Int) < 64 := by omega
              have ha : Below wr.heap.size wr (wr.alloc (.cells #[.int .i64 (-5), .int .i64 0, .slice none 0 0] 37)) := (Below.refl _ wr).alloc (Nat.le_refl _) _
              have j5 : Hid (XB (wr.alloc (.cells #[.int .i64 (-5), .int .i64 0, .slice none 0 0] 37)) (.slice va (n + j) vc) (n + j) (n + j) (-5)) := Hid.mk (by
                obtain ⟨xs, q1, q2⟩ := j1
                exact ⟨xs, own_below q1 ha, q2⟩)
              have j6 : Hid (RB (wr.alloc (.cells #[.int .i64 (-5), .int .i64 0, .slice none 0 0] 37)) xa n (-5)) := Hid.mk (fun q hq => by
                obtain ⟨g, e, q1, q2⟩ := j4 q hq
                exact ⟨g, e, Nat.lt_of_lt_of_le q1 ha.size, (cell_of_block (ha.block g q1) _).trans q2⟩)
              replace ha := Hid.mk ha
              replace j2 := Hid.mk j2
              replace j3 := Hid.mk j3
              clear j1 j4
              go_wp2_with (at_builtin; refine wpList_append_xb rfl (.tmp 39) (.tmp 41) rfl (.slice va (n + j) vc) (n + j) (-5) rfl j5.out wr.heap.size rfl (At.new _ _ _) (by omega) ?_)
              intro g2 cy w3 k1 k2 k3 k4 k5
              have hnw : Hid (∃ c', XB w3 (.slice (some ⟨g2, 0, none⟩) (n + (j + 1)) cy) (n + (j + 1)) (n + (j + 1)) (-5) ∧ Cl c' (.slice (some ⟨g2, 0, none⟩) (n + (j + 1)) cy) 1 ∧ Stp 1 w2 w3 c c' ∧ RB w3 xa n (-5)) := Hid.mk (by
                obtain ⟨c3, t1, t2⟩ := Stp.grown (m := 1) (c := c') k2 j2.out (k3.imp_right (fun e => by rw [e]; simp))
                exact ⟨c3, k1, cl_some t2, j3.out.trans ((Stp.of_below ha.out).trans t1), j6.out.app k2 k5⟩)
              clear k1 k2 k3 k4 k5
              go_wp2_with fail
              go_roundw
              all_goals first | exact ⟨j + 1, by simp, by omega, hnw⟩ | (simp only [intOf]; omega)
            · have hi2 : ¬ (j : Int) < 64 := by omega
              have ej : j = 64 := by omega
              subst ej
              obtain ⟨Z3, cz3⟩ := hZ2.out.stp j3 cz.out (by omega)
              have cx3 : Hid (Cl c' (.slice xa n xc) 1) := Hid.mk (fun g hg => (j3.2 g (Nat.lt_of_lt_of_le (hxl.out g hg) (Nat.le_trans i2.out.1.size i3.out.1.size))).trans (cx.out g hg))
              replace j1 := Hid.mk j1
              replace j2 := Hid.mk j2
              replace j3 := Hid.mk j3
              replace j4 := Hid.mk j4
              have V0 : Hid (∃ c'', XB wr (.slice za n' zc) (n' + 0) (n' + 0) (-6) ∧ Cl c'' (.slice za n' zc) 2 ∧ Stp 2 wr wr c' c'' ∧ RB wr za n' (-6)) := Hid.mk ⟨c', Z3, cz3, Stp.refl _ _ _, Z3.rb (Nat.le_refl _)⟩
              clear Z3 cz3
              go_wp2_with fail
              rename World => w3
              go_loopw [8, 10] (fun u x wr => ∃ j : Nat, x = .int .i64 j ∧ j ≤ 64 ∧ Hid (∃ c'', XB wr u (n' + j) (n' + j) (-6) ∧ Cl c'' u 2 ∧ Stp 2 w3 wr c' c'' ∧ RB wr za n' (-6))) (fun _ x _ => 64 - (intOf x).toNat)
              case atStart => exact ⟨0, rfl, by omega, V0⟩
              case round =>
                clear V0
                obtain ⟨j, rfl, hj, ⟨c'', l1, l2, l3, l4⟩⟩ := hrel
                obtain ⟨ya, yc, rfl⟩ := l1.slice
                by_cases hlt : j < 64
                · have hi2 : (j : Int) < 64 := by omega
                  have ha : Below wr.heap.size wr (wr.alloc (.cells #[.int .i64 (-6), .int .i64 0, .slice none 0 0] 37)) := (Below.refl _ wr).alloc (Nat.le_refl _) _
                  have j5 : Hid (XB (wr.alloc (.cells #[.int .i64 (-6), .int .i64 0, .slice none 0 0] 37)) (.slice ya (n' + j) yc) (n' + j) (n' + j) (-6)) := Hid.mk (by
                    obtain ⟨xs, q1, q2⟩ := l1
                    exact ⟨xs, own_below q1 ha, q2⟩)
                  have j6 : Hid (RB (wr.alloc (.cells #[.int .i64 (-6), .int .i64 0, .slice none 0 0] 37)) za n' (-6)) := Hid.mk (fun q hq => by
                    obtain ⟨g, e, q1, q2⟩ := l4 q hq
                    exact ⟨g, e, Nat.lt_of_lt_of_le q1 ha.size, (cell_of_block (ha.block g q1) _).trans q2⟩)
                  replace ha := Hid.mk ha
                  replace l2 := Hid.mk l2
                  replace l3 := Hid.mk l3
                  clear l1 l4
                  go_wp2_with (at_builtin; refine wpList_append_xb rfl (.tmp 47) (.tmp 49) rfl (.slice ya (n' + j) yc) (n' + j) (-6) rfl j5.out wr.heap.size rfl (At.new _ _ _) (by omega) ?_)
                  intro g2 cy w4 k1 k2 k3 k4 k5
                  have hnw : Hid (∃ c'', XB w4 (.slice (some ⟨g2, 0, none⟩) (n' + (j + 1)) cy) (n' + (j + 1)) (n' + (j + 1)) (-6) ∧ Cl c'' (.slice (some ⟨g2, 0, none⟩) (n' + (j + 1)) cy) 2 ∧ Stp 2 w3 w4 c' c'' ∧ RB w4 za n' (-6)) := Hid.mk (by
                    obtain ⟨c3, t1, t2⟩ := Stp.grown (m := 2) (c := c'') k2 l2.out (k3.imp_right (fun e => by rw [e]; simp))
                    exact ⟨c3, k1, cl_some t2, l3.out.trans ((Stp.of_below ha.out).trans t1), j6.out.app k2 k5⟩)
                  clear k1 k2 k3 k4 k5
                  go_wp2_with fail
                  go_roundw
                  all_goals first | exact ⟨j + 1, by simp, by omega, hnw⟩ | (simp only [intOf]; omega)
                · have hi2 : ¬ (j : Int) < 64 := by omega
                  have ej : j = 64 := by omega
                  subst ej
                  have ru : Hid (RB wr va (n + 64) (-5)) := Hid.mk ((j1.out.rb (Nat.le_refl _)).stp j2.out l3 (by omega))
                  have rx : Hid (RB wr xa n (-5)) := Hid.mk (j4.out.stp cx3.out l3 (by omega))
                  have rv : Hid (RB wr ya (n' + 64) (-6)) := Hid.mk (l1.rb (Nat.le_refl _))
                  have rz : Hid (RB wr za n' (-6)) := Hid.mk l4
                  have hK : Hid (Kp (fun k => (Value.slice xa n xc).ownBlock = some k ∨ (Value.slice za n' zc).ownBlock = some k) w wr) := Hid.mk (by
                    have e1 : Kp (fun k => (Value.slice xa n xc).ownBlock = some k ∨ (Value.slice za n' zc).ownBlock = some k) w w1 := i2.out.1.mono (fun k q => .inl (cS.out k (.inl q)))
                    have e2 := e1.trans i3.out.1 (fun k q => .inl (cS.out k (.inr q)))
                    have e3 := e2.trans j3.out.1 (fun k q => .inl (cS.out k (.inl q)))
                    exact e3.trans l3.1 (fun k q => by
                      by_cases hk : k < w2.heap.size
                      · exact .inl (cS.out k (.inr ((j3.out.2 k hk).symm.trans q)))
                      · exact .inr (Nat.le_trans (Nat.le_trans i2.out.1.size i3.out.1.size) (by omega))))
                  clear l1 l2 l3 l4 j1 j2 j3 j4 cx3 i2 i3 hZ2
                  go_wp2_with fail
                  rename World => w5
                  go_loopw [11] (fun x wr => ∃ k : Nat, x = .int .i64 k ∧ k ≤ n + 64 ∧ wr = w5) (fun x _ => n + 64 - (intOf x).toNat)
                  case atStart => exact ⟨0, rfl, by omega, rfl⟩
                  case round =>
                    obtain ⟨k, rfl, hk, rfl⟩ := hrel
                    by_cases hlt : k < n + 64
                    · have hi3 : (k : Int) < (n : Int) + 64 := by omega
                      obtain ⟨g1, rfl, q1, z1⟩ := ru.out k hlt
                      by_cases hkn : k < n
                      · have hi4 : (k : Int) < n := by omega
                        obtain ⟨g2, rfl, q2, z2⟩ := rx.out k hkn
                        go_wp2_with fail
                        go_roundw
                        all_goals first | exact ⟨k + 1, by simp, by omega, trivial⟩ | (simp only [intOf]; omega)
                      · have hi4 : ¬ (k : Int) < n := by omega
                        go_wp2_with fail
                        go_roundw
                        all_goals first | exact ⟨k + 1, by simp, by omega, trivial⟩ | (simp only [intOf]; omega)
                    · have hi3 : ¬ (k : Int) < (n : Int) + 64 := by omega
                      go_wp2_with fail
                      rename World => w5
                      go_loopw [12] (fun x wr => ∃ k : Nat, x = .int .i64 k ∧ k ≤ n' + 64 ∧ wr = w5) (fun x _ => n' + 64 - (intOf x).toNat)
                      case atStart => exact ⟨0, rfl, by omega, rfl⟩
                      case round =>
                        obtain ⟨k, rfl, hk, rfl⟩ := hrel
                        by_cases hlt : k < n' + 64
                        · have hi3 : (k : Int) < (n' : Int) + 64 := by omega
                          obtain ⟨g1, rfl, q1, z1⟩ := rv.out k hlt
                          by_cases hkn : k < n'
                          · have hi4 : (k : Int) < n' := by omega
                            obtain ⟨g2, rfl, q2, z2⟩ := rz.out k hkn
                            go_wp2_with fail
                            go_roundw
                            all_goals first | exact ⟨k + 1, by simp, by omega, trivial⟩ | (simp only [intOf]; omega)
                          · have hi4 : ¬ (k : Int) < n' := by omega
                            go_wp2_with fail
                            go_roundw
                            all_goals first | exact ⟨k + 1, by simp, by omega, trivial⟩ | (simp only [intOf]; omega)
                        · have hi3 : ¬ (k : Int) < (n' : Int) + 64 := by omega
                          go_wp2_with fail
                          go_ret
                          exact ⟨rfl, hK.out⟩
end F
end Go.Proofs.Ytoppcikacakjcaa
