import Derived.Test.YtcljibdikhpnlaaDoorQGrow
import Derived.Test.YtcljibdikhpnlaaDoorMCopyI
import Derived.Test.YtcljibdikhpnlaaDoorP11
/-
  Copies of a program: what may be written over them, what stays.
-/
namespace Go.Proofs.YtcljibdikhpnlaaDoor
namespace Q
open Go.RowKit

/-- All old blocks but those from 'lo' to 'hi' are as they were. -/
structure Kx (lo hi : Nat) (W W' : World) : Prop where
  os : W'.os = W.os
  tape : W'.tape = W.tape
  output : W'.output = W.output
  size : W.heap.size ≤ W'.heap.size
  out : ∀ b, b < W.heap.size → b < lo ∨ hi ≤ b → W'.heap[b]? = W.heap[b]?
theorem Kx.of_below {W W' : World} (h : Below W.heap.size W W') : Kx 0 0 W W' := ⟨h.os, h.tape, h.output, h.size, fun b hb _ => h.block b hb⟩
theorem Kx.of_gr {W W' : World} (h : Gr W W') : Kx 0 0 W W' := Kx.of_below h.below
theorem Kx.of_wr {lo hi : Nat} {H : Nat → Nat → Prop} {w W0 W : World} (g : Gr w W0) (h : Wr lo hi H W0 W) : Kx lo hi w W :=
  ⟨h.os.trans g.below.os, h.tape.trans g.below.tape, h.output.trans g.below.output, Nat.le_trans g.below.size h.size, fun b hb q => (h.out b (Nat.lt_of_lt_of_le hb g.below.size) q).trans (g.below.block b hb)⟩
theorem Kx.at_ {lo hi : Nat} {W W' : World} (h : Kx lo hi W W') {k : Nat} {cs : Array Value} (hA : At W k cs) (hk : k < lo ∨ hi ≤ k) : At W' k cs := by
  have e := h.out k hA.1 hk
  exact ⟨Nat.lt_of_lt_of_le hA.1 h.size, fun i => by rw [World.cell?_of_block (a := ⟨k, i, none⟩) e]; exact hA.2.1 i, fun i => by rw [World.frozen?_of_block (a := ⟨k, i, none⟩) e]; exact hA.2.2 i⟩
theorem Kx.bel {lo hi : Nat} {W W' : World} (h : Kx lo hi W W') {B : Nat} (hB : B ≤ W.heap.size) (hl : B ≤ lo ∨ hi = 0) : Below B W W' := ⟨h.os, h.tape, h.output, h.size, fun b hb => h.out b (by omega) (by omega)⟩
theorem own_kx {lo hi : Nat} {W W' : World} (h : Kx lo hi W W') {l e size n : Nat} {v : Value} {xs : List Value} (q : W.ownsRow l e size v n xs) (hl : hi ≤ l) : W'.ownsRow l e size v n xs := by
  refine ⟨q.1, ?_⟩
  rcases q.2 with q2 | ⟨g, cap, cur, e1, hb, hg, r⟩
  · exact .inl q2
  · refine .inr ⟨g, cap, cur, e1, hb, ?_, r⟩
    rw [h.out g (Array.getElem?_eq_some_iff.1 hg).1 (by omega)]
    exact hg
theorem img_kx {lo hi : Nat} {W W' : World} (h : Kx lo hi W W') {l : Nat} {rv cv gv : Value} {m : PImg} (q : ImgOwn l W rv cv gv m) (hl : hi ≤ l) : ImgOwn l W' rv cv gv m := by
  obtain ⟨⟨a, a1, a2⟩, ⟨b, b1, b2⟩, ⟨c, c1, c2⟩⟩ := q
  refine ⟨⟨a, own_kx h a1 hl, a2.imp fun _ _ q => ?_⟩, ⟨b, own_kx h b1 hl, b2.imp fun _ _ q => ?_⟩, ⟨c, own_kx h c1 hl, c2.imp fun _ _ q => ?_⟩⟩
  · obtain ⟨sa, sc, e, q⟩ := q
    exact ⟨sa, sc, e, own_kx h q hl⟩
  · obtain ⟨x1, x2, x3, x4, e, q, q2⟩ := q
    exact ⟨x1, x2, x3, x4, e, own_kx h q hl, own_kx h q2 hl⟩
  · obtain ⟨x1, x2, x3, x4, e, q, q2⟩ := q
    exact ⟨x1, x2, x3, x4, e, own_kx h q hl, own_kx h q2 hl⟩
/-- A lent program may be written over. -/
theorem lent_hdr {kk kr kc kg lo hi' : Nat} {w : World} {m : PImg} {lr : List RgV} {lc : List CpV} {lg : List GtV} (h : LeIn kk kr kc kg w m lr lc lg) (hS : LeSep lo kr kc kg hi' m lr lc lg) (hF : TwFit m) :
    Hdr (Lw lo w.heap.size (IsHd m.regs.length m.comps.length m.gates.length kr kc kg) w) lo w.heap.size kr kc kg w (some ⟨kr, 0, none⟩) (some ⟨kc, 0, none⟩) (some ⟨kg, 0, none⟩) m.regs.length m.comps.length m.gates.length := by
  have a1 := hS.a
  have a2 := hS.b
  have a3 := hS.c
  have b1 := h.g.1
  refine ⟨fun i q => ⟨rfl, ?_⟩, fun i q => ⟨rfl, ?_⟩, fun i q => ⟨rfl, ?_⟩, fun _ => ⟨by omega, by omega, h.r.there 0 _ (by rw [row_len (pre := []) rg_len, h.rl]; simp; omega)⟩, fun _ => ⟨by omega, by omega, h.c.there 0 _ (by rw [row_len (pre := []) cp_len, h.cl]; simp; omega)⟩, fun _ => ⟨by omega, by omega, h.g.there 0 _ (by rw [row_len (pre := []) gt_len, h.gl]; simp; omega)⟩, fun _ _ => by omega, fun _ _ => by omega, fun _ _ => by omega⟩
  · obtain ⟨v, g1, hv, e1, g2, g3, ht⟩ := rlist h hS i q
    have hf := hF.rs _ (List.getElem_mem q)
    obtain ⟨vb, vn, vd, vs⟩ := v
    dsimp only at e1
    subst e1
    exact ⟨_, _, _, elem_atL rg_len h.r i _ hv 3 _ rfl, by dsimp only; omega, fun _ => ⟨g1, rfl, by omega, by omega, by unfold IsHd; omega, ht⟩⟩
  · obtain ⟨v, g1, g4, hv, e1, g2, g3, ht, e2, g5, g6, ht2⟩ := clist h hS i q
    have hf := hF.cs _ (List.getElem_mem q)
    obtain ⟨vr, vk⟩ := v
    dsimp only at e1 e2
    subst e1 e2
    exact ⟨_, _, _, _, _, _, elem_atL cp_len h.c i _ hv 0 _ rfl, ⟨by dsimp only; omega, fun _ => ⟨g1, rfl, by omega, by omega, by unfold IsHd; omega, ht⟩⟩, elem_atL cp_len h.c i _ hv 1 _ rfl, by dsimp only; omega, fun _ => ⟨g4, rfl, by omega, by omega, by unfold IsHd; omega, ht2⟩⟩
  · obtain ⟨v, g1, g4, hv, e1, g2, ht, e2, g5, ht2⟩ := glist h hS i q
    have hf := hF.gs _ (List.getElem_mem q)
    have hq := glt h i q v hv
    have hq1 := hq.1 g1 (by rw [e1])
    have hq2 := hq.2 g4 (by rw [e2])
    obtain ⟨vc, ve, vx, vy⟩ := v
    dsimp only at e1 e2
    subst e1 e2
    exact ⟨_, _, _, _, _, _, elem_atL gt_len h.g i _ hv 2 _ rfl, ⟨by dsimp only; omega, fun _ => ⟨g1, rfl, by omega, by omega, by unfold IsHd; omega, ht⟩⟩, elem_atL gt_len h.g i _ hv 3 _ rfl, by dsimp only; omega, fun _ => ⟨g4, rfl, by omega, by omega, by unfold IsHd; omega, ht2⟩⟩
theorem own_apart {w : World} {l e s n l' e' s' n' g : Nat} {v v' : Value} {xs xs' : List Value} (h : w.ownsRow l e s v n xs) (h' : w.ownsRow l' e' s' v' n' xs') (ne : e ≠ e') (q : v.ownBlock = some g) : v'.ownBlock ≠ some g := by
  rcases h.2 with ⟨rfl, _⟩ | ⟨g1, cap, cur, rfl, _, hg, _⟩
  · cases q
  · obtain rfl : g1 = g := by simpa [Value.ownBlock] using q
    exact own_ne h' hg ne
theorem own_row_of {w : World} {l e s n c : Nat} {a : Option Addr} {xs : List Value} (h : w.ownsRow l e s (.slice a n c) n xs) : ∃ k, 0 < n → a = some ⟨k, 0, none⟩ ∧ l ≤ k ∧ k < w.heap.size ∧ w.there k 0 (n * s) ∧ (Value.slice a n c).ownBlock = some k := by
  by_cases hn : 0 < n
  · obtain ⟨g, rfl, h1, h2⟩ := own_at h hn
    exact ⟨g, fun _ => ⟨rfl, h1, h2, own_there h, rfl⟩⟩
  · exact ⟨0, fun q => absurd q hn⟩
/-- Lists with room for two more in the machine's reach. -/
structure Two (m : PImg) : Prop where
  r : ∀ r ∈ m.regs, (r.slots.length + 2) * 64 ≤ 140737488355328
  c : ∀ c ∈ m.comps, (c.roots.length + 2) * 48 ≤ 140737488355328 ∧ (c.code.length + 2) * 40 ≤ 140737488355328
  g : ∀ g ∈ m.gates, (g.args.length + 2) * 56 ≤ 140737488355328 ∧ (g.res.length + 2) * 56 ≤ 140737488355328
theorem fit_two {m : PImg} (h : m.Fit) : Two m := by
  have e := reach_is
  refine ⟨fun r q => ?_, fun r q => ?_, fun r q => ?_⟩
  · have := (h.regs.2 r q).2.2.2.1; omega
  · have := (h.comps.2 r q).1; have := (h.comps.2 r q).2.1; omega
  · have := (h.gates.2 r q).2.2.1; have := (h.gates.2 r q).2.2.2.1; omega
theorem fit_fits {m : PImg} (h : m.Fit) : m.Fits := by
  have e := reach_is
  refine ⟨⟨?_, fun r q => ⟨?_, ?_⟩⟩, ⟨?_, fun r q => ⟨?_, ?_⟩⟩, ⟨?_, fun r q => ⟨?_, ?_⟩⟩⟩
  · have := h.regs.1; unfold FitB; omega
  · have := (h.regs.2 r q).2.2.1; unfold maxG at this; omega
  · have := (h.regs.2 r q).2.2.2.1; unfold FitB; omega
  · have := h.comps.1; unfold FitB; omega
  · have := (h.comps.2 r q).1; unfold FitB; omega
  · have := (h.comps.2 r q).2.1; unfold FitB; omega
  · have := h.gates.1; unfold FitB; omega
  · have := (h.gates.2 r q).2.2.1; unfold FitB; omega
  · have := (h.gates.2 r q).2.2.2.1; unfold FitB; omega
/-- A copy's rows. -/
theorem own_hdr {lo : Nat} {w : World} {m : PImg} {ra ca ga : Option Addr} {rc cc gc : Nat} (h : ImgOwn lo w (.slice ra m.regs.length rc) (.slice ca m.comps.length cc) (.slice ga m.gates.length gc) m) (hF : Two m) :
    ∃ kr kc kg, Hdr (Lg lo w.heap.size (IsHd m.regs.length m.comps.length m.gates.length kr kc kg) w) lo w.heap.size kr kc kg w ra ca ga m.regs.length m.comps.length m.gates.length := by
  obtain ⟨⟨a, a1, a2⟩, ⟨b, b1, b2⟩, ⟨c, c1, c2⟩⟩ := h
  obtain ⟨kr, hr⟩ := own_row_of a1
  obtain ⟨kc, hc⟩ := own_row_of b1
  obtain ⟨kg, hg⟩ := own_row_of c1
  have key : ∀ {e s n : Nat} {v : Value} {xs : List Value}, w.ownsRow lo e s v n xs → e ≠ 47 → e ≠ 52 → e ≠ 55 → ∀ g, v.ownBlock = some g → g < w.heap.size ∧ ¬ IsHd m.regs.length m.comps.length m.gates.length kr kc kg g := fun q e1 e2 e3 g hv => by
    refine ⟨(own_block q g hv).2, fun r => ?_⟩
    rcases r with ⟨r1, rfl⟩ | ⟨r1, rfl⟩ | ⟨r1, rfl⟩
    · exact own_apart q a1 e1 hv (hr r1).2.2.2.2
    · exact own_apart q b1 e2 hv (hc r1).2.2.2.2
    · exact own_apart q c1 e3 hv (hg r1).2.2.2.2
  refine ⟨kr, kc, kg, fun i q => ⟨(hr (by omega)).1, ?_⟩, fun i q => ⟨(hc (by omega)).1, ?_⟩, fun i q => ⟨(hg (by omega)).1, ?_⟩, fun q => ⟨(hr q).2.1, (hr q).2.2.1, (hr q).2.2.2.1⟩, fun q => ⟨(hc q).2.1, (hc q).2.2.1, (hc q).2.2.2.1⟩, fun q => ⟨(hg q).2.1, (hg q).2.2.1, (hg q).2.2.2.1⟩, fun q1 q2 e => ?_, fun q1 q2 e => ?_, fun q1 q2 e => ?_⟩
  · obtain ⟨cs, e, sa, sc, rfl, hs⟩ := a2.get i q
    have hl : ∀ cs ∈ a, cs.length = 4 := fun cs hc => by
      obtain ⟨k, hk, rfl⟩ := List.mem_iff_getElem.1 hc
      obtain ⟨cs', e', sa, sc, rfl, _⟩ := a2.get k (by rw [← a2.len]; exact hk)
      rw [List.getElem?_eq_getElem hk] at e'
      rw [Option.some.inj e']
      rfl
    exact ⟨_, _, _, own_cell a1 (hr (by omega)).1 _ _ ((flatten_get hl i 3 _ e (by omega)).trans rfl), ⟨_, hs⟩, key hs (by decide) (by decide) (by decide), hF.r _ (List.getElem_mem q)⟩
  · obtain ⟨cs, e, ra', rc', ka, kc', rfl, hs, hs2⟩ := b2.get i q
    have hl : ∀ cs ∈ b, cs.length = 2 := fun cs hc => by
      obtain ⟨k, hk, rfl⟩ := List.mem_iff_getElem.1 hc
      obtain ⟨cs', e', _, _, _, _, rfl, _, _⟩ := b2.get k (by rw [← b2.len]; exact hk)
      rw [List.getElem?_eq_getElem hk] at e'
      rw [Option.some.inj e']
      rfl
    have f := hF.c _ (List.getElem_mem q)
    exact ⟨_, _, _, _, _, _, own_cell b1 (hc (by omega)).1 _ _ ((flatten_get hl i 0 _ e (by omega)).trans rfl), ⟨⟨_, hs⟩, key hs (by decide) (by decide) (by decide), f.1⟩, own_cell b1 (hc (by omega)).1 _ _ ((flatten_get hl i 1 _ e (by omega)).trans rfl), ⟨_, hs2⟩, key hs2 (by decide) (by decide) (by decide), f.2⟩
  · obtain ⟨cs, e, xa, xc, ya, yc, rfl, hs, hs2⟩ := c2.get i q
    have hl : ∀ cs ∈ c, cs.length = 4 := fun cs hc => by
      obtain ⟨k, hk, rfl⟩ := List.mem_iff_getElem.1 hc
      obtain ⟨cs', e', _, _, _, _, rfl, _, _⟩ := c2.get k (by rw [← c2.len]; exact hk)
      rw [List.getElem?_eq_getElem hk] at e'
      rw [Option.some.inj e']
      rfl
    have f := hF.g _ (List.getElem_mem q)
    exact ⟨_, _, _, _, _, _, own_cell c1 (hg (by omega)).1 _ _ ((flatten_get hl i 2 _ e (by omega)).trans rfl), ⟨⟨_, hs⟩, key hs (by decide) (by decide) (by decide), f.1⟩, own_cell c1 (hg (by omega)).1 _ _ ((flatten_get hl i 3 _ e (by omega)).trans rfl), ⟨_, hs2⟩, key hs2 (by decide) (by decide) (by decide), f.2⟩
  · subst e; exact own_apart a1 b1 (by decide) (hr q1).2.2.2.2 (hc q2).2.2.2.2
  · subst e; exact own_apart a1 c1 (by decide) (hr q1).2.2.2.2 (hg q2).2.2.2.2
  · subst e; exact own_apart b1 c1 (by decide) (hc q1).2.2.2.2 (hg q2).2.2.2.2
theorem Lg.lw {lo hi : Nat} {N : Nat → Prop} {H : Nat → Nat → Prop} {W0 W : World} {t : TypeId} {size : Nat} {a : Option Addr} {n c : Nat} (hs : 0 < size) (h : Lg lo hi N W0 t size a n c) (g : Wr lo hi H W0 W) : Lw lo hi N W t size a n c := by
  obtain ⟨⟨xs, h1⟩, h2, h3⟩ := h
  refine ⟨?_, fun q => ?_⟩
  · have : (n + 2) * (1 * 8) ≤ (n + 2) * (size * 8) := Nat.mul_le_mul_left _ (Nat.mul_le_mul_right _ hs)
    omega
  · obtain ⟨b, rfl, q1, q2⟩ := own_at h1 q
    exact ⟨b, rfl, q1, (h2 b rfl).1, (h2 b rfl).2, g.th (own_there h1)⟩
theorem Hdr.wr {lo hi kr kc kg : Nat} {W0 W : World} {ra ca ga : Option Addr} {nr nc ng : Nat} (h : Hdr (Lg lo hi (IsHd nr nc ng kr kc kg) W0) lo hi kr kc kg W0 ra ca ga nr nc ng) (g : Wr lo hi (fun b _ => IsHd nr nc ng kr kc kg b) W0 W) (hh : hi ≤ W0.heap.size) : Hdr (Lw lo hi (IsHd nr nc ng kr kc kg) W) lo hi kr kc kg W ra ca ga nr nc ng := by
  have z1 : 0 < nr → kr < W0.heap.size ∧ IsHd nr nc ng kr kc kg kr := fun q => ⟨by have := (h.hr q).2.1; omega, .inl ⟨q, rfl⟩⟩
  have z2 : 0 < nc → kc < W0.heap.size ∧ IsHd nr nc ng kr kc kg kc := fun q => ⟨by have := (h.hc q).2.1; omega, .inr (.inl ⟨q, rfl⟩)⟩
  have z3 : 0 < ng → kg < W0.heap.size ∧ IsHd nr nc ng kr kc kg kg := fun q => ⟨by have := (h.hg q).2.1; omega, .inr (.inr ⟨q, rfl⟩)⟩
  refine ⟨fun i q => ?_, fun i q => ?_, fun i q => ?_, fun q => ⟨(h.hr q).1, (h.hr q).2.1, g.th (h.hr q).2.2⟩, fun q => ⟨(h.hc q).1, (h.hc q).2.1, g.th (h.hc q).2.2⟩, fun q => ⟨(h.hg q).1, (h.hg q).2.1, g.th (h.hg q).2.2⟩, h.n1, h.n2, h.n3⟩
  · obtain ⟨e, a, n, c, q1, q2⟩ := h.r i q
    have z := z1 (by omega)
    exact ⟨e, a, n, c, (g.hd _ _ z.1 z.2).trans q1, q2.lw (by decide) g⟩
  · obtain ⟨e, a, n, c, a', n', c', q1, q2, q3, q4⟩ := h.c i q
    have z := z2 (by omega)
    exact ⟨e, a, n, c, a', n', c', (g.hd _ _ z.1 z.2).trans q1, q2.lw (by decide) g, (g.hd _ _ z.1 z.2).trans q3, q4.lw (by decide) g⟩
  · obtain ⟨e, a, n, c, a', n', c', q1, q2, q3, q4⟩ := h.g i q
    have z := z3 (by omega)
    exact ⟨e, a, n, c, a', n', c', (g.hd _ _ z.1 z.2).trans q1, q2.lw (by decide) g, (g.hd _ _ z.1 z.2).trans q3, q4.lw (by decide) g⟩
theorem cell_same {W W' : World} {b o : Nat} {v : Value} (e : W'.heap[b]? = W.heap[b]?) (h : W.cell? ⟨b, o, none⟩ = some v) : W'.cell? ⟨b, o, none⟩ = some v := (World.cell?_of_block (a := ⟨b, o, none⟩) e).trans h
theorem there_same {W W' : World} {b o n : Nat} (e : W'.heap[b]? = W.heap[b]?) (h : W.there b o n) : W'.there b o n := fun j hj => by
  rw [World.cell?_of_block (a := ⟨b, o + j, none⟩) e, World.frozen?_of_block (a := ⟨b, o + j, none⟩) e]
  exact h j hj
theorem there_lt {W : World} {b o n : Nat} (h : W.there b o n) (hn : 0 < n) : b < W.heap.size := by
  obtain ⟨y, hy⟩ := Option.isSome_iff_exists.1 (h 0 hn).1
  exact World.block_lt_of_cell? W ⟨b, o + 0, none⟩ hy
theorem Hdr.bel {lo hi kr kc kg : Nat} {N : Nat → Prop} {W W' : World} {ra ca ga : Option Addr} {nr nc ng : Nat} (h : Hdr (Lw lo hi N W) lo hi kr kc kg W ra ca ga nr nc ng) (g : Below W.heap.size W W') : Hdr (Lw lo hi N W') lo hi kr kc kg W' ra ca ga nr nc ng := by
  have th : ∀ {b o n : Nat}, W.there b o n → W'.there b o n := fun {b o n} q j hj => by
    have hb := there_lt q (by omega)
    exact there_same (g.block b hb) q j hj
  have ce : ∀ {b o : Nat} {v : Value}, W.cell? ⟨b, o, none⟩ = some v → W'.cell? ⟨b, o, none⟩ = some v := fun {b o v} q => cell_same (g.block b (World.block_lt_of_cell? W ⟨b, o, none⟩ q)) q
  have lw : ∀ {t : TypeId} {size : Nat} {a : Option Addr} {n c : Nat}, Lw lo hi N W t size a n c → Lw lo hi N W' t size a n c := fun q => ⟨q.1, fun r => by
    obtain ⟨b, q1, q2, q3, q4, q5⟩ := q.2 r
    exact ⟨b, q1, q2, q3, q4, th q5⟩⟩
  refine ⟨fun i q => ?_, fun i q => ?_, fun i q => ?_, fun q => ⟨(h.hr q).1, (h.hr q).2.1, th (h.hr q).2.2⟩, fun q => ⟨(h.hc q).1, (h.hc q).2.1, th (h.hc q).2.2⟩, fun q => ⟨(h.hg q).1, (h.hg q).2.1, th (h.hg q).2.2⟩, h.n1, h.n2, h.n3⟩
  · obtain ⟨e, a, n, c, q1, q2⟩ := h.r i q
    exact ⟨e, a, n, c, ce q1, lw q2⟩
  · obtain ⟨e, a, n, c, a', n', c', q1, q2, q3, q4⟩ := h.c i q
    exact ⟨e, a, n, c, a', n', c', ce q1, lw q2, ce q3, lw q4⟩
  · obtain ⟨e, a, n, c, a', n', c', q1, q2, q3, q4⟩ := h.g i q
    exact ⟨e, a, n, c, a', n', c', ce q1, lw q2, ce q3, lw q4⟩
theorem Hdr.kx {x y lo hi kr kc kg : Nat} {N : Nat → Prop} {W W' : World} {ra ca ga : Option Addr} {nr nc ng : Nat} (h : Hdr (Lg lo hi N W) lo hi kr kc kg W ra ca ga nr nc ng) (g : Kx x y W W') (hy : y ≤ lo) : Hdr (Lg lo hi N W') lo hi kr kc kg W' ra ca ga nr nc ng := by
  have th : ∀ {b o n : Nat}, lo ≤ b → W.there b o n → W'.there b o n := fun {b o n} hb q j hj => there_same (g.out b (there_lt q (by omega)) (by omega)) q j hj
  have ce : ∀ {b o : Nat} {v : Value}, lo ≤ b → W.cell? ⟨b, o, none⟩ = some v → W'.cell? ⟨b, o, none⟩ = some v := fun {b o v} hb q => cell_same (g.out b (World.block_lt_of_cell? W ⟨b, o, none⟩ q) (by omega)) q
  have lw : ∀ {t : TypeId} {size : Nat} {a : Option Addr} {n c : Nat}, Lg lo hi N W t size a n c → Lg lo hi N W' t size a n c := fun q => by
    obtain ⟨⟨xs, q1⟩, q2⟩ := q
    exact ⟨⟨xs, own_kx g q1 hy⟩, q2⟩
  refine ⟨fun i q => ?_, fun i q => ?_, fun i q => ?_, fun q => ⟨(h.hr q).1, (h.hr q).2.1, th (h.hr q).1 (h.hr q).2.2⟩, fun q => ⟨(h.hc q).1, (h.hc q).2.1, th (h.hc q).1 (h.hc q).2.2⟩, fun q => ⟨(h.hg q).1, (h.hg q).2.1, th (h.hg q).1 (h.hg q).2.2⟩, h.n1, h.n2, h.n3⟩
  · obtain ⟨e, a, n, c, q1, q2⟩ := h.r i q
    exact ⟨e, a, n, c, ce (h.hr (by omega)).1 q1, lw q2⟩
  · obtain ⟨e, a, n, c, a', n', c', q1, q2, q3, q4⟩ := h.c i q
    exact ⟨e, a, n, c, a', n', c', ce (h.hc (by omega)).1 q1, lw q2, ce (h.hc (by omega)).1 q3, lw q4⟩
  · obtain ⟨e, a, n, c, a', n', c', q1, q2, q3, q4⟩ := h.g i q
    exact ⟨e, a, n, c, a', n', c', ce (h.hg (by omega)).1 q1, lw q2, ce (h.hg (by omega)).1 q3, lw q4⟩
end Q
end Go.Proofs.YtcljibdikhpnlaaDoor
