import Derived.Test.YtdlcphinjnnhcaaGreatDoorK18
import Derived.Test.YtdlcphinjnnhcaaGreatDoorK16
import Derived.Deep.DeepCutAuto
import Derived.Deep.CutBlock
namespace Go.Proofs.YtdlcphinjnnhcaaGreatDoor
namespace F
open Go.RowKit
open T

structure Sw (L : List Ins) (E : List Int) (out : Int) (s0 s : Nat → Bool) (a : Bool) (p : Nat) (M : List Int) : Prop where
 mono : ∀ q, q < L.length → s0 q = true → s q = true
 snd : ∀ q, q < L.length → s q = true → Rch L E out q
 off : a = false → ∀ q, q < L.length → s q = s0 q
 on : a = true → cnt L.length s0 + 1 ≤ cnt L.length s
 clo : a = false → ∀ p' q, p' < p → s0 p' = true → folB L p' q = true → (q : Int) ≠ out → s q = true
 cur : a = false → ∀ y ∈ M, y ≠ out → s y.toNat = true
theorem Sw.start {L : List Ins} {E : List Int} {out : Int} {s : Nat → Bool} (h : ∀ q, q < L.length → s q = true → Rch L E out q) : Sw L E out s s false 0 [] :=
 ⟨fun _ _ h => h, h, fun _ _ _ => rfl, fun h => (by cases h), fun _ p' q h1 => (by omega), fun _ y hy => (by simp at hy)⟩
theorem Sw.skip {L : List Ins} {E : List Int} {out : Int} {s0 s : Nat → Bool} {a : Bool} {p : Nat} (h : Sw L E out s0 s a p []) (hp : p < L.length) (hs : s p = false) : Sw L E out s0 s a (p + 1) [] := by
 refine ⟨h.mono, h.snd, h.off, h.on, fun e p' q h1 h2 h3 h4 => ?_, h.cur⟩
 by_cases e2 : p' = p
 · subst e2
   rw [h.mono p' hp h2] at hs
   cases hs
 · exact h.clo e p' q (by omega) h2 h3 h4
theorem Sw.keep {L : List Ins} {E : List Int} {out : Int} {s0 s : Nat → Bool} {a : Bool} {p : Nat} {M : List Int} {y : Int} (h : Sw L E out s0 s a p M) (hy : y ≠ out → s y.toNat = true) : Sw L E out s0 s a p (M ++ [y]) := by
 refine ⟨h.mono, h.snd, h.off, h.on, h.clo, fun e z hz hne => ?_⟩
 rcases List.mem_append.1 hz with r | r
 · exact h.cur e z r hne
 · rw [List.mem_singleton] at r
   subst r
   exact hy hne
theorem Sw.put {L : List Ins} {E : List Int} {out : Int} {s0 s s' : Nat → Bool} {a : Bool} {p q : Nat} {M : List Int} (h : Sw L E out s0 s a p M) (hp : p < L.length) (hps : s p = true) (hf : folB L p q = true) (hne : (q : Int) ≠ out) (hq : s q = false) (hs' : ∀ z, z < L.length → s' z = if z = q then true else s z) (M' : List Int) : Sw L E out s0 s' true p M' := by
 have hql := folB_lt hf
 have hct : cnt L.length s' = cnt L.length s + 1 := by
   rw [← cnt_add L.length q s hql hq]
   exact cnt_congr L.length (fun z hz => by
     rw [hs' z hz]
     by_cases e : z = q
     · subst e; simp [adS]
     · have : ¬ (z : Int) = q := by omega
       simp [adS, e, this])
 refine ⟨fun z hz h1 => ?_, fun z hz h1 => ?_, fun e => (by cases e), fun _ => ?_, fun e => (by cases e), fun e => (by cases e)⟩
 · rw [hs' z hz]
   split
   · rfl
   · exact h.mono z hz h1
 · rw [hs' z hz] at h1
   by_cases e : z = q
   · subst e
     exact Rch.step (h.snd p hp hps) hf hne
   · rw [if_neg e] at h1
     exact h.snd z hz h1
 · have := cnt_mono L.length h.mono
   omega
structure Ws (L : List Ins) (E : List Int) (out : Int) (s : Nat → Bool) (a : Bool) : Prop where
 snd : ∀ q, q < L.length → s q = true → Rch L E out q
 base : ∀ q, q < L.length → (q : Int) ∈ E → (q : Int) ≠ out → s q = true
 clo : a = false → ∀ p q, s p = true → p < L.length → folB L p q = true → (q : Int) ≠ out → s q = true
theorem Ws.sweep {L : List Ins} {E : List Int} {out : Int} {s0 s : Nat → Bool} {a0 a : Bool} (h : Ws L E out s0 a0) (g : Sw L E out s0 s a L.length []) : Ws L E out s a := by
 refine ⟨g.snd, fun q hq h1 h2 => g.mono q hq (h.base q hq h1 h2), fun e p q h1 h2 h3 h4 => ?_⟩
 rw [g.off e p h2] at h1
 exact g.clo e p q h2 h1 h3 h4
theorem Ws.done {L : List Ins} {E : List Int} {out : Int} {s : Nat → Bool} (h : Ws L E out s false) : ∀ q, q < L.length → s q = rchB L E out q := by
 have key : ∀ q, Rch L E out q → s q = true := by
   intro q hq
   induction hq with
   | base h1 h2 h3 => exact h.base _ h2 h1 h3
   | step h1 h2 h3 ih => exact h.clo rfl _ _ ih (folB_lt' h2) h2 h3
 intro q hq
 cases e : s q with
 | true => exact (rchB_iff.2 (h.snd q hq e)).symm
 | false =>
   cases e2 : rchB L E out q with
   | false => rfl
   | true =>
     rw [key q (rchB_iff.1 e2)] at e
     cases e
def wE (E : List Int) (out : Int) (q : Nat) : Bool := decide ((q : Int) ∈ E) && decide ((q : Int) ≠ out)
theorem Ws.start (L : List Ins) (E : List Int) (out : Int) : Ws L E out (wE E out) true := by
 refine ⟨fun q hq h => ?_, fun q hq h1 h2 => by simp [wE, h1, h2], fun e => (by cases e)⟩
 simp [wE] at h
 exact Rch.base h.1 hq h.2
def setB (w : World) (g : Nat) : Nat → Bool := fun q => match w.cell? ⟨g, q, none⟩ with | some (.bool b) => b | _ => false
theorem cnt_setB {w : World} {g n : Nat} {s : Nat → Bool} (h : At w g (boolA n s)) : cnt n (setB w g) = cnt n s :=
 cnt_congr n (fun q hq => by simp [setB, boolA_at h q hq])
def aN (b : Value) : Nat := match b with | .bool true => 1 | _ => 0
end F
end Go.Proofs.YtdlcphinjnnhcaaGreatDoor


namespace Go.Proofs.YtdlcphinjnnhcaaGreatDoor
namespace Bd
open Go.RowKit
open T (Kp)
open F (folB wyF wayN cnt Sw)

def onD (op : Int) : Bool := !(op == 20 || op == 27 || op == 28 || op == 32)
def toD (op m : Int) : Int := if op = 20 ∨ op = 21 ∨ op = 22 ∨ op = 23 ∨ op = 24 then m else -1
def n1D (L : List Ins) (pc : Nat) (on : Bool) : List Int := if on = true ∧ pc + 1 < L.length then [((pc + 1 : Nat) : Int)] else []
def n2D (L : List Ins) (pc : Nat) (on : Bool) (tg : Int) : List Int := if 0 ≤ tg ∧ tg < L.length ∧ (on = false ∨ tg ≠ (pc : Int) + 1) then [tg] else []
def nxD (L : List Ins) (pc : Nat) : List Int := match L[pc]? with
 | none => []
 | some k => if k.op = 26 then (List.range L.length).map (fun q : Nat => (q : Int)) else n1D L pc (onD k.op) ++ n2D L pc (onD k.op) (toD k.op k.m)
theorem mem_nxD {L : List Ins} {p : Nat} (hp : p < L.length) (y : Int) : y ∈ nxD L p ↔ ∃ q : Nat, y = q ∧ folB L p q = true := by
 unfold nxD
 rw [List.getElem?_eq_getElem hp]
 have hf : ∀ q, (folB L p q = true ↔ q < L.length ∧ wyF (wayN L[p].op) L[p].m p q = true) := fun q => by simp [folB, hp]
 dsimp only
 generalize L[p].op = op at *
 generalize L[p].m = im at *
 by_cases h26 : op = 26
 · subst h26
   rw [if_pos rfl]
   constructor
   · intro h
     obtain ⟨q, h1, h2⟩ := List.mem_map.1 h
     exact ⟨q, h2.symm, (hf q).2 ⟨List.mem_range.1 h1, rfl⟩⟩
   · rintro ⟨q, rfl, h⟩
     exact List.mem_map.2 ⟨q, List.mem_range.2 ((hf q).1 h).1, rfl⟩
 · rw [if_neg h26]
   have key : (y ∈ n1D L p (onD op) ++ n2D L p (onD op) (toD op im)) ↔ (onD op = true ∧ p + 1 < L.length ∧ y = ((p + 1 : Nat) : Int)) ∨ (y = toD op im ∧ 0 ≤ y ∧ y < L.length ∧ (onD op = false ∨ y ≠ (p : Int) + 1)) := by
     rw [List.mem_append]
     unfold n1D n2D
     constructor
     · rintro (h | h)
       · split at h
         · rename_i q; exact .inl ⟨q.1, q.2, by simpa using h⟩
         · cases h
       · split at h
         · rename_i q
           rw [List.mem_singleton] at h
           subst h
           exact .inr ⟨rfl, q⟩
         · cases h
     · rintro (⟨h1, h2, h3⟩ | ⟨h1, h2⟩)
       · left; rw [if_pos ⟨h1, h2⟩, h3]; simp
       · right; subst h1; rw [if_pos h2]; simp
   rw [key]
   simp only [hf]
   rcases F.op_cases op with rfl | rfl | rfl | rfl | rfl | rfl | rfl | rfl | rfl | ⟨o1, o2, o3, o4, o5, o6, o7, o8, o9, o0⟩
   · have e1 : onD 20 = false := rfl
     have e2 : toD 20 im = im := rfl
     have e3 : ∀ q : Nat, wyF (wayN 20) im p q = true ↔ (q : Int) = im := fun q => by show decide ((q : Int) = im) = true ↔ _; simp
     rw [e1, e2]
     simp only [e3]
     constructor
     · rintro (⟨h, _⟩ | ⟨h1, h2, h3, _⟩)
       · cases h
       · exact ⟨y.toNat, by omega, by omega, by omega⟩
     · rintro ⟨q, h1, h2, h3⟩
       exact .inr ⟨by omega, by omega, by omega, .inl (by trivial)⟩
   iterate 4
     · have e3 : ∀ q : Nat, wyF 2 im p q = true ↔ (q : Int) = im ∨ q = p + 1 := fun q => by show (decide ((q : Int) = im) || decide (q = p + 1)) = true ↔ _; simp
       constructor
       · rintro (⟨_, h2, h3⟩ | ⟨h1, h2, h3, _⟩)
         · exact ⟨p + 1, h3, h2, (e3 _).2 (.inr rfl)⟩
         · have h1' : y = im := h1
           exact ⟨y.toNat, by omega, by omega, (e3 _).2 (.inl (by omega))⟩
       · rintro ⟨q, h1, h2, h3⟩
         by_cases hq : q = p + 1
         · exact .inl ⟨rfl, by omega, by omega⟩
         · rcases (e3 q).1 h3 with h3 | h3
           · exact .inr ⟨(show y = im by omega), by omega, by omega, .inr (by omega)⟩
           · exact absurd h3 hq
   · exact absurd rfl h26
   iterate 3
     · constructor
       · rintro (⟨h, _⟩ | ⟨h1, h2, _⟩)
         · cases h
         · have h1' : y = -1 := h1
           omega
       · rintro ⟨q, _, _, h3⟩
         exact absurd (show false = true from h3) Bool.false_ne_true
   · have e1 : onD op = true := by unfold onD; rw [o1, o7, o8, o9]; rfl
     have ne : ∀ k : Int, (op == k) = false → op ≠ k := fun k h => by simpa using h
     have e2 : toD op im = -1 := by
       unfold toD
       rw [if_neg (by
         have := ne _ o1; have := ne _ o2; have := ne _ o3; have := ne _ o4; have := ne _ o5
         omega)]
     have e3 : ∀ q : Nat, wyF (wayN op) im p q = true ↔ q = p + 1 := fun q => by rw [o0]; show decide (q = p + 1) = true ↔ _; simp
     rw [e1, e2]
     simp only [e3]
     constructor
     · rintro (⟨_, h2, h3⟩ | ⟨h1, h2, _⟩)
       · exact ⟨p + 1, h3, h2, rfl⟩
       · omega
     · rintro ⟨q, h1, h2, h3⟩
       exact .inl ⟨by trivial, by omega, by omega⟩
theorem sw_nextD {L : List Ins} {E : List Int} {out : Int} {s0 s : Nat → Bool} {a : Bool} {p : Nat} (h : Sw L E out s0 s a p (nxD L p)) (hp : p < L.length) : Sw L E out s0 s a (p + 1) [] := by
 refine ⟨h.mono, h.snd, h.off, h.on, fun e p' q h1 h2 h3 h4 => ?_, fun _ y hy => (by simp at hy)⟩
 by_cases e2 : p' = p
 · subst e2
   have := h.cur e (q : Int) ((mem_nxD hp _).2 ⟨q, rfl, h3⟩) h4
   simpa using this
 · exact h.clo e p' q (by omega) h2 h3 h4
theorem nxD_len (L : List Ins) (p : Nat) : (nxD L p).length ≤ L.length + 2 := by
 unfold nxD n1D n2D
 cases L[p]? with
 | none => simp
 | some k =>
   dsimp only
   split
   · simp
   · rw [List.length_append]
     split <;> split <;> simp <;> omega
structure Ir (K : IntKind) (w : World) (kr n : Nat) (F : Nat → Int) : Prop where
 lt : kr < w.heap.size
 fr : ∀ o, w.frozen? ⟨kr, o, none⟩ = false
 c : ∀ g, g < n → w.cell? ⟨kr, g, none⟩ = some (.int K (F g))
theorem Ir.keep {S : Nat → Prop} {w w' : World} {kr n : Nat} {F : Nat → Int} {K : IntKind} (h : Ir K w kr n F) (hk : Kp S w w') (hn : ¬ S kr) : Ir K w' kr n F := by
 have hb := hk.block kr h.lt hn
 refine ⟨Nat.lt_of_lt_of_le h.lt hk.size, fun o => ?_, fun g hg => ?_⟩
 · rw [← h.fr o]; simp only [World.frozen?, hb]
 · rw [← h.c g hg]; simp only [World.cell?, hb]
theorem Ir.below {w w' : World} {kr n : Nat} {F : Nat → Int} {K : IntKind} (h : Ir K w kr n F) (hk : Below w.heap.size w w') : Ir K w' kr n F := h.keep (Kp.of_below (S := fun _ => False) hk) id
theorem Ir.put {w : World} {kr n : Nat} {F : Nat → Int} {K : IntKind} (h : Ir K w kr n F) {g : Nat} (hg : g < n) (x : Int) : Ir K (w.setCell ⟨kr, g, none⟩ (.int K x)) kr n (fun q => if q = g then x else F q) := by
 have e1 : ∀ g', (w.setCells kr g [Value.int K x]).cell? ⟨kr, g', none⟩ = (w.setCell ⟨kr, g, none⟩ (.int K x)).cell? ⟨kr, g', none⟩ := fun g' => rfl
 refine ⟨Nat.lt_of_lt_of_le h.lt (kp_sets w kr [Value.int K x] g).size, fun o => ?_, fun q hq => ?_⟩
 · have := World.frozen?_setCells (w := w) kr [Value.int K x] g ⟨kr, o, none⟩
   exact this.trans (h.fr o)
 · by_cases e : q = g
   · subst e
     rw [if_pos rfl, ← e1]
     have := World.cell?_setCells_in kr [Value.int K x] q w (fun j hj => by
       have hj0 : j = 0 := by simpa using hj
       subst hj0
       rw [Nat.add_zero, h.c q hq]; rfl) 0 (by simp)
     rw [Nat.add_zero] at this
     rw [this]; rfl
   · rw [if_neg e, ← e1, World.cell?_setCells_out kr _ _ w ⟨kr, q, none⟩ (fun _ _ => by show q < g ∨ g + 1 ≤ q; omega)]
     exact h.c q hq
theorem Ir.of_own {w : World} {lo g cap : Nat} {L : List Int} (h : F.IOwn w lo (.slice (some ⟨g, 0, none⟩) L.length cap) L) : Ir .i64 w g L.length (fun q => L.getD q 0) := by
 have hn := F.own_nin h
 rcases h.2 with h2 | ⟨g', cap', cur, hv, hbg, hg, rest⟩
 · cases h2.1
 · cases hv
   refine ⟨(Array.getElem?_eq_some_iff.1 hg).1, fun o => ?_, fun q hq => ?_⟩
   · simp only [World.frozen?, hg]
     simp
   · obtain ⟨b', off, e, _, _, hc⟩ := hn q hq
     cases e
     rw [Nat.zero_add] at hc
     rw [hc, List.getD_eq_getElem?_getD, List.getElem?_eq_getElem hq]
     rfl
/-! How many calls are in calls. -/
theorem dp_nn (l : List Int) : 0 ≤ dpL l := by
 unfold dpL
 have : ∀ (l : List Int) (a : Int), 0 ≤ a → 0 ≤ l.foldl (fun a d => max a (wrap64 (d + 1))) a := by
   intro l
   induction l with
   | nil => exact fun a h => h
   | cons x l ih => exact fun a h => ih _ (Int.le_trans h (Int.le_max_left _ _))
 exact this l 0 (Int.le_refl _)
structure Mx (P : Nat → Prop) (l : Nat → Int) (d : Int) : Prop where
 nn : 0 ≤ d
 up : ∀ h, P h → l h + 1 ≤ d
 at_ : d = 0 ∨ ∃ h, P h ∧ d = l h + 1
theorem Mx.one {P : Nat → Prop} {l : Nat → Int} {d e : Int} (h : Mx P l d) (g : Mx P l e) : d = e := by
 have h1 : d ≤ e := by
   rcases h.at_ with h0 | ⟨x, hx, e1⟩
   · rw [h0]; exact g.nn
   · rw [e1]; exact g.up x hx
 have h2 : e ≤ d := by
   rcases g.at_ with h0 | ⟨x, hx, e1⟩
   · rw [h0]; exact h.nn
   · rw [e1]; exact h.up x hx
 omega
theorem Mx.congr {P Q : Nat → Prop} {l : Nat → Int} {d : Int} (h : Mx P l d) (e : ∀ x, P x ↔ Q x) : Mx Q l d := by
 refine ⟨h.nn, fun x hx => h.up x ((e x).2 hx), ?_⟩
 rcases h.at_ with h0 | ⟨x, hx, e1⟩
 · exact .inl h0
 · exact .inr ⟨x, (e x).1 hx, e1⟩
theorem Mx.none {P : Nat → Prop} {l : Nat → Int} (h : ∀ x, ¬ P x) : Mx P l 0 := ⟨Int.le_refl _, fun x hx => absurd hx (h x), .inl rfl⟩
theorem Mx.snoc {P Q : Nat → Prop} {l : Nat → Int} {d : Int} {x : Nat} (h : Mx P l d) (e : ∀ y, Q y ↔ P y ∨ y = x) : Mx Q l (max d (l x + 1)) := by
 refine ⟨by have := h.nn; omega, fun y hy => ?_, ?_⟩
 · rcases (e y).1 hy with q | q
   · have := h.up y q; omega
   · subst q; omega
 · by_cases q : d ≤ l x + 1
   · exact .inr ⟨x, (e x).2 (.inr rfl), by omega⟩
   · rcases h.at_ with h0 | ⟨y, hy, e1⟩
     · exact .inl (by omega)
     · exact .inr ⟨y, (e y).2 (.inl hy), by omega⟩
theorem snoc_ind {α : Type} {P : List α → Prop} (h0 : P []) (h1 : ∀ l a, P l → P (l ++ [a])) (l : List α) : P l := by
 rw [← List.reverse_reverse l]
 induction l.reverse with
 | nil => exact h0
 | cons a t ih => rw [List.reverse_cons]; exact h1 _ _ ih
theorem mx_dp {l : Nat → Int} : ∀ (N : List Nat), (∀ c ∈ N, 0 ≤ l c ∧ l c ≤ 1000) → Mx (fun c => c ∈ N) l (dpL (N.map l)) := by
 refine snoc_ind (P := fun N => (∀ c ∈ N, 0 ≤ l c ∧ l c ≤ 1000) → Mx (fun c => c ∈ N) l (dpL (N.map l))) ?_ ?_
 · exact fun _ => Mx.none (fun x h => by cases h)
 · intro N x ih h
   rw [List.map_append, List.map_cons, List.map_nil, dpL_snoc]
   have hx := h x (by simp)
   have e1 : wrap64 (l x + 1) = l x + 1 := by unfold wrap64; omega
   rw [e1]
   exact (ih (fun c hc => h c (by simp [hc]))).snoc (fun y => by simp)
def dnD (c : Nat → Bool) (l : Nat → Int) : Nat → Int
 | 0 => 0
 | h + 1 => if c h = true then (if l h < 0 then -1 else if 0 ≤ dnD c l h ∧ dnD c l h < l h + 1 then l h + 1 else dnD c l h) else dnD c l h
theorem dnD_neg {c : Nat → Bool} {l : Nat → Int} : ∀ n, (∃ h, h < n ∧ c h = true ∧ l h < 0) → dnD c l n = -1
 | 0, h => by obtain ⟨_, h, _⟩ := h; omega
 | n + 1, ⟨h, h1, h2, h3⟩ => by
   unfold dnD
   by_cases e : h = n
   · subst e
     rw [if_pos h2, if_pos h3]
   · have ih := dnD_neg (c := c) (l := l) n ⟨h, by omega, h2, h3⟩
     rw [ih]
     split
     · split
       · rfl
       · rw [if_neg (by omega)]
     · rfl
theorem dnD_mx {c : Nat → Bool} {l : Nat → Int} : ∀ n, (∀ h, h < n → c h = true → 0 ≤ l h) → Mx (fun h => h < n ∧ c h = true) l (dnD c l n)
 | 0, _ => Mx.none (fun x h => by omega)
 | n + 1, hn => by
   have ih := dnD_mx (c := c) (l := l) n (fun h h1 h2 => hn h (by omega) h2)
   have h0 := ih.nn
   unfold dnD
   cases hc : c n with
   | false =>
     rw [if_neg Bool.false_ne_true]
     refine ih.congr (fun x => ⟨fun ⟨a, b⟩ => ⟨by omega, b⟩, fun ⟨a, b⟩ => ⟨?_, b⟩⟩)
     by_cases e : x = n
     · subst e; rw [hc] at b; cases b
     · omega
   | true =>
     have hl := hn n (by omega) hc
     rw [if_pos rfl, if_neg (by omega)]
     have e := ih.snoc (Q := fun h => h < n + 1 ∧ c h = true) (x := n) (fun y => ⟨fun ⟨a, b⟩ => by
       by_cases e : y = n
       · exact .inr e
       · exact .inl ⟨by omega, b⟩, fun h => by
       rcases h with ⟨a, b⟩ | rfl
       · exact ⟨by omega, b⟩
       · exact ⟨by omega, hc⟩⟩)
     split
     · rename_i q
       rw [show max (dnD c l n) (l n + 1) = l n + 1 by omega] at e
       exact e
     · rename_i q
       rw [show max (dnD c l n) (l n + 1) = dnD c l n by omega] at e
       exact e
theorem dnD_lo (c : Nat → Bool) (l : Nat → Int) : ∀ n, -1 ≤ dnD c l n
 | 0 => by unfold dnD; omega
 | n + 1 => by
   have := dnD_lo c l n
   unfold dnD
   split
   · split
     · omega
     · split <;> omega
   · exact this
theorem dnD_hi {c : Nat → Bool} {l : Nat → Int} {b : Int} (hb : 0 ≤ b) : ∀ n, (∀ h, h < n → l h + 1 ≤ b) → dnD c l n ≤ b
 | 0, _ => hb
 | n + 1, h => by
   have := dnD_hi (c := c) hb n (fun x hx => h x (by omega))
   have := h n (by omega)
   unfold dnD
   split
   · split
     · omega
     · split <;> omega
   · omega
theorem evd_le {m : PImg} : ∀ k, k ≤ 1000 → ∀ n v, evF (nxG m) dpF k n = some v → 0 ≤ v ∧ v ≤ (k : Int) - 1
 | 0, _, _, _, h => by cases h
 | k + 1, hk, n, v, h => by
   obtain ⟨vs, h1, h2⟩ := evF_get h
   unfold dpF at h2
   injection h2 with h2
   subst h2
   have hv : ∀ x ∈ vs, 0 ≤ x ∧ x ≤ (k : Int) - 1 := fun x hx => by
     obtain ⟨c, _, hcx⟩ := (map_some h1).2 x hx
     exact evd_le k (by omega) c x hcx
   have : ∀ (l : List Int) (a : Int), (∀ x ∈ l, 0 ≤ x ∧ x ≤ (k : Int) - 1) → 0 ≤ a → a ≤ k → l.foldl (fun a d => max a (wrap64 (d + 1))) a ≤ k := by
     intro l
     induction l with
     | nil => exact fun a _ _ h => h
     | cons x l ih =>
       intro a hl h0 h1
       have hx := hl x (by simp)
       have e1 : wrap64 (x + 1) = x + 1 := by unfold wrap64; omega
       rw [List.foldl_cons, e1]
       exact ih _ (fun y hy => hl y (by simp [hy])) (by omega) (by omega)
   have h3 := this vs 0 hv (Int.le_refl _) (by omega)
   have h4 := dp_nn vs
   unfold dpL at *
   omega
structure Dw (m : PImg) (l0 l : Nat → Int) (a : Bool) (g : Nat) : Prop where
 snd : ∀ q, q < m.gates.length → l q = -1 ∨ ev (nxG m) dpF (List.range m.gates.length) q = some (l q)
 mono : ∀ q, q < m.gates.length → 0 ≤ l0 q → l q = l0 q
 off : a = false → ∀ q, q < m.gates.length → l q = l0 q
 on : a = true → cnt m.gates.length (fun q => decide (0 ≤ l0 q)) + 1 ≤ cnt m.gates.length (fun q => decide (0 ≤ l q))
 clo : a = false → ∀ q, q < g → (∀ c ∈ nxG m q, 0 ≤ l0 c) → 0 ≤ l q
section
variable {m : PImg} {l0 l : Nat → Int} {a : Bool} {g : Nat}
theorem Dw.start (h : ∀ q, q < m.gates.length → l q = -1 ∨ ev (nxG m) dpF (List.range m.gates.length) q = some (l q)) : Dw m l l false 0 :=
 ⟨h, fun _ _ _ => rfl, fun _ _ _ => rfl, fun h => (by cases h), fun _ q hq => (by omega)⟩
theorem Dw.val (h : Dw m l0 l a g) (hgl : m.gates.length ≤ 16) (q : Nat) (hq : q < m.gates.length) : -1 ≤ l q ∧ l q ≤ 15 := by
 rcases h.snd q hq with e | e
 · omega
 · unfold ev at e
   have := evd_le _ (by rw [List.length_range]; omega) q _ e
   rw [List.length_range] at this
   omega
theorem Dw.find (h : Dw m l0 l a g) (hok : BOk m) (hg : g < m.gates.length) {c : Nat → Bool} (hc : ∀ x, x < m.gates.length → (c x = true ↔ x ∈ nxG m g)) : (dnD c l m.gates.length = -1 ∧ ∃ x ∈ nxG m g, l x < 0) ∨ (0 ≤ dnD c l m.gates.length ∧ ev (nxG m) dpF (List.range m.gates.length) g = some (dnD c l m.gates.length)) := by
 have hgl := hok.gl
 have hin : ∀ x ∈ nxG m g, x < m.gates.length := fun x hx => List.mem_range.1 (nxG_in hok g (List.mem_range.2 hg) x hx)
 by_cases hq : ∃ x ∈ nxG m g, l x < 0
 · obtain ⟨x, h1, h2⟩ := hq
   exact .inl ⟨dnD_neg _ ⟨x, hin x h1, (hc x (hin x h1)).2 h1, h2⟩, x, h1, h2⟩
 · have hnn : ∀ x ∈ nxG m g, 0 ≤ l x := fun x hx => by
     by_cases e : l x < 0
     · exact absurd ⟨x, hx, e⟩ hq
     · omega
   have hm := dnD_mx (c := c) (l := l) m.gates.length (fun x h1 h2 => hnn x ((hc x h1).1 h2))
   have hm2 := hm.congr (Q := fun x => x ∈ nxG m g) (fun x => ⟨fun ⟨p, q⟩ => (hc x p).1 q, fun p => ⟨hin x p, (hc x (hin x p)).2 p⟩⟩)
   have hm3 := mx_dp (l := l) (nxG m g) (fun x hx => ⟨hnn x hx, by have := h.val hgl x (hin x hx); omega⟩)
   have e := hm2.one hm3
   refine .inr ⟨hm.nn, ?_⟩
   rw [e]
   refine ev_known (nxG_in hok) (List.mem_range.2 hg) ?_
   rw [List.map_map]
   refine List.map_congr_left fun x hx => ?_
   rcases h.snd x (hin x hx) with e | e
   · have := hnn x hx
     omega
   · exact e
theorem Dw.skip (h : Dw m l0 l a g) (hg : g < m.gates.length) (hs : 0 ≤ l g ∨ ∃ x ∈ nxG m g, x < m.gates.length ∧ l x < 0) : Dw m l0 l a (g + 1) := by
 refine ⟨h.snd, h.mono, h.off, h.on, fun e q hq hc => ?_⟩
 by_cases e2 : q = g
 · subst e2
   rcases hs with hs | ⟨x, h1, h2, h3⟩
   · exact hs
   · have := hc x h1
     rw [h.mono x h2 this] at h3
     omega
 · exact h.clo e q (by omega) hc
theorem Dw.put (h : Dw m l0 l a g) (hg : g < m.gates.length) (hl : l g < 0) {d : Int} (hd : 0 ≤ d) (he : ev (nxG m) dpF (List.range m.gates.length) g = some d) : Dw m l0 (fun q => if q = g then d else l q) true (g + 1) := by
 have hg0 : ¬ 0 ≤ l0 g := fun q => by have := h.mono g hg q; omega
 refine ⟨fun q hq => ?_, fun q hq h1 => ?_, fun e => (by cases e), fun _ => ?_, fun e => (by cases e)⟩
 · split
   · rename_i e; subst e; exact .inr he
   · exact h.snd q hq
 · rw [if_neg (fun e => by subst e; exact hg0 h1)]
   exact h.mono q hq h1
 · have h1 : cnt m.gates.length (fun q => decide (0 ≤ l0 q)) ≤ cnt m.gates.length (fun q => decide (0 ≤ l q)) := F.cnt_mono _ (fun q hq h1 => by
     have h2 : 0 ≤ l0 q := by simpa using h1
     rw [decide_eq_true_eq, h.mono q hq h2]
     exact h2)
   have h2 : cnt m.gates.length (fun q => decide (0 ≤ if q = g then d else l q)) = cnt m.gates.length (fun q => decide (0 ≤ l q)) + 1 := by
     rw [← F.cnt_add m.gates.length g _ hg (by rw [decide_eq_false_iff_not]; omega)]
     refine F.cnt_congr _ (fun q hq => ?_)
     unfold F.adS
     by_cases e : q = g
     · subst e; simp [hd]
     · have : ¬ (q : Int) = g := by omega
       simp [e, this]
   rw [h2]
   omega
end
structure Dq (m : PImg) (l : Nat → Int) (a : Bool) : Prop where
 snd : ∀ q, q < m.gates.length → l q = -1 ∨ ev (nxG m) dpF (List.range m.gates.length) q = some (l q)
 clo : a = false → ∀ q, q < m.gates.length → (∀ c ∈ nxG m q, 0 ≤ l c) → 0 ≤ l q
noncomputable def dpV (m : PImg) (g : Nat) : Int := match ev (nxG m) dpF (List.range m.gates.length) g with | some v => v | none => -1
section
variable {m : PImg} {l0 l : Nat → Int} {a : Bool}
theorem Dq.start (m : PImg) : Dq m (fun _ => -1) true := ⟨fun _ _ => .inl rfl, fun h => (by cases h)⟩
theorem Dw.over (h : Dw m l0 l a m.gates.length) (hok : BOk m) : Dq m l a := by
 refine ⟨h.snd, fun e q hq hc => h.clo e q hq (fun c hc' => ?_)⟩
 have hin := List.mem_range.1 (nxG_in hok q (List.mem_range.2 hq) c hc')
 rw [← h.off e c hin]
 exact hc c hc'
theorem Dq.done (h : Dq m l false) (hok : BOk m) : ∀ q, q < m.gates.length → l q = dpV m q := by
 have key : ∀ k q v, q < m.gates.length → evF (nxG m) dpF k q = some v → 0 ≤ l q := by
   intro k
   induction k with
   | zero => intro q v _ h; cases h
   | succ k ih =>
     intro q v hq hv
     obtain ⟨vs, h1, h2⟩ := evF_get hv
     refine h.clo rfl q hq (fun c hc => ?_)
     obtain ⟨x, _, hx⟩ := (map_some h1).1 c hc
     exact ih c x (List.mem_range.1 (nxG_in hok q (List.mem_range.2 hq) c hc)) hx
 intro q hq
 unfold dpV
 cases e : ev (nxG m) dpF (List.range m.gates.length) q with
 | some v =>
   have h1 := key _ q v hq e
   rcases h.snd q hq with h2 | h2
   · omega
   · rw [e] at h2
     injection h2 with h2
     exact h2.symm
 | none =>
   rcases h.snd q hq with h2 | h2
   · exact h2
   · rw [e] at h2; cases h2
end
end Bd
end Go.Proofs.YtdlcphinjnnhcaaGreatDoor


namespace Go.Proofs.YtdlcphinjnnhcaaGreatDoor
namespace Bd
open Go.RowKit
open T (Kp)

theorem at_past {w w' : World} {k : Nat} {a : Array Value} (h : At w k a) (q : Below w.heap.size w w') : At w' k a := at_keep h (Kp.of_below (S := fun _ => False) q) id
theorem Cr.past {w w' : World} {kr n : Nat} {F : Nat → Option Cst} (h : Cr w kr n F) (q : Below w.heap.size w w') : Cr w' kr n F := h.keep (Kp.of_below (S := fun _ => False) q) id
theorem bl_alloc (w : World) (o : Obj) : Below w.heap.size w (w.alloc o) := (Below.refl _ _).alloc (Nat.le_refl _) _
theorem bl_drew (w : World) : Below w.heap.size w w.drew := (Below.refl _ _).drew
structure Reg (B n : Nat) (L : List Ins) (ka : Option Addr) (kc kt kr : Nat) (W Y : World) : Prop where
 t : At Y kt #[.slice ka L.length kc, .slice (some ⟨kr, 0, none⟩) n n]
 r : Cr Y kr n (fun _ => none)
 l : LIn B Y ka L
 b : Below W.heap.size W Y
 t0 : W.heap.size ≤ kt
 r0 : W.heap.size ≤ kr
 ne : kt ≠ kr
@[reducible] def rwO (n : Nat) : Obj := .cells (madeCells #[Value.bool false, .int .u64 0, .int .u64 0, .int .u64 0] (n * 4)) 36
@[reducible] def taO : Obj := .cells #[.slice none 0 0, .slice none 0 0] 105
@[reducible] def tvO (n : Nat) (L : List Ins) (ka : Option Addr) (kc kr : Nat) : Obj := .cells #[.slice ka L.length kc, .slice (some ⟨kr, 0, none⟩) n n] 105
theorem cr_new (w : World) (n : Nat) : Cr (w.alloc (rwO n)) w.heap.size n (fun _ => none) := Cr.new w n _
theorem cr_next (w : World) (o : Obj) (n : Nat) : Cr ((w.alloc o).alloc (rwO n)) (w.heap.size + 1) n (fun _ => none) := by
 have := cr_new (w.alloc o) n
 have e : (w.alloc o).heap.size = w.heap.size + 1 := by simp
 rwa [e] at this
section
variable {B n : Nat} {L : List Ins} {ka : Option Addr} {kc : Nat} {W w1 : World} (hB : B ≤ w1.heap.size) (q0 : LIn B w1 ka L) (Q1 : Below W.heap.size W w1)
include hB q0 Q1
theorem reg1 : Reg B n L ka kc (w1.heap.size + 1) w1.heap.size W ((w1.alloc (rwO n)).alloc (tvO n L ka kc w1.heap.size)) := by
 have hb : Below w1.heap.size w1 ((w1.alloc (rwO n)).alloc (tvO n L ka kc w1.heap.size)) := (bl_alloc _ _).trans ((bl_alloc _ _).mono (by simp))
 exact ⟨At.next w1 _ _ _, (cr_new w1 n).past (bl_alloc _ _), q0.below (hb.mono hB), Q1.trans (hb.mono Q1.size), by have := Q1.size; omega, Q1.size, by omega⟩
theorem reg2 : Reg B n L ka kc w1.heap.size (w1.heap.size + 1) W ((w1.alloc (tvO n L ka kc (w1.heap.size + 1))).alloc (rwO n)) := by
 have hb : Below w1.heap.size w1 ((w1.alloc (tvO n L ka kc (w1.heap.size + 1))).alloc (rwO n)) := (bl_alloc _ _).trans ((bl_alloc _ _).mono (by simp))
 exact ⟨at_past (At.new w1 _ _) (bl_alloc _ _), cr_next w1 _ n, q0.below (hb.mono hB), Q1.trans (hb.mono Q1.size), Q1.size, by have := Q1.size; omega, by omega⟩
theorem reg3 (hW : W.heap.size < w1.heap.size) (q1 : Below (W.alloc (rwO n)).drew.heap.size (W.alloc (rwO n)).drew w1) : Reg B n L ka kc w1.heap.size W.heap.size W (w1.alloc (tvO n L ka kc W.heap.size)) := by
 exact ⟨At.new w1 _ _, (((cr_new W n).past (bl_drew _)).past q1).past (bl_alloc _ _), q0.below ((bl_alloc _ _).mono hB), Q1.trans ((bl_alloc _ _).mono Q1.size), Q1.size, Nat.le_refl _, by omega⟩
theorem reg4 (hW : B ≤ W.heap.size) (q1 : Below ((W.alloc (rwO n)).alloc taO).drew.heap.size ((W.alloc (rwO n)).alloc taO).drew w1) : Reg B n L ka kc (W.heap.size + 1) W.heap.size W (w1.setCells (W.heap.size + 1) 0 [.slice ka L.length kc, .slice (some ⟨W.heap.size, 0, none⟩) n n]) := by
 have hk := kp_sets w1 (W.heap.size + 1) [.slice ka L.length kc, .slice (some ⟨W.heap.size, 0, none⟩) n n] 0
 have hb := hk.below Q1.size (fun k q => by omega)
 have ha : At w1 (W.heap.size + 1) #[.slice none 0 0, .slice none 0 0] := at_past (at_past (At.next W _ _ _) (bl_drew _)) q1
 exact ⟨At.setAll (cs := [.slice none 0 0, .slice none 0 0]) ha _ rfl, ((((cr_new W n).past (bl_alloc _ _)).past (bl_drew _)).past q1).keep hk (by omega), q0.below (hk.below hB (fun k q => by omega)), Q1.trans hb, by omega, Nat.le_refl _, by omega⟩
theorem reg5 (hW : B ≤ W.heap.size) (q1 : Below (W.alloc taO).drew.heap.size (W.alloc taO).drew w1) : Reg B n L ka kc W.heap.size w1.heap.size W ((w1.setCells W.heap.size 0 [.slice ka L.length kc, .slice (some ⟨w1.heap.size, 0, none⟩) n n]).alloc (rwO n)) := by
 have hk := kp_sets w1 W.heap.size [.slice ka L.length kc, .slice (some ⟨w1.heap.size, 0, none⟩) n n] 0
 have hb := hk.below Q1.size (fun k q => by omega)
 have ha : At w1 W.heap.size #[.slice none 0 0, .slice none 0 0] := at_past (at_past (At.new W _ _) (bl_drew _)) q1
 have hs : (w1.setCells W.heap.size 0 [.slice ka L.length kc, .slice (some ⟨w1.heap.size, 0, none⟩) n n]).heap.size = w1.heap.size := setCells_size _ _ _ _
 have hr := cr_new (w1.setCells W.heap.size 0 [.slice ka L.length kc, .slice (some ⟨w1.heap.size, 0, none⟩) n n]) n
 rw [hs] at hr
 have hlt := ha.1
 exact ⟨at_past (At.setAll (cs := [.slice none 0 0, .slice none 0 0]) ha _ rfl) (bl_alloc _ _), hr, (q0.below (hk.below hB (fun k q => by omega))).below ((bl_alloc _ _).mono (by rw [hs]; exact hB)), (Q1.trans hb).trans ((bl_alloc _ _).mono (by rw [hs]; exact Q1.size)), Nat.le_refl _, Q1.size, by omega⟩
theorem reg6 (hW : B ≤ W.heap.size) (q1 : Below ((W.alloc taO).alloc (rwO n)).drew.heap.size ((W.alloc taO).alloc (rwO n)).drew w1) : Reg B n L ka kc W.heap.size (W.heap.size + 1) W (w1.setCells W.heap.size 0 [.slice ka L.length kc, .slice (some ⟨W.heap.size + 1, 0, none⟩) n n]) := by
 have hk := kp_sets w1 W.heap.size [.slice ka L.length kc, .slice (some ⟨W.heap.size + 1, 0, none⟩) n n] 0
 have hb := hk.below Q1.size (fun k q => by omega)
 have ha : At w1 W.heap.size #[.slice none 0 0, .slice none 0 0] := at_past (at_past (at_past (At.new W _ _) (bl_alloc _ _)) (bl_drew _)) q1
 exact ⟨At.setAll (cs := [.slice none 0 0, .slice none 0 0]) ha _ rfl, (((cr_next W _ n).past (bl_drew _)).past q1).keep hk (by omega), q0.below (hk.below hB (fun k q => by omega)), Q1.trans hb, Nat.le_refl _, by omega, by omega⟩
end
end Bd
end Go.Proofs.YtdlcphinjnnhcaaGreatDoor


namespace Go.Proofs.YtdlcphinjnnhcaaGreatDoor
set_option maxRecDepth 100000
set_option maxHeartbeats 40000000
namespace Bd
open Go.RowKit
open F (IOwn own_slice)

theorem own_nilD (w : World) (lo : Nat) : IOwn w lo (.slice none 0 0) [] := ⟨rfl, .inl ⟨rfl, rfl⟩⟩
theorem rng_snoc (i : Nat) : (List.range (i + 1)).map (fun q : Nat => (q : Int)) = (List.range i).map (fun q : Nat => (q : Int)) ++ [(i : Int)] := by rw [List.range_succ, List.map_append]; rfl
theorem nextD_any (L : List Ins) (ca : Option Addr) (cc : Nat) (p : Nat) (w : World) (hL : LIn w.heap.size w ca L) (hp : p < L.length) (hn : L.length < 2000000) :
   Calls Tryz.prog 61 #[.slice ca L.length cc, .int .i64 p] w fun e w' => ∃ v, e = .returned v ∧ IOwn w' w.heap.size v (nxD L p) ∧ Below w.heap.size w w' := by
 obtain ⟨b, off, rfl, hb0, hb, five⟩ := hL p hp
 obtain ⟨c0, c1, c2, c3, c4⟩ := five
 have hp1 : (p : Int) < L.length := by omega
 have p1w : wrap64 ((p : Int) + 1) = (p : Int) + 1 := by unfold wrap64; omega
 have p1x : IntKind.i64.wrap ((p : Int) + 1) = (p : Int) + 1 := by rw [IntKind.wrap_i64]; omega
 have eN : nxD L p = if L[p].op = 26 then (List.range L.length).map (fun q : Nat => (q : Int)) else n1D L p (onD L[p].op) ++ n2D L p (onD L[p].op) (toD L[p].op L[p].m) := by
   unfold nxD
   rw [List.getElem?_eq_getElem hp]
 rw [eN]
 clear eN
 generalize L[p].op = op at *
 generalize L[p].a = i1 at *
 generalize L[p].b = i2 at *
 generalize L[p].c = i3 at *
 generalize L[p].m = im at *
 by_cases h26 : op = 26
 · subst h26
   rw [if_pos rfl]
   replace hL := Hz.mk hL
   go_enter Tryz.func61, Tryz.ntmps61
   go_upto_region 20 with fail
   refine wp_world (fun W => Below w.heap.size w W) (by (repeat (first | assumption | with_reducible exact Below.refl _ _ | with_reducible refine Below.alloc ?_ (by simp <;> omega) _ | with_reducible refine Below.setCell ?_ (by simp <;> omega) _ | with_reducible refine Below.drew ?_))) ?_
   intro W hB
   replace hB := Hz.mk hB
   go_loopw [6, 9] (fun v x wr => ∃ i : Nat, x = .int .i64 i ∧ i ≤ L.length ∧ Hz (IOwn wr w.heap.size v ((List.range i).map (fun q : Nat => (q : Int))) ∧ Below w.heap.size w wr)) (fun _ x _ => L.length - (intOf x).toNat)
   case atStart => exact ⟨0, rfl, by omega, Hz.mk ⟨own_nilD _ _, hB.out⟩⟩
   case round =>
     clear hB
     obtain ⟨i, rfl, hi, ⟨h1, h2⟩⟩ := hrel
     by_cases hlt : i < L.length
     · have hi1 : (i : Int) < L.length := by omega
       have hs := rng_snoc i
       have hl : ((List.range i).map (fun q : Nat => (q : Int))).length = i := by simp
       obtain ⟨va, vc, rfl⟩ := own_slice h1
       rw [hl] at h1 ⊢
       generalize (List.range i).map (fun q : Nat => (q : Int)) = l at *
       have hsz := h2.size
       have hrow := fun W (q : Below wr.heap.size wr W) => (show IOwn W w.heap.size (.slice va i vc) l from own_below h1 q)
       have hlk := fun k r => (World.ownsRow.lt h1 k r).1
       replace hrow := Hz.mk hrow
       replace h1 := Hz.mk h1
       replace h2 := Hz.mk h2
       replace hs := Hz.mk hs
       replace hlk := Hz.mk hlk
       go_wp2_with (first | (at_builtin; refine F.wpList_append_int rfl (.tmp 39) (.tmp 41) rfl w.heap.size (.slice va i vc) l (i : Int) rfl (hrow.out _ (bl_alloc _ _)) wr.heap.size rfl (At.new _ _ _) (by omega) (by simp; omega) ?_))
       intro g cap w2 g1 g2 g3 g4
       have hnw : Hz (IOwn w2 w.heap.size (.slice (some ⟨g, 0, none⟩) (i + 1) cap) ((List.range (i + 1)).map (fun q : Nat => (q : Int))) ∧ Below w.heap.size w w2) := Hz.mk ⟨by rw [hs.out]; exact g1, (h2.out.trans ((bl_alloc _ _).mono hsz)).trans (Below.of_grown g2 (by simp; omega) (fun k r => hlk.out k r))⟩
       replace g1 := Hz.mk g1
       replace g2 := Hz.mk g2
       go_wp2_with fail
       go_roundw
       all_goals first | exact ⟨i + 1, by simp, by omega, hnw⟩ | (simp only [intOf]; omega)
     · have hi1 : ¬ (i : Int) < L.length := by omega
       have ei : i = L.length := by omega
       subst ei
       replace h1 := Hz.mk h1
       replace h2 := Hz.mk h2
       go_wp2_with fail
       go_ret
       exact ⟨_, rfl, h1.out, h2.out⟩
 · rw [if_neg h26]
   have e26 : (op == 26) = false := by simpa using h26
   replace hL := Hz.mk hL
   go_enter Tryz.func61, Tryz.ntmps61
   go_upto_region 5 with fail
   refine wp_world (fun W => At W w.heap.size #[.int .u8 op, .int .i64 i1, .int .i64 i2, .int .i64 i3, .int .i64 im] ∧ Below w.heap.size w W) ⟨by first | exact At.new w _ _ | simpa using At.new w #[.int .u8 op, .int .i64 i1, .int .i64 i2, .int .i64 i3, .int .i64 im] _ | (simp; exact At.new w _ _), by (repeat (first | assumption | with_reducible exact Below.refl _ _ | with_reducible refine Below.alloc ?_ (by simp <;> omega) _ | with_reducible refine Below.setCell ?_ (by simp <;> omega) _ | with_reducible refine Below.drew ?_))⟩ ?_
   rintro W ⟨A0, hB⟩
   have a0 : W.cell? ⟨w.heap.size, 0, none⟩ = some (.int .u8 op) := A0.2.1 0
   have a4 : W.cell? ⟨w.heap.size, 4, none⟩ = some (.int .i64 im) := A0.2.1 4
   replace A0 := Hz.mk A0
   have hsB := hB.size
   replace hB := Hz.mk hB
   go_upto_block 0 with fail
   go_cut [6, 7, 8] (fun lv on tg wx => (lv = .slice none 0 0 ∧ on = .bool (onD op) ∧ tg = .int .i64 (toD op im)) ∧ W = wx)
   case first =>
     rcases F.op_cases op with rfl | rfl | rfl | rfl | rfl | rfl | rfl | rfl | rfl | ⟨o1, o2, o3, o4, o5, o6, o7, o8, o9, o0⟩
     · go_wp2_with fail
       go_meet
       exact ⟨⟨rfl, rfl, rfl⟩, rfl⟩
     · go_wp2_with fail
       go_meet
       exact ⟨⟨rfl, rfl, rfl⟩, rfl⟩
     · go_wp2_with fail
       go_meet
       exact ⟨⟨rfl, rfl, rfl⟩, rfl⟩
     · go_wp2_with fail
       go_meet
       exact ⟨⟨rfl, rfl, rfl⟩, rfl⟩
     · go_wp2_with fail
       go_meet
       exact ⟨⟨rfl, rfl, rfl⟩, rfl⟩
     · exact absurd rfl h26
     · go_wp2_with fail
       go_meet
       exact ⟨⟨rfl, rfl, rfl⟩, rfl⟩
     · go_wp2_with fail
       go_meet
       exact ⟨⟨rfl, rfl, rfl⟩, rfl⟩
     · go_wp2_with fail
       go_meet
       exact ⟨⟨rfl, rfl, rfl⟩, rfl⟩
     · have ht : toD op im = -1 := by
         unfold toD
         have ne : ∀ k : Int, (op == k) = false → op ≠ k := fun k h => by simpa using h
         have := ne _ o1; have := ne _ o2; have := ne _ o3; have := ne _ o4; have := ne _ o5
         rw [if_neg (by omega)]
       have ho : onD op = true := by unfold onD; rw [o1, o7, o8, o9]; rfl
       replace ht := Hz.mk ht
       replace ho := Hz.mk ho
       go_wp2_with fail
       go_meet
       exact ⟨⟨rfl, by rw [ho.out], by rw [ht.out]⟩, rfl⟩
   case rest =>
     obtain ⟨⟨e6, e7, e8⟩, hwx⟩ := hcut
     subst hwx
     subst e6
     subst e7
     subst e8
     generalize hon : onD op = on at *
     generalize htg : toD op im = tg at *
     replace hon := Hz.mk hon
     replace htg := Hz.mk htg
     clear a0 a4 A0
     cases on with
     | false =>
       by_cases t0 : tg < 0
       · have t0' : ¬ 0 ≤ tg := by omega
         replace hB := Hz.mk hB.out
         have e1 : n1D L p false = [] := by unfold n1D; rw [if_neg (by simp; try omega)]
         have e2 : n2D L p false tg = [] := by unfold n2D; rw [if_neg (by simp; try omega)]
         have e3 := Hz.mk (And.intro e1 e2)
         clear e1 e2
         go_wp2_with fail
         go_ret
         exact ⟨_, rfl, by rw [hon.out, htg.out, e3.out.1, e3.out.2]; exact own_nilD _ _, hB.out⟩
       by_cases t1 : tg < L.length
       · have t0' : 0 ≤ tg := by omega
         replace hB := Hz.mk hB.out
         have e1 : n1D L p false = [] := by unfold n1D; rw [if_neg (by simp; try omega)]
         have e2 : n2D L p false tg = [tg] := by unfold n2D; rw [if_pos ⟨by omega, by omega, .inl rfl⟩]
         have e3 := Hz.mk (And.intro e1 e2)
         clear e1 e2
         go_wp2_with (first | (at_builtin; refine F.wpList_append_int rfl (.tmp 75) (.tmp 77) rfl w.heap.size (.slice none 0 0) [] (tg) rfl (own_nilD _ _) W.heap.size rfl (At.new _ _ _) (by simp) (by simp; omega) ?_))
         intro g3 cap3 w3 ha3 hg3 _ _
         have hB3 := Hz.mk ((hB.out.trans ((bl_alloc W _).mono hB.out.size)).trans (Below.of_grown hg3 (by have := hB.out.size; simp; omega) (fun k r => by cases r)))
         replace ha3 := Hz.mk ha3
         clear hg3
         go_wp2_with fail
         go_ret
         exact ⟨_, rfl, by rw [hon.out, htg.out, e3.out.1, e3.out.2]; exact ha3.out, hB3.out⟩
       · have t0' : 0 ≤ tg := by omega
         have t1' : (L.length : Int) ≤ tg := by omega
         replace hB := Hz.mk hB.out
         have e1 : n1D L p false = [] := by unfold n1D; rw [if_neg (by simp; try omega)]
         have e2 : n2D L p false tg = [] := by unfold n2D; rw [if_neg (by simp; try omega)]
         have e3 := Hz.mk (And.intro e1 e2)
         clear e1 e2
         go_wp2_with fail
         go_ret
         exact ⟨_, rfl, by rw [hon.out, htg.out, e3.out.1, e3.out.2]; exact own_nilD _ _, hB.out⟩
     | true =>
       by_cases q1 : (p : Int) + 1 < L.length
       · skip
         by_cases t0 : tg < 0
         · have t0' : ¬ 0 ≤ tg := by omega
           replace hB := Hz.mk hB.out
           have e1 : n1D L p true = [((p : Int) + 1)] := by unfold n1D; rw [if_pos ⟨rfl, by omega⟩]; rfl
           have e2 : n2D L p true tg = [] := by unfold n2D; rw [if_neg (by simp; try omega)]
           have e3 := Hz.mk (And.intro e1 e2)
           clear e1 e2
           go_wp2_with (first | (at_builtin; refine F.wpList_append_int rfl (.tmp 52) (.tmp 55) rfl w.heap.size (.slice none 0 0) [] (((p : Int) + 1)) rfl (own_nilD _ _) W.heap.size rfl (At.new _ _ _) (by simp) (by simp; omega) ?_))
           intro g2 cap2 w2 ha2 hg2 _ _
           have hB2 := Hz.mk ((hB.out.trans ((bl_alloc W _).mono hB.out.size)).trans (Below.of_grown hg2 (by have := hB.out.size; simp; omega) (fun k r => by cases r)))
           have hs2 := hB2.out.size
           replace ha2 := Hz.mk ha2
           clear hg2
           go_wp2_with fail
           go_ret
           exact ⟨_, rfl, by rw [hon.out, htg.out, e3.out.1, e3.out.2]; exact ha2.out, hB2.out⟩
         by_cases t1 : tg < L.length
         · have t0' : 0 ≤ tg := by omega
           by_cases t2 : tg = (p : Int) + 1
           · have t3 : (tg != (p : Int) + 1) = false := by simpa using t2
             replace hB := Hz.mk hB.out
             have e1 : n1D L p true = [((p : Int) + 1)] := by unfold n1D; rw [if_pos ⟨rfl, by omega⟩]; rfl
             have e2 : n2D L p true tg = [] := by unfold n2D; rw [if_neg (by simp; try omega)]
             have e3 := Hz.mk (And.intro e1 e2)
             clear e1 e2
             go_wp2_with (first | (at_builtin; refine F.wpList_append_int rfl (.tmp 52) (.tmp 55) rfl w.heap.size (.slice none 0 0) [] (((p : Int) + 1)) rfl (own_nilD _ _) W.heap.size rfl (At.new _ _ _) (by simp) (by simp; omega) ?_))
             intro g2 cap2 w2 ha2 hg2 _ _
             have hB2 := Hz.mk ((hB.out.trans ((bl_alloc W _).mono hB.out.size)).trans (Below.of_grown hg2 (by have := hB.out.size; simp; omega) (fun k r => by cases r)))
             have hs2 := hB2.out.size
             replace ha2 := Hz.mk ha2
             clear hg2
             go_wp2_with fail
             go_ret
             exact ⟨_, rfl, by rw [hon.out, htg.out, e3.out.1, e3.out.2]; exact ha2.out, hB2.out⟩
           · have t3 : (tg != (p : Int) + 1) = true := by simpa using t2
             replace hB := Hz.mk hB.out
             have e1 : n1D L p true = [((p : Int) + 1)] := by unfold n1D; rw [if_pos ⟨rfl, by omega⟩]; rfl
             have e2 : n2D L p true tg = [tg] := by unfold n2D; rw [if_pos ⟨by omega, by omega, .inr (by omega)⟩]
             have e3 := Hz.mk (And.intro e1 e2)
             clear e1 e2
             go_wp2_with (first | (at_builtin; refine F.wpList_append_int rfl (.tmp 52) (.tmp 55) rfl w.heap.size (.slice none 0 0) [] (((p : Int) + 1)) rfl (own_nilD _ _) W.heap.size rfl (At.new _ _ _) (by simp) (by simp; omega) ?_))
             intro g2 cap2 w2 ha2 hg2 _ _
             have hB2 := Hz.mk ((hB.out.trans ((bl_alloc W _).mono hB.out.size)).trans (Below.of_grown hg2 (by have := hB.out.size; simp; omega) (fun k r => by cases r)))
             have hs2 := hB2.out.size
             replace ha2 := Hz.mk ha2
             clear hg2
             have hlk := fun k r => (World.ownsRow.lt ha2.out k r).1
             replace hlk := Hz.mk hlk
             go_wp2_with (first | (at_builtin; refine F.wpList_append_int rfl (.tmp 75) (.tmp 77) rfl w.heap.size (.slice (some ⟨g2, 0, none⟩) 1 cap2) [((p : Int) + 1)] (tg) rfl (own_below ha2.out (bl_alloc _ _)) w2.heap.size rfl (At.new _ _ _) (by simp) (by simp; omega) ?_))
             intro g3 cap3 w3 ha3 hg3 _ _
             have hB3 := Hz.mk ((hB2.out.trans ((bl_alloc w2 _).mono hB2.out.size)).trans (Below.of_grown hg3 (by simp; omega) (fun k r => hlk.out k r)))
             replace ha3 := Hz.mk ha3
             clear hg3
             go_wp2_with fail
             go_ret
             exact ⟨_, rfl, by rw [hon.out, htg.out, e3.out.1, e3.out.2]; exact ha3.out, hB3.out⟩
         · have t0' : 0 ≤ tg := by omega
           have t1' : (L.length : Int) ≤ tg := by omega
           replace hB := Hz.mk hB.out
           have e1 : n1D L p true = [((p : Int) + 1)] := by unfold n1D; rw [if_pos ⟨rfl, by omega⟩]; rfl
           have e2 : n2D L p true tg = [] := by unfold n2D; rw [if_neg (by simp; try omega)]
           have e3 := Hz.mk (And.intro e1 e2)
           clear e1 e2
           go_wp2_with (first | (at_builtin; refine F.wpList_append_int rfl (.tmp 52) (.tmp 55) rfl w.heap.size (.slice none 0 0) [] (((p : Int) + 1)) rfl (own_nilD _ _) W.heap.size rfl (At.new _ _ _) (by simp) (by simp; omega) ?_))
           intro g2 cap2 w2 ha2 hg2 _ _
           have hB2 := Hz.mk ((hB.out.trans ((bl_alloc W _).mono hB.out.size)).trans (Below.of_grown hg2 (by have := hB.out.size; simp; omega) (fun k r => by cases r)))
           have hs2 := hB2.out.size
           replace ha2 := Hz.mk ha2
           clear hg2
           go_wp2_with fail
           go_ret
           exact ⟨_, rfl, by rw [hon.out, htg.out, e3.out.1, e3.out.2]; exact ha2.out, hB2.out⟩
       · have q2 : (L.length : Int) ≤ (p : Int) + 1 := by omega
         by_cases t0 : tg < 0
         · have t0' : ¬ 0 ≤ tg := by omega
           replace hB := Hz.mk hB.out
           have e1 : n1D L p true = [] := by unfold n1D; rw [if_neg (by simp; try omega)]
           have e2 : n2D L p true tg = [] := by unfold n2D; rw [if_neg (by simp; try omega)]
           have e3 := Hz.mk (And.intro e1 e2)
           clear e1 e2
           go_wp2_with fail
           go_ret
           exact ⟨_, rfl, by rw [hon.out, htg.out, e3.out.1, e3.out.2]; exact own_nilD _ _, hB.out⟩
         by_cases t1 : tg < L.length
         · have t0' : 0 ≤ tg := by omega
           by_cases t2 : tg = (p : Int) + 1
           · have t3 : (tg != (p : Int) + 1) = false := by simpa using t2
             exact absurd t1 (by omega)
           · have t3 : (tg != (p : Int) + 1) = true := by simpa using t2
             replace hB := Hz.mk hB.out
             have e1 : n1D L p true = [] := by unfold n1D; rw [if_neg (by simp; try omega)]
             have e2 : n2D L p true tg = [tg] := by unfold n2D; rw [if_pos ⟨by omega, by omega, .inr (by omega)⟩]
             have e3 := Hz.mk (And.intro e1 e2)
             clear e1 e2
             go_wp2_with (first | (at_builtin; refine F.wpList_append_int rfl (.tmp 75) (.tmp 77) rfl w.heap.size (.slice none 0 0) [] (tg) rfl (own_nilD _ _) W.heap.size rfl (At.new _ _ _) (by simp) (by simp; omega) ?_))
             intro g3 cap3 w3 ha3 hg3 _ _
             have hB3 := Hz.mk ((hB.out.trans ((bl_alloc W _).mono hB.out.size)).trans (Below.of_grown hg3 (by have := hB.out.size; simp; omega) (fun k r => by cases r)))
             replace ha3 := Hz.mk ha3
             clear hg3
             go_wp2_with fail
             go_ret
             exact ⟨_, rfl, by rw [hon.out, htg.out, e3.out.1, e3.out.2]; exact ha3.out, hB3.out⟩
         · have t0' : 0 ≤ tg := by omega
           have t1' : (L.length : Int) ≤ tg := by omega
           replace hB := Hz.mk hB.out
           have e1 : n1D L p true = [] := by unfold n1D; rw [if_neg (by simp; try omega)]
           have e2 : n2D L p true tg = [] := by unfold n2D; rw [if_neg (by simp; try omega)]
           have e3 := Hz.mk (And.intro e1 e2)
           clear e1 e2
           go_wp2_with fail
           go_ret
           exact ⟨_, rfl, by rw [hon.out, htg.out, e3.out.1, e3.out.2]; exact own_nilD _ _, hB.out⟩
end Bd
end Go.Proofs.YtdlcphinjnnhcaaGreatDoor
