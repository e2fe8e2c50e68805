/-
  Stage 9, regtype: values, types, and what is handed in. No Go in sight.
-/
import Derived.Test.YtbbpbfbifgfjdaaRMath
import Derived.Test.YtbbpbfbifgfjdaaSMath
namespace Go.Proofs.Ytbbpbfbifgfjdaa
namespace R
open Go.RowKit

/-- A capability; a value; a type. -/
structure Kc where
  b : Int
  e : Int
  c : Int
  pm : Nat
  s : Int
structure Vv where
  tag : Bool
  n : Int
  c : Kc
structure Tt where
  cap : Bool
  b : Int
  e : Int
  lo : Int
  hi : Int
  pm : Nat
  s : Int
def RV.has : RV → Vv → Bool
  | .any, _ => true
  | .int n, v => !v.tag && n.has v.n
  | .cap b e p mu ma s, v => v.tag && b.has v.c.b && e.has v.c.e && p.has v.c.c && amg mu v.c.pm && amg v.c.pm ma && (decide (s < 0) || s == v.c.s)
theorem RV.has_und {a b : RV} {v : Vv} (h : a.und b = true) (hv : a.has v = true) : b.has v = true := by
  cases b with
  | any => rfl
  | int m =>
    cases a with
    | any => cases h
    | cap => cases h
    | int n =>
      simp only [RV.has, Bool.and_eq_true] at *
      exact ⟨hv.1, Sp.has_und h hv.2⟩
  | cap b2 e2 p2 mu2 ma2 s2 =>
    cases a with
    | any => cases h
    | int => cases h
    | cap b1 e1 p1 mu1 ma1 s1 =>
      simp only [RV.und, RV.has, Bool.and_eq_true, Bool.or_eq_true, decide_eq_true_eq, beq_iff_eq] at *
      obtain ⟨⟨⟨⟨⟨a1, a2⟩, a3⟩, a4⟩, a5⟩, a6⟩ := h
      obtain ⟨⟨⟨⟨⟨⟨b0, b1⟩, b2⟩, b3⟩, b4⟩, b5⟩, b6⟩ := hv
      exact ⟨⟨⟨⟨⟨⟨b0, Sp.has_und a1 b1⟩, Sp.has_und a2 b2⟩, Sp.has_und a3 b3⟩, amg_trans a4 b4⟩, amg_trans b5 a5⟩, by omega⟩
theorem RV.has_jn {a b : RV} {v : Vv} (ha : a.ok) (hb : b.ok) (h : a.has v = true ∨ b.has v = true) : (a.jn b).has v = true :=
  h.elim (RV.has_und (RV.und_jn ha hb).1) (RV.has_und (RV.und_jn ha hb).2)
theorem RV.has_wd {a b : RV} {v : Vv} (ha : a.ok) (hb : b.ok) (h : a.has v = true ∨ b.has v = true) : (a.wd b).has v = true :=
  h.elim (RV.has_und (RV.und_wd ha hb).1) (RV.has_und (RV.und_wd ha hb).2)
def on (n : Int) : Sp := ⟨n, n⟩
def RV.sure : RV → Tt → Bool
  | .any, _ => false
  | .int _, t => !t.cap
  | .cap b e p mu ma s, t => t.cap && decide (b.lo = t.b ∧ b.hi = t.b) && decide (e.lo = t.e ∧ e.hi = t.e) && decide (t.lo ≤ p.lo ∧ p.hi ≤ t.hi) && mu == t.pm && ma == t.pm && decide (s = t.s ∧ 0 ≤ t.s)
theorem RV.sure_und {r s : RV} {t : Tt} (hs : s.ok) (h : s.und r = true) (hr : r.sure t = true) : s.sure t = true := by
  cases r with
  | any => cases hr
  | int m =>
    cases s with
    | any => cases h
    | cap => cases h
    | int n => exact hr
  | cap b2 e2 p2 mu2 ma2 s2 =>
    cases s with
    | any => cases h
    | int => cases h
    | cap b1 e1 p1 mu1 ma1 s1 =>
      simp only [RV.und, RV.ok, RV.sure, Sp.ok, Sp.und_iff, Bool.and_eq_true, Bool.or_eq_true, decide_eq_true_eq, beq_iff_eq] at *
      obtain ⟨⟨⟨⟨⟨a1, a2⟩, a3⟩, a4⟩, a5⟩, a6⟩ := h
      obtain ⟨⟨⟨⟨⟨⟨q0, q1⟩, q2⟩, q3⟩, q4⟩, q5⟩, q6⟩ := hr
      obtain ⟨o1, o2, o3, o4, _, _, _⟩ := hs
      subst q4
      subst q5
      have e1 : mu1 = t.pm := amg_anti (amg_trans o4 a5) a4
      have e2 : ma1 = t.pm := amg_anti a5 (amg_trans a4 o4)
      exact ⟨⟨⟨⟨⟨⟨q0, by omega⟩, by omega⟩, by omega⟩, e1⟩, e2⟩, by omega⟩
/-- Made of parts; Any, if it is not rightly built. -/
def mkInt (n : Sp) : RV := if n.lo ≤ n.hi then .int n else .any
def mkCap (b e p : Sp) (mu ma : Nat) (s : Int) : RV := if b.lo ≤ b.hi ∧ e.lo ≤ e.hi ∧ p.lo ≤ p.hi ∧ amg mu ma = true ∧ amg ma 127 = true ∧ -1 ≤ s ∧ s ≤ 15 then .cap b e p mu ma s else .any
def kn (s : Int) : Int := if s < 0 then -2 else s
def exK (c : Kc) : RV := mkCap (on c.b) (on c.e) (on c.c) c.pm c.pm (kn c.s)
def ofT (t : Tt) : RV := if t.cap then mkCap (on t.b) (on t.e) ⟨t.lo, t.hi⟩ t.pm t.pm (kn t.s) else .int ⟨0, 18446744073709551615⟩
theorem kn_cases (s : Int) : (s < 0 ∧ kn s = -2) ∨ (0 ≤ s ∧ kn s = s) := by
  unfold kn
  split
  · exact .inl ⟨by assumption, rfl⟩
  · exact .inr ⟨by omega, rfl⟩
theorem mk_kn {b e p : Sp} {pm : Nat} {s : Int} (hb : b.lo ≤ b.hi) (he : e.lo ≤ e.hi) : mkCap b e p pm pm (kn s) = if p.lo ≤ p.hi ∧ pm < 128 ∧ 0 ≤ s ∧ s ≤ 15 then .cap b e p pm pm s else .any := by
  unfold mkCap
  have hk := kn_cases s
  by_cases h : p.lo ≤ p.hi ∧ pm < 128 ∧ 0 ≤ s ∧ s ≤ 15
  · have e : kn s = s := by omega
    rw [e, if_pos h, if_pos ⟨hb, he, h.1, amg_refl _, amg_of_lt h.2.1, by omega, h.2.2.2⟩]
  · rw [if_neg h, if_neg]
    rintro ⟨_, _, h0, _, h1, h2, h3⟩
    have := amg_lt h1
    omega
theorem exK_eq (c : Kc) : exK c = if c.pm < 128 ∧ 0 ≤ c.s ∧ c.s ≤ 15 then .cap (on c.b) (on c.e) (on c.c) c.pm c.pm c.s else .any := by
  unfold exK
  rw [mk_kn (Int.le_refl _) (Int.le_refl _)]
  simp [on]
theorem ofT_eq (t : Tt) : ofT t = if t.cap then (if t.lo ≤ t.hi ∧ t.pm < 128 ∧ 0 ≤ t.s ∧ t.s ≤ 15 then .cap (on t.b) (on t.e) ⟨t.lo, t.hi⟩ t.pm t.pm t.s else .any) else .int ⟨0, 18446744073709551615⟩ := by
  unfold ofT
  rw [mk_kn (Int.le_refl _) (Int.le_refl _)]
theorem sure_of (t : Tt) : (ofT t).sure t = true ∨ (ofT t = .any ∧ t.cap = true) := by
  rw [ofT_eq]
  cases hc : t.cap
  · left; simp [RV.sure, hc]
  · by_cases h : t.lo ≤ t.hi ∧ t.pm < 128 ∧ 0 ≤ t.s ∧ t.s ≤ 15
    · left
      rw [if_pos rfl, if_pos h]
      simp only [RV.sure, hc, on]
      simp
      omega
    · right
      rw [if_pos rfl, if_neg h]
      exact ⟨rfl, rfl⟩
theorem has_exact {c : Kc} (h : exK c ≠ .any) (v : Vv) : (exK c).has v = true ↔ v.tag = true ∧ v.c = c := by
  rw [exK_eq] at *
  by_cases hh : c.pm < 128 ∧ 0 ≤ c.s ∧ c.s ≤ 15
  · rw [if_pos hh]
    simp only [RV.has, on, Sp.has_iff, Bool.and_eq_true, Bool.or_eq_true, decide_eq_true_eq, beq_iff_eq]
    constructor
    · rintro ⟨⟨⟨⟨⟨⟨h1, h2⟩, h3⟩, h4⟩, h5⟩, h6⟩, h7⟩
      refine ⟨h1, ?_⟩
      have e := amg_anti h6 h5
      obtain ⟨tag, n, ⟨b, e, cc, pm, s⟩⟩ := v
      obtain ⟨b', e', c', pm', s'⟩ := c
      simp only [Kc.mk.injEq] at *
      omega
    · rintro ⟨h1, h2⟩
      rw [h2]
      exact ⟨⟨⟨⟨⟨⟨h1, by omega⟩, by omega⟩, by omega⟩, amg_refl _⟩, amg_refl _⟩, .inr rfl⟩
  · rw [if_neg hh] at h
    exact absurd rfl h
/-- What is handed in. -/
structure RT where
  k : Int
  n : Sp
  b : Sp
  e : Sp
  p : Sp
  mu : Nat
  ma : Nat
  s : Int
def Sp.u64 (s : Sp) : Prop := 0 ≤ s.lo ∧ s.lo ≤ 18446744073709551615 ∧ 0 ≤ s.hi ∧ s.hi ≤ 18446744073709551615
/-- In reach of the machine's numbers. -/
def RT.Rng (r : RT) : Prop := r.n.u64 ∧ r.b.u64 ∧ r.e.u64 ∧ r.p.u64 ∧ r.mu < 256 ∧ r.ma < 256
def Sp.no : Sp := ⟨0, 0⟩
def RT.capAll (r : RT) : Prop := r.b = Sp.no ∧ r.e = Sp.no ∧ r.p = Sp.no ∧ r.mu = 0 ∧ r.ma = 0 ∧ r.s = 0
open Classical in
/-- Rightly built, or Any. -/
noncomputable def RT.nm (r : RT) : RV :=
  if r.k = 1 ∧ r.capAll then mkInt r.n else if r.k = 2 ∧ r.n = Sp.no then mkCap r.b r.e r.p r.mu r.ma r.s else .any
def RV.rt : RV → RT
  | .any => ⟨0, Sp.no, Sp.no, Sp.no, Sp.no, 0, 0, 0⟩
  | .int n => ⟨1, n, Sp.no, Sp.no, Sp.no, 0, 0, 0⟩
  | .cap b e p mu ma s => ⟨2, Sp.no, b, e, p, mu, ma, s⟩
theorem RV.rt_inj {a b : RV} (h : a.rt = b.rt) : a = b := by
  cases a <;> cases b <;> simp [RV.rt] at h
  · rfl
  · rw [h]
  · obtain ⟨rfl, rfl, rfl, rfl, rfl, rfl⟩ := h
    rfl
theorem mkInt_ok {n : Sp} (h : n.u64) : (mkInt n).ok := by
  unfold mkInt
  split
  · unfold Sp.u64 at h; exact ⟨h.1, by assumption, h.2.2.2⟩
  · trivial
theorem mkCap_ok {b e p : Sp} {mu ma : Nat} {s : Int} (h1 : b.u64) (h2 : e.u64) (h3 : p.u64) : (mkCap b e p mu ma s).ok := by
  unfold mkCap
  split
  · rename_i h
    unfold Sp.u64 at *
    exact ⟨⟨h1.1, h.1, h1.2.2.2⟩, ⟨h2.1, h.2.1, h2.2.2.2⟩, ⟨h3.1, h.2.2.1, h3.2.2.2⟩, h.2.2.2⟩
  · trivial
theorem RT.nm_ok {r : RT} (h : r.Rng) : r.nm.ok := by
  unfold RT.nm
  split
  · exact mkInt_ok h.1
  · split
    · exact mkCap_ok h.2.1 h.2.2.1 h.2.2.2.1
    · trivial
theorem Sp.ok_u64 {s : Sp} (h : s.ok) : s.u64 := by unfold Sp.ok Sp.u64 at *; omega
theorem RV.rt_rng {a : RV} (h : a.ok) : a.rt.Rng := by
  have z : Sp.no.u64 := by unfold Sp.no Sp.u64; decide
  cases a with
  | any => exact ⟨z, z, z, z, by decide, by decide⟩
  | int n => exact ⟨Sp.ok_u64 h, z, z, z, by simp [RV.rt], by simp [RV.rt]⟩
  | cap b e p mu ma s =>
    have h1 := amg_lt h.2.2.2.2.1
    have h2 := amg_lt (amg_trans h.2.2.2.1 h.2.2.2.2.1)
    exact ⟨z, Sp.ok_u64 h.1, Sp.ok_u64 h.2.1, Sp.ok_u64 h.2.2.1, by simp only [RV.rt]; omega, by simp only [RV.rt]; omega⟩
theorem RV.nm_rt {a : RV} (h : a.ok) : a.rt.nm = a := by
  cases a with
  | any => simp [RV.rt, RT.nm]
  | int n =>
    unfold RT.nm
    rw [if_pos ⟨rfl, rfl, rfl, rfl, rfl, rfl, rfl⟩]
    exact if_pos h.2.1
  | cap b e p mu ma s =>
    unfold RT.nm
    rw [if_neg (fun q => by have := q.1; simp [RV.rt] at this), if_pos ⟨rfl, rfl⟩]
    obtain ⟨h1, h2, h3, h4, h5, h6, h7⟩ := h
    exact if_pos ⟨h1.2.1, h2.2.1, h3.2.1, h4, h5, h6, h7⟩
/-- As chapter 2 tells them. -/
theorem jn_told {a b : Sp} (h1 : a.ok) (h2 : b.ok) : jLo a.lo a.hi b.lo b.hi = (a.jn b).lo ∧ jHi a.lo a.hi b.lo b.hi = (a.jn b).hi := by
  unfold Sp.ok at *
  rw [Sp.jn_lo, Sp.jn_hi]
  unfold jLo jHi tLo tHi joinLo joinHi
  constructor <;> (repeat' split) <;> omega
theorem wd_told {a b : Sp} (h1 : a.ok) (h2 : b.ok) : wLo a.lo a.hi b.lo b.hi = (a.wd b).lo ∧ wHi a.lo a.hi b.lo b.hi = (a.wd b).hi := by
  unfold Sp.ok at *
  rw [Sp.wd_lo, Sp.wd_hi]
  unfold wLo wHi tLo tHi widLo widHi joinLo joinHi
  constructor <;> (repeat' split) <;> omega
theorem und_told {a b : Sp} (h1 : a.ok) : inB a.lo a.hi b.lo b.hi = a.und b := by
  unfold Sp.ok at *
  unfold inB Sp.und
  rw [show decide (a.hi < a.lo) = false by simp; omega]
  rfl
theorem has_told (a : Sp) (n : Int) : hasN a.lo a.hi n = a.has n := rfl
end R
end Go.Proofs.Ytbbpbfbifgfjdaa
