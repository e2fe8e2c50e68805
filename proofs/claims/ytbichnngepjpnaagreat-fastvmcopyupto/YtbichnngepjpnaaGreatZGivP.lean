import Derived.Test.YtbichnngepjpnaaGreatP37
/-
  Stage 13, fastvm: inputs given at once and piece by piece. No Go in sight.
-/
namespace Go.Proofs.YtbichnngepjpnaaGreat
namespace Z
open Go.RowKit
open T (Sep Ob Kp Mf FlIn boxOb)

/-- Inputs given. -/
def giveM (s : Fm) (A : List Int) : Fm := if s.e = 6 ∧ s.inp ++ A ≠ [] then { s with inp := s.inp ++ A, e := 0, v := 0, f := 0 } else { s with inp := s.inp ++ A }
def wI (s : Fm) (I : List Int) : Fm := { s with inp := I }
/-- What holds of every instruction but one that takes an input. -/
def NoIn (P : Pr) (i : Fi) (s : Fm) : Prop := (∀ I, stepI P i (wI s I) = wI (stepI P i s) I) ∧ (stepI P i s).inp = s.inp ∧ (s.e = 0 → (stepI P i s).e ≠ 6) ∧ (s.e = 0 → (stepI P i s).e = 0 → (stepI P i s).v = s.v ∧ (stepI P i s).f = s.f)
theorem noin0 (s : Fm) : (∀ I, stp0 (wI s I) = wI (stp0 s) I) ∧ (stp0 s).inp = s.inp ∧ (s.e = 0 → (stp0 s).e ≠ 6) ∧ (s.e = 0 → (stp0 s).e = 0 → (stp0 s).v = s.v ∧ (stp0 s).f = s.f) :=
  ⟨fun _ => rfl, rfl, fun h q => by rw [show s.e = 6 from q] at h; exact absurd h (by decide), fun _ _ => ⟨rfl, rfl⟩⟩
theorem noin1 (i : Fi) (s : Fm) : (∀ I, stp1 i (wI s I) = wI (stp1 i s) I) ∧ (stp1 i s).inp = s.inp ∧ (s.e = 0 → (stp1 i s).e ≠ 6) ∧ (s.e = 0 → (stp1 i s).e = 0 → (stp1 i s).v = s.v ∧ (stp1 i s).f = s.f) :=
  ⟨fun _ => rfl, rfl, fun h q => by rw [show s.e = 6 from q] at h; exact absurd h (by decide), fun _ _ => ⟨rfl, rfl⟩⟩
theorem noin2 (i : Fi) (s : Fm) : (∀ I, stp2 i (wI s I) = wI (stp2 i s) I) ∧ (stp2 i s).inp = s.inp ∧ (s.e = 0 → (stp2 i s).e ≠ 6) ∧ (s.e = 0 → (stp2 i s).e = 0 → (stp2 i s).v = s.v ∧ (stp2 i s).f = s.f) :=
  ⟨fun _ => rfl, rfl, fun h q => by rw [show s.e = 6 from q] at h; exact absurd h (by decide), fun _ _ => ⟨rfl, rfl⟩⟩
theorem noin3 (i : Fi) (s : Fm) : (∀ I, stp3 i (wI s I) = wI (stp3 i s) I) ∧ (stp3 i s).inp = s.inp ∧ (s.e = 0 → (stp3 i s).e ≠ 6) ∧ (s.e = 0 → (stp3 i s).e = 0 → (stp3 i s).v = s.v ∧ (stp3 i s).f = s.f) :=
  ⟨fun _ => rfl, rfl, fun h q => by rw [show s.e = 6 from q] at h; exact absurd h (by decide), fun _ _ => ⟨rfl, rfl⟩⟩
theorem noin4 (i : Fi) (s : Fm) : (∀ I, stp4 i (wI s I) = wI (stp4 i s) I) ∧ (stp4 i s).inp = s.inp ∧ (s.e = 0 → (stp4 i s).e ≠ 6) ∧ (s.e = 0 → (stp4 i s).e = 0 → (stp4 i s).v = s.v ∧ (stp4 i s).f = s.f) :=
  ⟨fun _ => rfl, rfl, fun h q => by rw [show s.e = 6 from q] at h; exact absurd h (by decide), fun _ _ => ⟨rfl, rfl⟩⟩
theorem noin5 (i : Fi) (s : Fm) : (∀ I, stp5 i (wI s I) = wI (stp5 i s) I) ∧ (stp5 i s).inp = s.inp ∧ (s.e = 0 → (stp5 i s).e ≠ 6) ∧ (s.e = 0 → (stp5 i s).e = 0 → (stp5 i s).v = s.v ∧ (stp5 i s).f = s.f) :=
  ⟨fun _ => rfl, rfl, fun h q => by rw [show s.e = 6 from q] at h; exact absurd h (by decide), fun _ _ => ⟨rfl, rfl⟩⟩
theorem noin6 (i : Fi) (s : Fm) : (∀ I, stp6 i (wI s I) = wI (stp6 i s) I) ∧ (stp6 i s).inp = s.inp ∧ (s.e = 0 → (stp6 i s).e ≠ 6) ∧ (s.e = 0 → (stp6 i s).e = 0 → (stp6 i s).v = s.v ∧ (stp6 i s).f = s.f) :=
  ⟨fun _ => rfl, rfl, fun h q => by rw [show s.e = 6 from q] at h; exact absurd h (by decide), fun _ _ => ⟨rfl, rfl⟩⟩
theorem noin7 (i : Fi) (s : Fm) : (∀ I, stp7 i (wI s I) = wI (stp7 i s) I) ∧ (stp7 i s).inp = s.inp ∧ (s.e = 0 → (stp7 i s).e ≠ 6) ∧ (s.e = 0 → (stp7 i s).e = 0 → (stp7 i s).v = s.v ∧ (stp7 i s).f = s.f) :=
  ⟨fun _ => rfl, rfl, fun h q => by rw [show s.e = 6 from q] at h; exact absurd h (by decide), fun _ _ => ⟨rfl, rfl⟩⟩
theorem noin8 (i : Fi) (s : Fm) : (∀ I, stp8 i (wI s I) = wI (stp8 i s) I) ∧ (stp8 i s).inp = s.inp ∧ (s.e = 0 → (stp8 i s).e ≠ 6) ∧ (s.e = 0 → (stp8 i s).e = 0 → (stp8 i s).v = s.v ∧ (stp8 i s).f = s.f) :=
  ⟨fun _ => rfl, rfl, fun h q => by rw [show s.e = 6 from q] at h; exact absurd h (by decide), fun _ _ => ⟨rfl, rfl⟩⟩
theorem noin9 (i : Fi) (s : Fm) : (∀ I, stp9 i (wI s I) = wI (stp9 i s) I) ∧ (stp9 i s).inp = s.inp ∧ (s.e = 0 → (stp9 i s).e ≠ 6) ∧ (s.e = 0 → (stp9 i s).e = 0 → (stp9 i s).v = s.v ∧ (stp9 i s).f = s.f) :=
  ⟨fun _ => rfl, rfl, fun h q => by rw [show s.e = 6 from q] at h; exact absurd h (by decide), fun _ _ => ⟨rfl, rfl⟩⟩
theorem noin10 (i : Fi) (s : Fm) : (∀ I, stp10 i (wI s I) = wI (stp10 i s) I) ∧ (stp10 i s).inp = s.inp ∧ (s.e = 0 → (stp10 i s).e ≠ 6) ∧ (s.e = 0 → (stp10 i s).e = 0 → (stp10 i s).v = s.v ∧ (stp10 i s).f = s.f) :=
  ⟨fun _ => rfl, rfl, fun h q => by rw [show s.e = 6 from q] at h; exact absurd h (by decide), fun _ _ => ⟨rfl, rfl⟩⟩
theorem noin11 (i : Fi) (s : Fm) : (∀ I, stp11 i (wI s I) = wI (stp11 i s) I) ∧ (stp11 i s).inp = s.inp ∧ (s.e = 0 → (stp11 i s).e ≠ 6) ∧ (s.e = 0 → (stp11 i s).e = 0 → (stp11 i s).v = s.v ∧ (stp11 i s).f = s.f) :=
  ⟨fun _ => rfl, rfl, fun h q => by rw [show s.e = 6 from q] at h; exact absurd h (by decide), fun _ _ => ⟨rfl, rfl⟩⟩
theorem noin12 (i : Fi) (s : Fm) : (∀ I, stp12 i (wI s I) = wI (stp12 i s) I) ∧ (stp12 i s).inp = s.inp ∧ (s.e = 0 → (stp12 i s).e ≠ 6) ∧ (s.e = 0 → (stp12 i s).e = 0 → (stp12 i s).v = s.v ∧ (stp12 i s).f = s.f) :=
  ⟨fun _ => rfl, rfl, fun h q => by rw [show s.e = 6 from q] at h; exact absurd h (by decide), fun _ _ => ⟨rfl, rfl⟩⟩
theorem noin13 (i : Fi) (s : Fm) : (∀ I, stp13 i (wI s I) = wI (stp13 i s) I) ∧ (stp13 i s).inp = s.inp ∧ (s.e = 0 → (stp13 i s).e ≠ 6) ∧ (s.e = 0 → (stp13 i s).e = 0 → (stp13 i s).v = s.v ∧ (stp13 i s).f = s.f) :=
  ⟨fun _ => rfl, rfl, fun h q => by rw [show s.e = 6 from q] at h; exact absurd h (by decide), fun _ _ => ⟨rfl, rfl⟩⟩
theorem noin20 (i : Fi) (s : Fm) : (∀ I, stp20 i (wI s I) = wI (stp20 i s) I) ∧ (stp20 i s).inp = s.inp ∧ (s.e = 0 → (stp20 i s).e ≠ 6) ∧ (s.e = 0 → (stp20 i s).e = 0 → (stp20 i s).v = s.v ∧ (stp20 i s).f = s.f) :=
  ⟨fun _ => rfl, rfl, fun h q => by rw [show s.e = 6 from q] at h; exact absurd h (by decide), fun _ _ => ⟨rfl, rfl⟩⟩
theorem noin21 (i : Fi) (s : Fm) : (∀ I, stp21 i (wI s I) = wI (stp21 i s) I) ∧ (stp21 i s).inp = s.inp ∧ (s.e = 0 → (stp21 i s).e ≠ 6) ∧ (s.e = 0 → (stp21 i s).e = 0 → (stp21 i s).v = s.v ∧ (stp21 i s).f = s.f) :=
  ⟨fun _ => rfl, rfl, fun h q => by rw [show s.e = 6 from q] at h; exact absurd h (by decide), fun _ _ => ⟨rfl, rfl⟩⟩
theorem noin22 (i : Fi) (s : Fm) : (∀ I, stp22 i (wI s I) = wI (stp22 i s) I) ∧ (stp22 i s).inp = s.inp ∧ (s.e = 0 → (stp22 i s).e ≠ 6) ∧ (s.e = 0 → (stp22 i s).e = 0 → (stp22 i s).v = s.v ∧ (stp22 i s).f = s.f) :=
  ⟨fun _ => rfl, rfl, fun h q => by rw [show s.e = 6 from q] at h; exact absurd h (by decide), fun _ _ => ⟨rfl, rfl⟩⟩
theorem noin23 (i : Fi) (s : Fm) : (∀ I, stp23 i (wI s I) = wI (stp23 i s) I) ∧ (stp23 i s).inp = s.inp ∧ (s.e = 0 → (stp23 i s).e ≠ 6) ∧ (s.e = 0 → (stp23 i s).e = 0 → (stp23 i s).v = s.v ∧ (stp23 i s).f = s.f) :=
  ⟨fun _ => rfl, rfl, fun h q => by rw [show s.e = 6 from q] at h; exact absurd h (by decide), fun _ _ => ⟨rfl, rfl⟩⟩
theorem noin24 (i : Fi) (s : Fm) : (∀ I, stp24 i (wI s I) = wI (stp24 i s) I) ∧ (stp24 i s).inp = s.inp ∧ (s.e = 0 → (stp24 i s).e ≠ 6) ∧ (s.e = 0 → (stp24 i s).e = 0 → (stp24 i s).v = s.v ∧ (stp24 i s).f = s.f) :=
  ⟨fun _ => rfl, rfl, fun h q => by rw [show s.e = 6 from q] at h; exact absurd h (by decide), fun _ _ => ⟨rfl, rfl⟩⟩
theorem noin27 (i : Fi) (s : Fm) : (∀ I, stp27 i (wI s I) = wI (stp27 i s) I) ∧ (stp27 i s).inp = s.inp ∧ (s.e = 0 → (stp27 i s).e ≠ 6) ∧ (s.e = 0 → (stp27 i s).e = 0 → (stp27 i s).v = s.v ∧ (stp27 i s).f = s.f) :=
  ⟨fun _ => rfl, rfl, fun _ q => absurd (show (1 : Int) = 6 from q) (by decide), fun _ q => absurd (show (1 : Int) = 0 from q) (by decide)⟩
theorem noin28 (i : Fi) (s : Fm) : (∀ I, stp28 i (wI s I) = wI (stp28 i s) I) ∧ (stp28 i s).inp = s.inp ∧ (s.e = 0 → (stp28 i s).e ≠ 6) ∧ (s.e = 0 → (stp28 i s).e = 0 → (stp28 i s).v = s.v ∧ (stp28 i s).f = s.f) :=
  ⟨fun _ => rfl, rfl, fun _ q => absurd (show (3 : Int) = 6 from q) (by decide), fun _ q => absurd (show (3 : Int) = 0 from q) (by decide)⟩
theorem noin30 (i : Fi) (s : Fm) : (∀ I, stp30 i (wI s I) = wI (stp30 i s) I) ∧ (stp30 i s).inp = s.inp ∧ (s.e = 0 → (stp30 i s).e ≠ 6) ∧ (s.e = 0 → (stp30 i s).e = 0 → (stp30 i s).v = s.v ∧ (stp30 i s).f = s.f) :=
  ⟨fun _ => rfl, rfl, fun h q => by rw [show s.e = 6 from q] at h; exact absurd h (by decide), fun _ _ => ⟨rfl, rfl⟩⟩
theorem noin31 (P : Pr) (i : Fi) (s : Fm) : (∀ I, stp31 P i (wI s I) = wI (stp31 P i s) I) ∧ (stp31 P i s).inp = s.inp ∧ (s.e = 0 → (stp31 P i s).e ≠ 6) ∧ (s.e = 0 → (stp31 P i s).e = 0 → (stp31 P i s).v = s.v ∧ (stp31 P i s).f = s.f) :=
  by
  refine ⟨fun I => ?_, ?_, fun h q => ?_, fun _ q => ?_⟩
  · unfold stp31 wI
    dsimp only
    split <;> rfl
  · unfold stp31
    split <;> rfl
  · unfold stp31 at q
    split at q <;> first | exact absurd (show (5 : Int) = 6 from q) (by decide) | (rw [show s.e = 6 from q] at h; exact absurd h (by decide))
  · unfold stp31 at q ⊢
    split at q
    all_goals first | exact absurd (show (5 : Int) = 0 from q) (by decide) | exact ⟨rfl, rfl⟩ | (rename_i c; first | (rw [if_neg c]; exact ⟨rfl, rfl⟩) | (rw [if_pos c]; exact ⟨rfl, rfl⟩) | (rw [c]; exact ⟨rfl, rfl⟩))
theorem noin32 (P : Pr) (s : Fm) : (∀ I, stp32 P (wI s I) = wI (stp32 P s) I) ∧ (stp32 P s).inp = s.inp ∧ (s.e = 0 → (stp32 P s).e ≠ 6) ∧ (s.e = 0 → (stp32 P s).e = 0 → (stp32 P s).v = s.v ∧ (stp32 P s).f = s.f) :=
  by
  refine ⟨fun I => ?_, ?_, fun h q => ?_, fun _ q => ?_⟩
  · unfold stp32 wI
    dsimp only
    split <;> rfl
  · unfold stp32
    split <;> rfl
  · unfold stp32 at q
    split at q <;> first | exact absurd (show (1 : Int) = 6 from q) (by decide) | (rw [show s.e = 6 from q] at h; exact absurd h (by decide))
  · unfold stp32 at q ⊢
    split at q
    all_goals first | exact absurd (show (1 : Int) = 0 from q) (by decide) | exact ⟨rfl, rfl⟩ | (rename_i c; first | (rw [if_neg c]; exact ⟨rfl, rfl⟩) | (rw [if_pos c]; exact ⟨rfl, rfl⟩) | (rw [c]; exact ⟨rfl, rfl⟩))
theorem noin60 (i : Fi) (s : Fm) : (∀ I, stp60 i (wI s I) = wI (stp60 i s) I) ∧ (stp60 i s).inp = s.inp ∧ (s.e = 0 → (stp60 i s).e ≠ 6) ∧ (s.e = 0 → (stp60 i s).e = 0 → (stp60 i s).v = s.v ∧ (stp60 i s).f = s.f) :=
  by
  refine ⟨fun I => ?_, ?_, fun h q => ?_, fun _ q => ?_⟩
  · unfold stp60 wI
    dsimp only
    split <;> rfl
  · unfold stp60
    split <;> rfl
  · unfold stp60 at q
    split at q <;> first | exact absurd (show (7 : Int) = 6 from q) (by decide) | (rw [show s.e = 6 from q] at h; exact absurd h (by decide))
  · unfold stp60 at q ⊢
    split at q
    all_goals first | exact absurd (show (7 : Int) = 0 from q) (by decide) | exact ⟨rfl, rfl⟩ | (rename_i c; first | (rw [if_neg c]; exact ⟨rfl, rfl⟩) | (rw [if_pos c]; exact ⟨rfl, rfl⟩) | (rw [c]; exact ⟨rfl, rfl⟩))
theorem noin61 (i : Fi) (s : Fm) : (∀ I, stp61 i (wI s I) = wI (stp61 i s) I) ∧ (stp61 i s).inp = s.inp ∧ (s.e = 0 → (stp61 i s).e ≠ 6) ∧ (s.e = 0 → (stp61 i s).e = 0 → (stp61 i s).v = s.v ∧ (stp61 i s).f = s.f) :=
  by
  refine ⟨fun I => ?_, ?_, fun h q => ?_, fun _ q => ?_⟩
  · unfold stp61 wI
    dsimp only
    split <;> rfl
  · unfold stp61
    split <;> rfl
  · unfold stp61 at q
    split at q <;> first | exact absurd (show (7 : Int) = 6 from q) (by decide) | (rw [show s.e = 6 from q] at h; exact absurd h (by decide))
  · unfold stp61 at q ⊢
    split at q
    all_goals first | exact absurd (show (7 : Int) = 0 from q) (by decide) | exact ⟨rfl, rfl⟩ | (rename_i c; first | (rw [if_neg c]; exact ⟨rfl, rfl⟩) | (rw [if_pos c]; exact ⟨rfl, rfl⟩) | (rw [c]; exact ⟨rfl, rfl⟩))
theorem noin62 (i : Fi) (s : Fm) : (∀ I, stp62 i (wI s I) = wI (stp62 i s) I) ∧ (stp62 i s).inp = s.inp ∧ (s.e = 0 → (stp62 i s).e ≠ 6) ∧ (s.e = 0 → (stp62 i s).e = 0 → (stp62 i s).v = s.v ∧ (stp62 i s).f = s.f) :=
  by
  refine ⟨fun I => ?_, ?_, fun h q => ?_, fun _ q => ?_⟩
  · unfold stp62 wI
    dsimp only
    split <;> rfl
  · unfold stp62
    split <;> rfl
  · unfold stp62 at q
    split at q <;> first | exact absurd (show (7 : Int) = 6 from q) (by decide) | (rw [show s.e = 6 from q] at h; exact absurd h (by decide))
  · unfold stp62 at q ⊢
    split at q
    all_goals first | exact absurd (show (7 : Int) = 0 from q) (by decide) | exact ⟨rfl, rfl⟩ | (rename_i c; first | (rw [if_neg c]; exact ⟨rfl, rfl⟩) | (rw [if_pos c]; exact ⟨rfl, rfl⟩) | (rw [c]; exact ⟨rfl, rfl⟩))
theorem noin63 (i : Fi) (s : Fm) : (∀ I, stp63 i (wI s I) = wI (stp63 i s) I) ∧ (stp63 i s).inp = s.inp ∧ (s.e = 0 → (stp63 i s).e ≠ 6) ∧ (s.e = 0 → (stp63 i s).e = 0 → (stp63 i s).v = s.v ∧ (stp63 i s).f = s.f) :=
  by
  refine ⟨fun I => ?_, ?_, fun h q => ?_, fun _ q => ?_⟩
  · unfold stp63 wI
    dsimp only
    split <;> rfl
  · unfold stp63
    split <;> rfl
  · unfold stp63 at q
    split at q <;> first | exact absurd (show (7 : Int) = 6 from q) (by decide) | (rw [show s.e = 6 from q] at h; exact absurd h (by decide))
  · unfold stp63 at q ⊢
    split at q
    all_goals first | exact absurd (show (7 : Int) = 0 from q) (by decide) | exact ⟨rfl, rfl⟩ | (rename_i c; first | (rw [if_neg c]; exact ⟨rfl, rfl⟩) | (rw [if_pos c]; exact ⟨rfl, rfl⟩) | (rw [c]; exact ⟨rfl, rfl⟩))
theorem noin64 (i : Fi) (s : Fm) : (∀ I, stp64 i (wI s I) = wI (stp64 i s) I) ∧ (stp64 i s).inp = s.inp ∧ (s.e = 0 → (stp64 i s).e ≠ 6) ∧ (s.e = 0 → (stp64 i s).e = 0 → (stp64 i s).v = s.v ∧ (stp64 i s).f = s.f) :=
  by
  refine ⟨fun I => ?_, ?_, fun h q => ?_, fun _ q => ?_⟩
  · unfold stp64 wI
    dsimp only
    split <;> rfl
  · unfold stp64
    split <;> rfl
  · unfold stp64 at q
    split at q <;> first | exact absurd (show (7 : Int) = 6 from q) (by decide) | (rw [show s.e = 6 from q] at h; exact absurd h (by decide))
  · unfold stp64 at q ⊢
    split at q
    all_goals first | exact absurd (show (7 : Int) = 0 from q) (by decide) | exact ⟨rfl, rfl⟩ | (rename_i c; first | (rw [if_neg c]; exact ⟨rfl, rfl⟩) | (rw [if_pos c]; exact ⟨rfl, rfl⟩) | (rw [c]; exact ⟨rfl, rfl⟩))
theorem noin65 (i : Fi) (s : Fm) : (∀ I, stp65 i (wI s I) = wI (stp65 i s) I) ∧ (stp65 i s).inp = s.inp ∧ (s.e = 0 → (stp65 i s).e ≠ 6) ∧ (s.e = 0 → (stp65 i s).e = 0 → (stp65 i s).v = s.v ∧ (stp65 i s).f = s.f) :=
  by
  refine ⟨fun I => ?_, ?_, fun h q => ?_, fun _ q => ?_⟩
  · unfold stp65 wI
    dsimp only
    split <;> rfl
  · unfold stp65
    split <;> rfl
  · unfold stp65 at q
    split at q <;> first | exact absurd (show (7 : Int) = 6 from q) (by decide) | (rw [show s.e = 6 from q] at h; exact absurd h (by decide))
  · unfold stp65 at q ⊢
    split at q
    all_goals first | exact absurd (show (7 : Int) = 0 from q) (by decide) | exact ⟨rfl, rfl⟩ | (rename_i c; first | (rw [if_neg c]; exact ⟨rfl, rfl⟩) | (rw [if_pos c]; exact ⟨rfl, rfl⟩) | (rw [c]; exact ⟨rfl, rfl⟩))
theorem noin70 (i : Fi) (s : Fm) : (∀ I, stp70 i (wI s I) = wI (stp70 i s) I) ∧ (stp70 i s).inp = s.inp ∧ (s.e = 0 → (stp70 i s).e ≠ 6) ∧ (s.e = 0 → (stp70 i s).e = 0 → (stp70 i s).v = s.v ∧ (stp70 i s).f = s.f) :=
  by
  refine ⟨fun I => ?_, ?_, fun h q => ?_, fun _ q => ?_⟩
  · unfold stp70 wI
    dsimp only
    split <;> rfl
  · unfold stp70
    split <;> rfl
  · unfold stp70 at q
    split at q <;> first | exact absurd (show (2 : Int) = 6 from q) (by decide) | (rw [show s.e = 6 from q] at h; exact absurd h (by decide))
  · unfold stp70 at q ⊢
    split at q
    all_goals first | exact absurd (show (2 : Int) = 0 from q) (by decide) | exact ⟨rfl, rfl⟩ | (rename_i c; first | (rw [if_neg c]; exact ⟨rfl, rfl⟩) | (rw [if_pos c]; exact ⟨rfl, rfl⟩) | (rw [c]; exact ⟨rfl, rfl⟩))
theorem noin71 (i : Fi) (s : Fm) : (∀ I, stp71 i (wI s I) = wI (stp71 i s) I) ∧ (stp71 i s).inp = s.inp ∧ (s.e = 0 → (stp71 i s).e ≠ 6) ∧ (s.e = 0 → (stp71 i s).e = 0 → (stp71 i s).v = s.v ∧ (stp71 i s).f = s.f) :=
  by
  refine ⟨fun I => ?_, ?_, fun h q => ?_, fun _ q => ?_⟩
  · unfold stp71 wI
    dsimp only
    split <;> rfl
  · unfold stp71
    split <;> rfl
  · unfold stp71 at q
    split at q <;> first | exact absurd (show (2 : Int) = 6 from q) (by decide) | (rw [show s.e = 6 from q] at h; exact absurd h (by decide))
  · unfold stp71 at q ⊢
    split at q
    all_goals first | exact absurd (show (2 : Int) = 0 from q) (by decide) | exact ⟨rfl, rfl⟩ | (rename_i c; first | (rw [if_neg c]; exact ⟨rfl, rfl⟩) | (rw [if_pos c]; exact ⟨rfl, rfl⟩) | (rw [c]; exact ⟨rfl, rfl⟩))
theorem noin72 (i : Fi) (s : Fm) : (∀ I, stp72 i (wI s I) = wI (stp72 i s) I) ∧ (stp72 i s).inp = s.inp ∧ (s.e = 0 → (stp72 i s).e ≠ 6) ∧ (s.e = 0 → (stp72 i s).e = 0 → (stp72 i s).v = s.v ∧ (stp72 i s).f = s.f) :=
  ⟨fun _ => rfl, rfl, fun _ q => absurd (show (2 : Int) = 6 from q) (by decide), fun _ q => absurd (show (2 : Int) = 0 from q) (by decide)⟩
theorem noin_all (P : Pr) (i : Fi) (s : Fm) (hi : i.op ≠ 29) : NoIn P i s := by
  unfold NoIn
  by_cases q0 : i.op = 0
  · have e : ∀ z, stepI P i z = stp0 z := fun z => by unfold stepI; rw [q0]; rfl
    rw [e s]
    refine ⟨fun I => ?_, (noin0 s).2⟩
    rw [e (wI s I)]
    exact (noin0 s).1 I
  by_cases q1 : i.op = 1
  · have e : ∀ z, stepI P i z = stp1 i z := fun z => by unfold stepI; rw [q1]; rfl
    rw [e s]
    refine ⟨fun I => ?_, (noin1 i s).2⟩
    rw [e (wI s I)]
    exact (noin1 i s).1 I
  by_cases q2 : i.op = 2
  · have e : ∀ z, stepI P i z = stp2 i z := fun z => by unfold stepI; rw [q2]; rfl
    rw [e s]
    refine ⟨fun I => ?_, (noin2 i s).2⟩
    rw [e (wI s I)]
    exact (noin2 i s).1 I
  by_cases q3 : i.op = 3
  · have e : ∀ z, stepI P i z = stp3 i z := fun z => by unfold stepI; rw [q3]; rfl
    rw [e s]
    refine ⟨fun I => ?_, (noin3 i s).2⟩
    rw [e (wI s I)]
    exact (noin3 i s).1 I
  by_cases q4 : i.op = 4
  · have e : ∀ z, stepI P i z = stp4 i z := fun z => by unfold stepI; rw [q4]; rfl
    rw [e s]
    refine ⟨fun I => ?_, (noin4 i s).2⟩
    rw [e (wI s I)]
    exact (noin4 i s).1 I
  by_cases q5 : i.op = 5
  · have e : ∀ z, stepI P i z = stp5 i z := fun z => by unfold stepI; rw [q5]; rfl
    rw [e s]
    refine ⟨fun I => ?_, (noin5 i s).2⟩
    rw [e (wI s I)]
    exact (noin5 i s).1 I
  by_cases q6 : i.op = 6
  · have e : ∀ z, stepI P i z = stp6 i z := fun z => by unfold stepI; rw [q6]; rfl
    rw [e s]
    refine ⟨fun I => ?_, (noin6 i s).2⟩
    rw [e (wI s I)]
    exact (noin6 i s).1 I
  by_cases q7 : i.op = 7
  · have e : ∀ z, stepI P i z = stp7 i z := fun z => by unfold stepI; rw [q7]; rfl
    rw [e s]
    refine ⟨fun I => ?_, (noin7 i s).2⟩
    rw [e (wI s I)]
    exact (noin7 i s).1 I
  by_cases q8 : i.op = 8
  · have e : ∀ z, stepI P i z = stp8 i z := fun z => by unfold stepI; rw [q8]; rfl
    rw [e s]
    refine ⟨fun I => ?_, (noin8 i s).2⟩
    rw [e (wI s I)]
    exact (noin8 i s).1 I
  by_cases q9 : i.op = 9
  · have e : ∀ z, stepI P i z = stp9 i z := fun z => by unfold stepI; rw [q9]; rfl
    rw [e s]
    refine ⟨fun I => ?_, (noin9 i s).2⟩
    rw [e (wI s I)]
    exact (noin9 i s).1 I
  by_cases q10 : i.op = 10
  · have e : ∀ z, stepI P i z = stp10 i z := fun z => by unfold stepI; rw [q10]; rfl
    rw [e s]
    refine ⟨fun I => ?_, (noin10 i s).2⟩
    rw [e (wI s I)]
    exact (noin10 i s).1 I
  by_cases q11 : i.op = 11
  · have e : ∀ z, stepI P i z = stp11 i z := fun z => by unfold stepI; rw [q11]; rfl
    rw [e s]
    refine ⟨fun I => ?_, (noin11 i s).2⟩
    rw [e (wI s I)]
    exact (noin11 i s).1 I
  by_cases q12 : i.op = 12
  · have e : ∀ z, stepI P i z = stp12 i z := fun z => by unfold stepI; rw [q12]; rfl
    rw [e s]
    refine ⟨fun I => ?_, (noin12 i s).2⟩
    rw [e (wI s I)]
    exact (noin12 i s).1 I
  by_cases q13 : i.op = 13
  · have e : ∀ z, stepI P i z = stp13 i z := fun z => by unfold stepI; rw [q13]; rfl
    rw [e s]
    refine ⟨fun I => ?_, (noin13 i s).2⟩
    rw [e (wI s I)]
    exact (noin13 i s).1 I
  by_cases q20 : i.op = 20
  · have e : ∀ z, stepI P i z = stp20 i z := fun z => by unfold stepI; rw [q20]; rfl
    rw [e s]
    refine ⟨fun I => ?_, (noin20 i s).2⟩
    rw [e (wI s I)]
    exact (noin20 i s).1 I
  by_cases q21 : i.op = 21
  · have e : ∀ z, stepI P i z = stp21 i z := fun z => by unfold stepI; rw [q21]; rfl
    rw [e s]
    refine ⟨fun I => ?_, (noin21 i s).2⟩
    rw [e (wI s I)]
    exact (noin21 i s).1 I
  by_cases q22 : i.op = 22
  · have e : ∀ z, stepI P i z = stp22 i z := fun z => by unfold stepI; rw [q22]; rfl
    rw [e s]
    refine ⟨fun I => ?_, (noin22 i s).2⟩
    rw [e (wI s I)]
    exact (noin22 i s).1 I
  by_cases q23 : i.op = 23
  · have e : ∀ z, stepI P i z = stp23 i z := fun z => by unfold stepI; rw [q23]; rfl
    rw [e s]
    refine ⟨fun I => ?_, (noin23 i s).2⟩
    rw [e (wI s I)]
    exact (noin23 i s).1 I
  by_cases q24 : i.op = 24
  · have e : ∀ z, stepI P i z = stp24 i z := fun z => by unfold stepI; rw [q24]; rfl
    rw [e s]
    refine ⟨fun I => ?_, (noin24 i s).2⟩
    rw [e (wI s I)]
    exact (noin24 i s).1 I
  by_cases q27 : i.op = 27
  · have e : ∀ z, stepI P i z = stp27 i z := fun z => by unfold stepI; rw [q27]; rfl
    rw [e s]
    refine ⟨fun I => ?_, (noin27 i s).2⟩
    rw [e (wI s I)]
    exact (noin27 i s).1 I
  by_cases q28 : i.op = 28
  · have e : ∀ z, stepI P i z = stp28 i z := fun z => by unfold stepI; rw [q28]; rfl
    rw [e s]
    refine ⟨fun I => ?_, (noin28 i s).2⟩
    rw [e (wI s I)]
    exact (noin28 i s).1 I
  by_cases q30 : i.op = 30
  · have e : ∀ z, stepI P i z = stp30 i z := fun z => by unfold stepI; rw [q30]; rfl
    rw [e s]
    refine ⟨fun I => ?_, (noin30 i s).2⟩
    rw [e (wI s I)]
    exact (noin30 i s).1 I
  by_cases q31 : i.op = 31
  · have e : ∀ z, stepI P i z = stp31 P i z := fun z => by unfold stepI; rw [q31]; rfl
    rw [e s]
    refine ⟨fun I => ?_, (noin31 P i s).2⟩
    rw [e (wI s I)]
    exact (noin31 P i s).1 I
  by_cases q32 : i.op = 32
  · have e : ∀ z, stepI P i z = stp32 P z := fun z => by unfold stepI; rw [q32]; rfl
    rw [e s]
    refine ⟨fun I => ?_, (noin32 P s).2⟩
    rw [e (wI s I)]
    exact (noin32 P s).1 I
  by_cases q60 : i.op = 60
  · have e : ∀ z, stepI P i z = stp60 i z := fun z => by unfold stepI; rw [q60]; rfl
    rw [e s]
    refine ⟨fun I => ?_, (noin60 i s).2⟩
    rw [e (wI s I)]
    exact (noin60 i s).1 I
  by_cases q61 : i.op = 61
  · have e : ∀ z, stepI P i z = stp61 i z := fun z => by unfold stepI; rw [q61]; rfl
    rw [e s]
    refine ⟨fun I => ?_, (noin61 i s).2⟩
    rw [e (wI s I)]
    exact (noin61 i s).1 I
  by_cases q62 : i.op = 62
  · have e : ∀ z, stepI P i z = stp62 i z := fun z => by unfold stepI; rw [q62]; rfl
    rw [e s]
    refine ⟨fun I => ?_, (noin62 i s).2⟩
    rw [e (wI s I)]
    exact (noin62 i s).1 I
  by_cases q63 : i.op = 63
  · have e : ∀ z, stepI P i z = stp63 i z := fun z => by unfold stepI; rw [q63]; rfl
    rw [e s]
    refine ⟨fun I => ?_, (noin63 i s).2⟩
    rw [e (wI s I)]
    exact (noin63 i s).1 I
  by_cases q64 : i.op = 64
  · have e : ∀ z, stepI P i z = stp64 i z := fun z => by unfold stepI; rw [q64]; rfl
    rw [e s]
    refine ⟨fun I => ?_, (noin64 i s).2⟩
    rw [e (wI s I)]
    exact (noin64 i s).1 I
  by_cases q65 : i.op = 65
  · have e : ∀ z, stepI P i z = stp65 i z := fun z => by unfold stepI; rw [q65]; rfl
    rw [e s]
    refine ⟨fun I => ?_, (noin65 i s).2⟩
    rw [e (wI s I)]
    exact (noin65 i s).1 I
  by_cases q70 : i.op = 70
  · have e : ∀ z, stepI P i z = stp70 i z := fun z => by unfold stepI; rw [q70]; rfl
    rw [e s]
    refine ⟨fun I => ?_, (noin70 i s).2⟩
    rw [e (wI s I)]
    exact (noin70 i s).1 I
  by_cases q71 : i.op = 71
  · have e : ∀ z, stepI P i z = stp71 i z := fun z => by unfold stepI; rw [q71]; rfl
    rw [e s]
    refine ⟨fun I => ?_, (noin71 i s).2⟩
    rw [e (wI s I)]
    exact (noin71 i s).1 I
  by_cases q72 : i.op = 72
  · have e : ∀ z, stepI P i z = stp72 i z := fun z => by unfold stepI; rw [q72]; rfl
    rw [e s]
    refine ⟨fun I => ?_, (noin72 i s).2⟩
    rw [e (wI s I)]
    exact (noin72 i s).1 I
  have e : ∀ z, stepI P i z = z := fun z => by
    unfold stepI
    rw [if_neg q0, if_neg q1, if_neg q2, if_neg q3, if_neg q4, if_neg q5, if_neg q6, if_neg q7, if_neg q8, if_neg q9, if_neg q10, if_neg q11, if_neg q12, if_neg q13, if_neg q20, if_neg q21, if_neg q22, if_neg q23, if_neg q24, if_neg q27, if_neg q28, if_neg hi, if_neg q30, if_neg q31, if_neg q32, if_neg q60, if_neg q61, if_neg q62, if_neg q63, if_neg q64, if_neg q65, if_neg q70, if_neg q71, if_neg q72]
  rw [e s]
  exact ⟨fun I => e (wI s I), rfl, fun h => by rw [h]; decide, fun _ _ => ⟨rfl, rfl⟩⟩
theorem step_one (P : Pr) (s : Fm) (h : s.e = 0) : stepsM P s 1 = stepM P s := by
  show (if s.e = 0 then stepM P s else s) = _
  rw [if_pos h]
theorem in_step (P : Pr) (i : Fi) (s : Fm) (hi : i.op = 29) : stepI P i s = stp29 i s := by unfold stepI; rw [hi]; rfl
/-- One step of two machines of which the second one has been given less. -/
theorem al_cases (P : Pr) (s : Fm) (I Lf : List Int) (he : s.e = 0) (hs : s.inp = I ++ Lf) :
    (∃ I', stepsM P (wI s I) 1 = wI (stepsM P s 1) I' ∧ (stepsM P s 1).inp = I' ++ Lf ∧ ((stepsM P s 1).e = 6 → Lf = [])) ∨
    (I = [] ∧ Lf ≠ [] ∧ stepsM P (wI s I) 1 = { wI s [] with e := 6, v := 0, f := 0 } ∧ ∀ I2 L2, I2 ≠ [] → Lf = I2 ++ L2 → ∃ I3, stepsM P (wI s I2) 1 = wI (stepsM P s 1) I3 ∧ (stepsM P s 1).inp = I3 ++ L2 ∧ (stepsM P s 1).e ≠ 6) := by
  rw [step_one P s he, step_one P (wI s I) he]
  have cd : ∀ J, (P.code.getD (wI s J).g [])[(wI s J).p]? = (P.code.getD s.g [])[s.p]? := fun _ => rfl
  have hM : ∀ z, stepM P z = match (P.code.getD z.g [])[z.p]? with | some i => stepI P i z | none => { z with e := 7, v := 0, f := 8 } := fun _ => rfl
  cases hc : (P.code.getD s.g [])[s.p]? with
  | none =>
    refine .inl ⟨I, ?_, ?_, ?_⟩
    · rw [hM, cd, hM s, hc]; rfl
    · rw [hM s, hc]; exact hs
    · rw [hM s, hc]; exact fun h => absurd (show (7 : Int) = 6 from h) (by decide)
  | some i =>
    have e1 : ∀ J, stepM P (wI s J) = stepI P i (wI s J) := fun J => by rw [hM, cd, hc]
    have e2 : stepM P s = stepI P i s := by rw [hM s, hc]
    rw [e1, e2]
    by_cases hi : i.op = 29
    · rw [in_step P i s hi, in_step P i (wI s I) hi]
      cases I with
      | cons n J =>
        refine .inl ⟨J, ?_, ?_, ?_⟩
        · unfold stp29; rw [hs]; rfl
        · unfold stp29; rw [hs]; rfl
        · unfold stp29
          rw [hs]
          show s.e = 6 → Lf = []
          rw [he]
          exact fun h => absurd h (by decide)
      | nil =>
        cases Lf with
        | nil =>
          refine .inl ⟨[], ?_, ?_, fun _ => rfl⟩
          · unfold stp29; rw [hs]; rfl
          · unfold stp29; rw [hs]; rfl
        | cons n J =>
          refine .inr ⟨rfl, by simp, rfl, fun I2 L2 h1 h2 => ?_⟩
          cases I2 with
          | nil => exact absurd rfl h1
          | cons n2 I3 =>
            injection h2 with h3 h4
            subst h3
            refine ⟨I3, ?_, ?_, ?_⟩
            · rw [step_one P (wI s (n :: I3)) he, e1, in_step P i _ hi]
              unfold stp29
              rw [hs]
              rfl
            · unfold stp29; rw [hs]; exact h4
            · unfold stp29
              rw [hs]
              show s.e ≠ 6
              rw [he]
              decide
    · obtain ⟨n1, n2, n3, _⟩ := noin_all P i s hi
      exact .inl ⟨I, n1 I, by rw [n2]; exact hs, fun h => absurd h (n3 he)⟩
/-- As long as it goes on, no ending is laid down. -/
def Calm (s : Fm) : Prop := s.v = 0 ∧ s.f = 0
theorem calm_step (P : Pr) (s : Fm) (he : s.e = 0) (h : Calm s) (h1 : (stepsM P s 1).e = 0) : Calm (stepsM P s 1) := by
  rw [step_one P s he] at h1 ⊢
  unfold stepM at h1 ⊢
  split at h1
  · rename_i i hc
    by_cases hi : i.op = 29
    · show Calm (stepI P i s)
      rw [in_step P i s hi] at h1 ⊢
      unfold stp29 at h1 ⊢
      split at h1
      · exact absurd (show (6 : Int) = 0 from h1) (by decide)
      · exact h
    · obtain ⟨_, _, _, n4⟩ := noin_all P i s hi
      obtain ⟨m1, m2⟩ := n4 he h1
      exact ⟨m1.trans h.1, m2.trans h.2⟩
  · exact absurd (show (7 : Int) = 0 from h1) (by decide)
/-- Given to one that goes on. -/
theorem give_run (s : Fm) (A : List Int) (h : s.e = 0) : giveM s A = wI s (s.inp ++ A) := by
  unfold giveM
  rw [if_neg (fun q => by rw [h] at q; exact absurd q.1 (by decide))]
  rfl
/-- Given to one that waits. -/
theorem give_starved (s : Fm) (A : List Int) (he : s.e = 0) (hc : Calm s) (hA : A ≠ []) : giveM { wI s [] with e := 6, v := 0, f := 0 } A = wI s A := by
  unfold giveM
  rw [if_pos ⟨rfl, by show [] ++ A ≠ []; exact hA⟩]
  show ({ s with inp := [] ++ A, e := 0, v := 0, f := 0 } : Fm) = { s with inp := A }
  rw [List.nil_append]
  obtain ⟨g, p, r, st, inp, out, tc, e, v, f, m⟩ := s
  obtain ⟨h1, h2⟩ := hc
  simp only at he h1 h2
  subst he h1 h2
  rfl
theorem give_none (s : Fm) : giveM { wI s [] with e := 6, v := 0, f := 0 } [] = { wI s [] with e := 6, v := 0, f := 0 } := rfl
end Z
end Go.Proofs.YtbichnngepjpnaaGreat
