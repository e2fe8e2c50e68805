import Derived.Test.YthfphgjjieddjaaGreatP30
import Derived.Test.YthfphgjjieddjaaGreatP29
namespace Go.Proofs.YthfphgjjieddjaaGreat
namespace Z
open Go.RowKit
open T (Sep Ob Kp Mf FlIn boxOb)

theorem sep_same {B B' : Nat} {W : World} {l l' : List Ob} (h : Sep B W l) (hS : l'.map Ob.S = l.map Ob.S) (hin : ∀ o ∈ l', o.In W) (hB : B' ≤ B) : Sep B' W l' := by
 refine ⟨hin, ?_, fun o ho k q => ?_⟩
 · have h1 : (l.map Ob.S).Pairwise (fun s t => ∀ k, s k → ¬ t k) := List.pairwise_map.2 h.dis
   rw [← hS] at h1
   exact List.pairwise_map.1 h1
 · have h1 : o.S ∈ l'.map Ob.S := List.mem_map_of_mem ho
   rw [hS] at h1
   obtain ⟨p, hp, e⟩ := List.mem_map.1 h1
   exact Nat.le_trans hB (h.ge p hp k (by rw [e]; exact q))
theorem sep_append {B : Nat} {W : World} {l l' : List Ob} (h : Sep B W l) (h' : Sep B W l') (hd : ∀ o ∈ l, ∀ p ∈ l', ∀ k, o.S k → ¬ p.S k) : Sep B W (l ++ l') := by
 refine ⟨fun o ho => ?_, List.pairwise_append.2 ⟨h.dis, h'.dis, hd⟩, fun o ho => ?_⟩
 · rcases List.mem_append.1 ho with r | r
   · exact h.ins o r
   · exact h'.ins o r
 · rcases List.mem_append.1 ho with r | r
   · exact h.ge o r
   · exact h'.ge o r
section
variable {B B' : Nat} {W W' : World} {a b : Nat} {P P' : Pr} {s s' : Fm} {l : List Ob} {q : Pt}
theorem obs_low (h1 : Sep B W (obs B a P s q ++ l)) (hB : B' ≤ B) : Sep B' W (obs B' a P s q ++ l) := by
 refine sep_same h1 rfl (fun o ho => ?_) hB
 rcases List.mem_append.1 ho with r | r
 · simp only [obs, List.mem_cons, List.not_mem_nil, or_false] at r
   rcases r with rfl | rfl | rfl | rfl | rfl | rfl | rfl
   · exact h1.ins _ (by simp [obs])
   · exact h1.ins _ (by simp [obs])
   · exact own_monoZ (h1.ins (stOb B q.sv s.st) (by simp [obs])) hB
   · exact h1.ins _ (by simp [obs])
   · exact own_monoZ (h1.ins (ouOb B q.ov_ s.out) (by simp [obs])) hB
   · exact own_monoZ (h1.ins (tcOb B q.tv s.tc) (by simp [obs])) hB
   · exact h1.ins _ (by simp [obs])
 · exact h1.ins o (by simp [r])
end
end Z
end Go.Proofs.YthfphgjjieddjaaGreat


namespace Go.Proofs.YthfphgjjieddjaaGreat
namespace Z
open Go.RowKit
open T (Sep Ob Kp Mf FlIn boxOb)

theorem stepI_cases (P : Pr) (i : Fi) (s : Fm) (C : Fm → Prop)
   (h0 : i.op = 0 → C (stp0 s))
   (h1 : i.op = 1 → C (stp1 i s))
   (h2 : i.op = 2 → C (stp2 i s))
   (h3 : i.op = 3 → C (stp3 i s))
   (h4 : i.op = 4 → C (stp4 i s))
   (h5 : i.op = 5 → C (stp5 i s))
   (h6 : i.op = 6 → C (stp6 i s))
   (h7 : i.op = 7 → C (stp7 i s))
   (h8 : i.op = 8 → C (stp8 i s))
   (h9 : i.op = 9 → C (stp9 i s))
   (h10 : i.op = 10 → C (stp10 i s))
   (h11 : i.op = 11 → C (stp11 i s))
   (h12 : i.op = 12 → C (stp12 i s))
   (h13 : i.op = 13 → C (stp13 i s))
   (h20 : i.op = 20 → C (stp20 i s))
   (h21 : i.op = 21 → C (stp21 i s))
   (h22 : i.op = 22 → C (stp22 i s))
   (h23 : i.op = 23 → C (stp23 i s))
   (h24 : i.op = 24 → C (stp24 i s))
   (h27 : i.op = 27 → C (stp27 i s))
   (h28 : i.op = 28 → C (stp28 i s))
   (h29 : i.op = 29 → C (stp29 i s))
   (h30 : i.op = 30 → C (stp30 i s))
   (h31 : i.op = 31 → C (stp31 P i s))
   (h32 : i.op = 32 → C (stp32 P s))
   (h60 : i.op = 60 → C (stp60 i s))
   (h61 : i.op = 61 → C (stp61 i s))
   (h62 : i.op = 62 → C (stp62 i s))
   (h63 : i.op = 63 → C (stp63 i s))
   (h64 : i.op = 64 → C (stp64 i s))
   (h65 : i.op = 65 → C (stp65 i s))
   (h70 : i.op = 70 → C (stp70 i s))
   (h71 : i.op = 71 → C (stp71 i s))
   (h72 : i.op = 72 → C (stp72 i s))
   (hl : C (s)) : C (stepI P i s) := by
 unfold stepI
 by_cases q0 : i.op = 0
 · rw [if_pos q0]; exact h0 q0
 rw [if_neg q0]
 by_cases q1 : i.op = 1
 · rw [if_pos q1]; exact h1 q1
 rw [if_neg q1]
 by_cases q2 : i.op = 2
 · rw [if_pos q2]; exact h2 q2
 rw [if_neg q2]
 by_cases q3 : i.op = 3
 · rw [if_pos q3]; exact h3 q3
 rw [if_neg q3]
 by_cases q4 : i.op = 4
 · rw [if_pos q4]; exact h4 q4
 rw [if_neg q4]
 by_cases q5 : i.op = 5
 · rw [if_pos q5]; exact h5 q5
 rw [if_neg q5]
 by_cases q6 : i.op = 6
 · rw [if_pos q6]; exact h6 q6
 rw [if_neg q6]
 by_cases q7 : i.op = 7
 · rw [if_pos q7]; exact h7 q7
 rw [if_neg q7]
 by_cases q8 : i.op = 8
 · rw [if_pos q8]; exact h8 q8
 rw [if_neg q8]
 by_cases q9 : i.op = 9
 · rw [if_pos q9]; exact h9 q9
 rw [if_neg q9]
 by_cases q10 : i.op = 10
 · rw [if_pos q10]; exact h10 q10
 rw [if_neg q10]
 by_cases q11 : i.op = 11
 · rw [if_pos q11]; exact h11 q11
 rw [if_neg q11]
 by_cases q12 : i.op = 12
 · rw [if_pos q12]; exact h12 q12
 rw [if_neg q12]
 by_cases q13 : i.op = 13
 · rw [if_pos q13]; exact h13 q13
 rw [if_neg q13]
 by_cases q20 : i.op = 20
 · rw [if_pos q20]; exact h20 q20
 rw [if_neg q20]
 by_cases q21 : i.op = 21
 · rw [if_pos q21]; exact h21 q21
 rw [if_neg q21]
 by_cases q22 : i.op = 22
 · rw [if_pos q22]; exact h22 q22
 rw [if_neg q22]
 by_cases q23 : i.op = 23
 · rw [if_pos q23]; exact h23 q23
 rw [if_neg q23]
 by_cases q24 : i.op = 24
 · rw [if_pos q24]; exact h24 q24
 rw [if_neg q24]
 by_cases q27 : i.op = 27
 · rw [if_pos q27]; exact h27 q27
 rw [if_neg q27]
 by_cases q28 : i.op = 28
 · rw [if_pos q28]; exact h28 q28
 rw [if_neg q28]
 by_cases q29 : i.op = 29
 · rw [if_pos q29]; exact h29 q29
 rw [if_neg q29]
 by_cases q30 : i.op = 30
 · rw [if_pos q30]; exact h30 q30
 rw [if_neg q30]
 by_cases q31 : i.op = 31
 · rw [if_pos q31]; exact h31 q31
 rw [if_neg q31]
 by_cases q32 : i.op = 32
 · rw [if_pos q32]; exact h32 q32
 rw [if_neg q32]
 by_cases q60 : i.op = 60
 · rw [if_pos q60]; exact h60 q60
 rw [if_neg q60]
 by_cases q61 : i.op = 61
 · rw [if_pos q61]; exact h61 q61
 rw [if_neg q61]
 by_cases q62 : i.op = 62
 · rw [if_pos q62]; exact h62 q62
 rw [if_neg q62]
 by_cases q63 : i.op = 63
 · rw [if_pos q63]; exact h63 q63
 rw [if_neg q63]
 by_cases q64 : i.op = 64
 · rw [if_pos q64]; exact h64 q64
 rw [if_neg q64]
 by_cases q65 : i.op = 65
 · rw [if_pos q65]; exact h65 q65
 rw [if_neg q65]
 by_cases q70 : i.op = 70
 · rw [if_pos q70]; exact h70 q70
 rw [if_neg q70]
 by_cases q71 : i.op = 71
 · rw [if_pos q71]; exact h71 q71
 rw [if_neg q71]
 by_cases q72 : i.op = 72
 · rw [if_pos q72]; exact h72 q72
 rw [if_neg q72]
 exact hl
end Z
end Go.Proofs.YthfphgjjieddjaaGreat


namespace Go.Proofs.YthfphgjjieddjaaGreat
namespace Z
open Go.RowKit
open T (Sep Ob Kp Mf FlIn boxOb)

section
variable {B : Nat} {W W' : World} {a b : Nat} {P : Pr} {s s' t : Fm} {l : List Ob}
end
end Z
end Go.Proofs.YthfphgjjieddjaaGreat
