/-
  Stage 13, fastvm: what one instruction does.
-/
import Derived.Test.YtijmjmefdedojaaGreatZNew
import Derived.Test.YtijmjmefdedojaaGreatZRunB
namespace Go.Proofs.YtijmjmefdedojaaGreat
namespace Z
open Go.RowKit
open T (Sep Ob Kp Mf FlIn boxOb)

set_option maxHeartbeats 4000000 in
theorem enter_all (op : Int) (h : Named op) (args : Array Value) (w : World) : (callFunc (methF op) args).run Tryz.prog w = .ok (.enter (methF op) args) w := by
  have hc : op = 0 ∨ op = 1 ∨ op = 2 ∨ op = 3 ∨ op = 4 ∨ op = 5 ∨ op = 6 ∨ op = 7 ∨ op = 8 ∨ op = 9 ∨ op = 10 ∨ op = 11 ∨ op = 12 ∨ op = 13 ∨ op = 20 ∨ op = 21 ∨ op = 22 ∨ op = 23 ∨ op = 24 ∨ op = 27 ∨ op = 28 ∨ op = 29 ∨ op = 30 ∨ op = 31 ∨ op = 32 ∨ op = 60 ∨ op = 61 ∨ op = 62 ∨ op = 63 ∨ op = 64 ∨ op = 65 ∨ op = 70 ∨ op = 71 ∨ op = 72 := by unfold Named at h; omega
  clear h
  rcases hc with rfl | rfl | rfl | rfl | rfl | rfl | rfl | rfl | rfl | rfl | rfl | rfl | rfl | rfl | rfl | rfl | rfl | rfl | rfl | rfl | rfl | rfl | rfl | rfl | rfl | rfl | rfl | rfl | rfl | rfl | rfl | rfl | rfl | rfl
  · rw [show methF 0 = 73 from rfl]; simp [go_sem]
  · rw [show methF 1 = 60 from rfl]; simp [go_sem]
  · rw [show methF 2 = 61 from rfl]; simp [go_sem]
  · rw [show methF 3 = 62 from rfl]; simp [go_sem]
  · rw [show methF 4 = 63 from rfl]; simp [go_sem]
  · rw [show methF 5 = 64 from rfl]; simp [go_sem]
  · rw [show methF 6 = 65 from rfl]; simp [go_sem]
  · rw [show methF 7 = 66 from rfl]; simp [go_sem]
  · rw [show methF 8 = 67 from rfl]; simp [go_sem]
  · rw [show methF 9 = 68 from rfl]; simp [go_sem]
  · rw [show methF 10 = 69 from rfl]; simp [go_sem]
  · rw [show methF 11 = 70 from rfl]; simp [go_sem]
  · rw [show methF 12 = 71 from rfl]; simp [go_sem]
  · rw [show methF 13 = 72 from rfl]; simp [go_sem]
  · rw [show methF 20 = 74 from rfl]; simp [go_sem]
  · rw [show methF 21 = 75 from rfl]; simp [go_sem]
  · rw [show methF 22 = 76 from rfl]; simp [go_sem]
  · rw [show methF 23 = 77 from rfl]; simp [go_sem]
  · rw [show methF 24 = 78 from rfl]; simp [go_sem]
  · rw [show methF 27 = 79 from rfl]; simp [go_sem]
  · rw [show methF 28 = 80 from rfl]; simp [go_sem]
  · rw [show methF 29 = 81 from rfl]; simp [go_sem]
  · rw [show methF 30 = 82 from rfl]; simp [go_sem]
  · rw [show methF 31 = 83 from rfl]; simp [go_sem]
  · rw [show methF 32 = 84 from rfl]; simp [go_sem]
  · rw [show methF 60 = 85 from rfl]; simp [go_sem]
  · rw [show methF 61 = 86 from rfl]; simp [go_sem]
  · rw [show methF 62 = 87 from rfl]; simp [go_sem]
  · rw [show methF 63 = 88 from rfl]; simp [go_sem]
  · rw [show methF 64 = 89 from rfl]; simp [go_sem]
  · rw [show methF 65 = 90 from rfl]; simp [go_sem]
  · rw [show methF 70 = 91 from rfl]; simp [go_sem]
  · rw [show methF 71 = 92 from rfl]; simp [go_sem]
  · rw [show methF 72 = 93 from rfl]; simp [go_sem]
theorem goes_of {P : Pr} {s s' : Fm} (i : Fi) (hg : s.g < P.code.length) (hp : s.p < P.code[s.g].length) (hi : P.code[s.g][s.p] = i) (hn : Named i.op) (hI : ∀ B V a l, MIn B V a P s l → Calls Tryz.prog (methF i.op) #[.agg #[.int .u8 i.op, .int .i64 i.a, .int .i64 i.b, .int .i64 i.c, .int .u64 i.i], .pointer (some ⟨a, 0, none⟩)] V fun x w' => x = .returned (.tuple #[]) ∧ MIn B w' a P s' l ∧ Below B V w') : Goes P s s' := by
  subst hi
  exact fun B W a l h => do_ok B W a P s l s' h hg hp (enter_all _ hn) (fun V hV => hI B V a l hV)
set_option maxRecDepth 100000 in
set_option maxHeartbeats 4000000 in
theorem touches_any (B : Nat) (W : World) (a : Nat) (P : Pr) (s : Fm) (l : List Ob) (h : MIn B W a P s l) (hl : s.tc.length ≤ 1000000) :
    Calls Tryz.prog 11 #[.pointer (some ⟨a, 0, none⟩)] W fun x w' => ∃ v, x = .returned v ∧ w'.ownsRow W.heap.size 49 3 v s.tc.length (s.tc.flatMap Tc.vals) ∧ Below W.heap.size W w' := by
  have hcl : ∃ v0, W.cell? ⟨a, 25, none⟩ = some v0 ∧ Calls Tryz.prog 26 #[v0] W fun x w' => ∃ v, x = .returned v ∧ w'.ownsRow W.heap.size 49 3 v s.tc.length (s.tc.flatMap Tc.vals) ∧ Below W.heap.size W w' := by
    obtain ⟨⟨q, h1⟩, le⟩ := h
    have hb := h1.ins (bxOb a (bxOf P s q)) (by simp [obs])
    have hO : W.ownsRow B 49 3 q.tv s.tc.length (s.tc.flatMap Tc.vals) := h1.ins (tcOb B q.tv s.tc) (by simp [obs])
    refine ⟨_, hb.at_ 25 (by omega), ?_⟩
    show Calls Tryz.prog _ #[q.tv] W _
    have hlt := hO.lt
    rcases hO.2 with ⟨e1, e2⟩ | ⟨g, cap, cur, e1, hbb, hg, hc1, hc2, hc3, hc4⟩
    · rw [e1]
      refine (clnil_tcs W).mono ?_
      rintro x w' ⟨rfl, rfl⟩
      have hx := hO.1
      rw [e2, Nat.zero_mul] at hx
      rw [e2, List.length_eq_zero_iff.1 hx]
      exact ⟨_, rfl, World.ownsRow_nil _ _ _ _, Below.refl _ _⟩
    · rw [e1]
      refine clone_tcs g 0 s.tc.length cap (s.tc.flatMap Tc.vals) W (hlt g (by rw [e1]; rfl)).2 hO.1 (fun j u hj => ?_) (fun u hu => by
      obtain ⟨y, _, hy⟩ := List.mem_flatMap.1 hu
      simp only [Tc.vals, List.mem_cons, List.not_mem_nil, or_false] at hy
      rcases hy with rfl | rfl | rfl <;> rfl) hl
      have hjl : j < s.tc.length * 3 := by have := (List.getElem?_eq_some_iff.1 hj).1; rwa [hO.1] at this
      rw [← hc4, List.getElem?_take_of_lt hjl] at hj
      have : W.cell? ⟨g, 0 + j, none⟩ = cur[j]? := by simp [World.cell?, hg]
      rw [this, ← hj]
      simp
  obtain ⟨v0, c0, hcl⟩ := hcl
  replace hcl := Hz.mk hcl
  replace h := Hz.mk h
  go_enter Tryz.func11, Tryz.ntmps11
  go_wp2_with fail
  refine hcl.out.mono ?_
  rintro x w' ⟨v, rfl, h1, h2⟩
  replace h1 := Hz.mk h1
  replace h2 := Hz.mk h2
  go_wp2_with fail
  go_ret
  exact ⟨_, rfl, h1.out, h2.out⟩
set_option maxRecDepth 100000 in
set_option maxHeartbeats 4000000 in
theorem out_any (B : Nat) (W : World) (a : Nat) (P : Pr) (s : Fm) (l : List Ob) (h : MIn B W a P s l) (hl : s.out.length ≤ 1000000) :
    Calls Tryz.prog 10 #[.pointer (some ⟨a, 0, none⟩)] W fun x w' => ∃ v, x = .returned v ∧ w'.ownsRow W.heap.size 25 1 v s.out.length (s.out.map u64I) ∧ Below W.heap.size W w' := by
  have hcl : ∃ v0, W.cell? ⟨a, 24, none⟩ = some v0 ∧ Calls Tryz.prog 25 #[v0] W fun x w' => ∃ v, x = .returned v ∧ w'.ownsRow W.heap.size 25 1 v s.out.length (s.out.map u64I) ∧ Below W.heap.size W w' := by
    obtain ⟨⟨q, h1⟩, le⟩ := h
    have hb := h1.ins (bxOb a (bxOf P s q)) (by simp [obs])
    have hO : W.ownsRow B 25 1 q.ov_ s.out.length (s.out.map u64I) := h1.ins (ouOb B q.ov_ s.out) (by simp [obs])
    refine ⟨_, hb.at_ 24 (by omega), ?_⟩
    show Calls Tryz.prog _ #[q.ov_] W _
    have hlt := hO.lt
    rcases hO.2 with ⟨e1, e2⟩ | ⟨g, cap, cur, e1, hbb, hg, hc1, hc2, hc3, hc4⟩
    · rw [e1]
      refine (clnil_u64 W).mono ?_
      rintro x w' ⟨rfl, rfl⟩
      have hx := hO.1
      rw [e2, Nat.zero_mul] at hx
      rw [e2, List.length_eq_zero_iff.1 hx]
      exact ⟨_, rfl, World.ownsRow_nil _ _ _ _, Below.refl _ _⟩
    · rw [e1]
      refine clone_u64 g 0 s.out.length cap (s.out.map u64I) W (hlt g (by rw [e1]; rfl)).2 hO.1 (fun j u hj => ?_) (fun u hu => by
      obtain ⟨y, _, rfl⟩ := List.mem_map.1 hu
      rfl) hl
      have hjl : j < s.out.length * 1 := by have := (List.getElem?_eq_some_iff.1 hj).1; rwa [hO.1] at this
      rw [← hc4, List.getElem?_take_of_lt hjl] at hj
      have : W.cell? ⟨g, 0 + j, none⟩ = cur[j]? := by simp [World.cell?, hg]
      rw [this, ← hj]
      simp
  obtain ⟨v0, c0, hcl⟩ := hcl
  replace hcl := Hz.mk hcl
  replace h := Hz.mk h
  go_enter Tryz.func10, Tryz.ntmps10
  go_wp2_with fail
  refine hcl.out.mono ?_
  rintro x w' ⟨v, rfl, h1, h2⟩
  replace h1 := Hz.mk h1
  replace h2 := Hz.mk h2
  go_wp2_with fail
  go_ret
  exact ⟨_, rfl, h1.out, h2.out⟩
end Z
end Go.Proofs.YtijmjmefdedojaaGreat
