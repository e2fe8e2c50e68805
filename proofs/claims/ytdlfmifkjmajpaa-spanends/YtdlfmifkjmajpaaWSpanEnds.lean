/-
  Stage 2, span: the walk of the statement that widening ends.
-/
import Derived.Test.YtdlfmifkjmajpaaSHead
import Derived.Test.YtdlfmifkjmajpaaSPick
import Derived.Test.YtdlfmifkjmajpaaSEndsM
import Derived.Test.YtdlfmifkjmajpaaSOpenS
import Derived.Test.YtdlfmifkjmajpaaSSet
import Derived.Deep.RegionHeld3
import Derived.StillTactics
import Derived.Deep.DeepCutAuto
namespace Go.Proofs.Ytdlfmifkjmajpaa
open Go.RowKit

set_option maxHeartbeats 2000000 in
theorem walk_SpanEnds (p q : Int) (a : Option Addr) (len cap : Nat) (w : World) (hp : W64 p) (hq : W64 q) (hl : SpansIn w a len) (hlen : len ≤ maxLen) :
    Calls Try.prog 3 #[.int .u64 p, .int .u64 q, .slice a len cap] w fun x w' => x = .returned (.bool true) ∧ Below w.heap.size w w' := by
  have hB := Gr.refl w
  have i1 : W64 (minI p q) := by unfold W64 minI at *; split <;> omega
  have i2 : W64 (maxI p q) := by unfold W64 maxI at *; split <;> omega
  have i3 : minI p q ≤ maxI p q := by unfold minI maxI; (repeat' split) <;> omega
  have f1 := fit_any p q
  generalize minI p q = s0 at i1 i3 f1
  generalize maxI p q = s9 at i2 i3 f1
  have ml : (len : Int) ≤ 9223372036854775807 := by unfold maxLen at hlen; omega
  go_enter Try.func3, Try.ntmps3
  go_wp2_with fail
  refine (head_any _).mono ?_
  rintro x w1 ⟨rfl, hG⟩
  replace hB := hB.trans hG
  clear hG
  go_wp2_with fail
  refine (f1 _).mono ?_
  rintro x w2 ⟨rfl, hG⟩
  replace hB := hB.trans hG
  clear hG
  have hww : w.heap.size ≤ w2.heap.size := hB.below.size
  go_wp2_with fail
  go_loopw [9, 10] (fun cn i wr => ∃ (n j : Nat) (s1 s2 : Int), cn = .int .i64 n ∧ i = .int .i64 j ∧ j ≤ len ∧ Hid ((n : Int) + rem s1 s2 ≤ 2) ∧ Hid (s1 ≤ s2 ∧ W64 s1 ∧ W64 s2) ∧ At wr w2.heap.size #[.int .u64 s1, .int .u64 s2] ∧ Gr w wr) (fun _ i _ => len - (intOf i).toNat)
  case atStart => exact ⟨0, 0, s0, s9, rfl, rfl, by omega, (by have := rem_le s0 s9; show (0 : Int) + rem s0 s9 ≤ 2; omega), ⟨i3, i1, i2⟩, At.new _ _ _, hB.alloc _⟩
  case round =>
    clear hB
    obtain ⟨n, j, s1, s2, rfl, rfl, hj, hr, hs, A_s, hB⟩ := hrel
    by_cases hlt : j < len
    · obtain ⟨b, off, x, y, rfl, hb, hx, hy, c0, c1⟩ := hl j hlt
      have we := widen_ends s1 s2 x y hs.out.2.1 hs.out.2.2 hx hy hs.out.1
      have hw := Widen_any s1 s2 x y
      generalize wLo s1 s2 x y = r1 at we hw
      generalize wHi s1 s2 x y = r2 at we hw
      obtain ⟨e1, e2, e3, e4, e5, e6⟩ := we
      have c0' : wr.cell? ⟨b, off + j * 2, none⟩ = some (.int .u64 x) := (hB.below.cell (p := ⟨b, off + j * 2, none⟩) hb).trans c0
      have c1' : wr.cell? ⟨b, off + j * 2 + 1, none⟩ = some (.int .u64 y) := (hB.below.cell (p := ⟨b, off + j * 2 + 1, none⟩) hb).trans c1
      have ⟨z_s, q_s, _⟩ := A_s
      have jl : (j : Int) < len := by omega
      have u1 := Under_any s1 s2 r1 r2
      have u2 := Under_any x y r1 r2
      rw [e4] at u1
      rw [e5] at u2
      have hb2 : w.heap.size ≤ w2.heap.size := hww
      have hbr : b < wr.heap.size := Nat.lt_of_lt_of_le hb hB.below.size
      have M1 := A_s.grown
      have M2 : ∀ l, (grow wr.drew l).cell? ⟨b, off + j * 2, none⟩ = some (.int .u64 x) := fun l => (grow_cell wr.drew l b _ hbr).trans c0'
      have M3 : ∀ l, (grow wr.drew l).cell? ⟨b, off + j * 2 + 1, none⟩ = some (.int .u64 y) := fun l => (grow_cell wr.drew l b _ hbr).trans c1'
      have N1 : ∀ ob o, (wr.drew.alloc ob).cell? ⟨w2.heap.size, o, none⟩ = #[Value.int .u64 s1, Value.int .u64 s2][o]? := fun ob o => (A_s.drew.alloc ob).2.1 o
      have N2 : ∀ ob, (wr.drew.alloc ob).cell? ⟨b, off + j * 2, none⟩ = some (.int .u64 x) := fun ob => (World.cell?_alloc_past ob b _ hbr).trans c0'
      have N3 : ∀ ob, (wr.drew.alloc ob).cell? ⟨b, off + j * 2 + 1, none⟩ = some (.int .u64 y) := fun ob => (World.cell?_alloc_past ob b _ hbr).trans c1'
      have P1 : ∀ ob l o, (grow (wr.drew.alloc ob) l).cell? ⟨w2.heap.size, o, none⟩ = #[Value.int .u64 s1, Value.int .u64 s2][o]? := fun ob l o => ((A_s.drew.alloc ob).gr ⟨l, rfl⟩).2.1 o
      have P2 : ∀ ob l, (grow (wr.drew.alloc ob) l).cell? ⟨b, off + j * 2, none⟩ = some (.int .u64 x) := fun ob l => (grow_cell _ l b _ (by simp; omega)).trans (N2 ob)
      have P3 : ∀ ob l, (grow (wr.drew.alloc ob) l).cell? ⟨b, off + j * 2 + 1, none⟩ = some (.int .u64 y) := fun ob l => (grow_cell _ l b _ (by simp; omega)).trans (N3 ob)
      have Q1 : ∀ ob l o, ((grow wr.drew l).alloc ob).cell? ⟨w2.heap.size, o, none⟩ = #[Value.int .u64 s1, Value.int .u64 s2][o]? := fun ob l o => ((A_s.drew.gr ⟨l, rfl⟩).alloc ob).2.1 o
      have Q2 : ∀ ob l, ((grow wr.drew l).alloc ob).cell? ⟨b, off + j * 2, none⟩ = some (.int .u64 x) := fun ob l => (World.cell?_alloc_past ob b _ (grow_lt wr.drew l b hbr)).trans (M2 l)
      have Q3 : ∀ ob l, ((grow wr.drew l).alloc ob).cell? ⟨b, off + j * 2 + 1, none⟩ = some (.int .u64 y) := fun ob l => (World.cell?_alloc_past ob b _ (grow_lt wr.drew l b hbr)).trans (M3 l)
      have L1 := grow_cell
      have L2 := grow_frozen
      have L3 := grow_set
      have L4 := lt1
      go_upto_region 7 with fail
      go_region_held3 (fun w' => w'.cell? ⟨w2.heap.size, 0, none⟩ = some (.int .u64 s1) ∧ w'.cell? ⟨w2.heap.size, 1, none⟩ = some (.int .u64 s2) ∧ w'.cell? ⟨b, off + j * 2, none⟩ = some (.int .u64 x) ∧ w'.cell? ⟨b, off + j * 2 + 1, none⟩ = some (.int .u64 y)) (simp [go_sem, *]) (first | (go_at_call 11; refine (hw _).mono ?_; rintro x w' ⟨rfl, l, rfl⟩))
      · go_upto_region 8 with fail
        clear M1 M2 M3 N1 N2 N3 P1 P2 P3 Q1 Q2 Q3 L1 L2 L3 L4 q_s z_s
        refine wp_world (fun w5 => ∃ K, K = (grow wr.drew l).heap.size ∧ w2.heap.size < K ∧ At w5 w2.heap.size #[.int .u64 s1, .int .u64 s2] ∧ At w5 K #[.int .u64 r1, .int .u64 r2] ∧ Gr wr w5) ⟨_, rfl, ?_, ?_, ?_, ?_⟩ ?_
        · exact Nat.lt_of_lt_of_le A_s.1 (grow_size wr.drew l)
        · exact (A_s.drew.gr ⟨l, rfl⟩).alloc _
        · exact At.new _ _ _
        · exact (((Gr.refl wr).drew).grow l).alloc _
        rintro w5 ⟨K, hK, hsK, B_s, B_k, hW⟩
        rw [← hK]
        clear hK
        have ⟨z_s, q_s, _⟩ := B_s
        have ⟨z_k, q_k, _⟩ := B_k
        go_wp2_with fail
        refine (u1 _).mono ?_
        rintro x1 w6 ⟨rfl, hG⟩
        clear z_s q_s z_k q_k
        replace B_s : At w6 w2.heap.size #[.int .u64 s1, .int .u64 s2] := B_s.gr hG
        replace B_k : At w6 K #[.int .u64 r1, .int .u64 r2] := B_k.gr hG
        replace hW : Gr wr w6 := hW.trans hG
        clear hG
        have c2 : w6.cell? ⟨b, off + j * 2, none⟩ = some (.int .u64 x) := (hW.below.cell (p := ⟨b, off + j * 2, none⟩) hbr).trans c0'
        have c3 : w6.cell? ⟨b, off + j * 2 + 1, none⟩ = some (.int .u64 y) := (hW.below.cell (p := ⟨b, off + j * 2 + 1, none⟩) hbr).trans c1'
        have hb6 : b < w6.heap.size := Nat.lt_of_lt_of_le hbr hW.below.size
        have M1 := B_k.grown
        have M2 : ∀ l, (grow w6.drew l).cell? ⟨b, off + j * 2, none⟩ = some (.int .u64 x) := fun l => (grow_cell w6.drew l b _ hb6).trans c2
        have M3 : ∀ l, (grow w6.drew l).cell? ⟨b, off + j * 2 + 1, none⟩ = some (.int .u64 y) := fun l => (grow_cell w6.drew l b _ hb6).trans c3
        have ⟨z_k, q_k, _⟩ := B_k
        go_upto_region 9 with fail
        go_region_held3 (fun w' => w'.cell? ⟨K, 0, none⟩ = some (.int .u64 r1) ∧ w'.cell? ⟨K, 1, none⟩ = some (.int .u64 r2) ∧ w'.cell? ⟨b, off + j * 2, none⟩ = some (.int .u64 x) ∧ w'.cell? ⟨b, off + j * 2 + 1, none⟩ = some (.int .u64 y)) (simp [go_sem, *]) (first | (go_at_call 12; refine (u2 _).mono ?_; rintro x2 w' ⟨rfl, l2, rfl⟩))
        all_goals
          go_upto_region 12 with fail
          clear M1 M2 M3 z_k q_k
          refine wp_world (fun w7 => At w7 w2.heap.size #[.int .u64 s1, .int .u64 s2] ∧ At w7 K #[.int .u64 r1, .int .u64 r2] ∧ Gr wr w7) ⟨B_s.drew.gr ⟨_, rfl⟩, B_k.drew.gr ⟨_, rfl⟩, hW.drew.grow _⟩ ?_
          clear B_s B_k hW c2 c3 hb6
          rintro w7 ⟨B_s, B_k, hW⟩
          have ⟨z_s, q_s, f_s⟩ := B_s
          have ⟨z_k, q_k, f_k⟩ := B_k
          have B_n : At ((w7.setCell ⟨w2.heap.size, 0, none⟩ (.int .u64 r1)).setCell ⟨w2.heap.size, 1, none⟩ (.int .u64 r2)) w2.heap.size #[.int .u64 r1, .int .u64 r2] := (B_s.set 0 _ (by simp)).set 1 _ (by simp)
          have G_n : Gr w ((w7.setCell ⟨w2.heap.size, 0, none⟩ (.int .u64 r1)).setCell ⟨w2.heap.size, 1, none⟩ (.int .u64 r2)) := ((hB.trans hW).setCell _ _ _ hb2).setCell _ _ _ hb2
          have BN : Hid (At ((w7.setCell ⟨w2.heap.size, 0, none⟩ (.int .u64 r1)).setCell ⟨w2.heap.size, 1, none⟩ (.int .u64 r2)) w2.heap.size #[.int .u64 r1, .int .u64 r2] ∧ Gr w ((w7.setCell ⟨w2.heap.size, 0, none⟩ (.int .u64 r1)).setCell ⟨w2.heap.size, 1, none⟩ (.int .u64 r2))) := ⟨B_n, G_n⟩
          clear B_n G_n
          have rest := e6
          by_cases k1 : r1 = s1
          · by_cases k2 : r2 = s2
            · have k1' : (r1 == s1) = true := by simp [k1]
              have k2' : (r2 == s2) = true := by simp [k2]
              have hr' : Hid ((n : Int) + rem r1 r2 ≤ 2) := by have := hr.out; rw [k1, k2]; exact this
              clear k1 k2 rest e6
              go_wp2_with fail
              exact ⟨⟨n, j + 1, r1, r2, rfl, by go_num, by omega, hr', ⟨e3, e1, e2⟩, BN.out.1, BN.out.2⟩, by simp [intOf]; omega⟩
            · have k1' : (r1 == s1) = true := by simp [k1]
              have k2' : (r2 == s2) = false := by simp [k2]
              have g := rest.resolve_left (fun h => k2 h.2)
              have n2 : (n : Int) ≤ 2 := by have := hr.out; have := rem_le s1 s2; omega
              have hr' : Hid (((n + 1 : Nat) : Int) + rem r1 r2 ≤ 2) := by have := hr.out; show ((n + 1 : Nat) : Int) + rem r1 r2 ≤ 2; omega
              clear k1 k2 rest e6 g
              go_wp2_with fail
              exact ⟨⟨n + 1, j + 1, r1, r2, by go_num, by go_num, by omega, hr', ⟨e3, e1, e2⟩, BN.out.1, BN.out.2⟩, by simp [intOf]; omega⟩
          · have k1' : (r1 == s1) = false := by simp [k1]
            have g := rest.resolve_left (fun h => k1 h.1)
            have n2 : (n : Int) ≤ 2 := by have := hr.out; have := rem_le s1 s2; omega
            have hr' : Hid (((n + 1 : Nat) : Int) + rem r1 r2 ≤ 2) := by have := hr.out; show ((n + 1 : Nat) : Int) + rem r1 r2 ≤ 2; omega
            clear k1 rest e6 g
            go_wp2_with fail
            exact ⟨⟨n + 1, j + 1, r1, r2, by go_num, by go_num, by omega, hr', ⟨e3, e1, e2⟩, BN.out.1, BN.out.2⟩, by simp [intOf]; omega⟩
      · go_upto_region 8 with fail
        clear M1 M2 M3 N1 N2 N3 P1 P2 P3 Q1 Q2 Q3 L1 L2 L3 L4 q_s z_s
        refine wp_world (fun w5 => ∃ K, K = wr.heap.size ∧ w2.heap.size < K ∧ At w5 w2.heap.size #[.int .u64 s1, .int .u64 s2] ∧ At w5 K #[.int .u64 r1, .int .u64 r2] ∧ Gr wr w5) ⟨_, rfl, ?_, ?_, ?_, ?_⟩ ?_
        · exact A_s.1
        · exact (A_s.drew.alloc _).gr ⟨l, rfl⟩
        · exact (At.new wr.drew _ _).gr ⟨l, rfl⟩
        · exact (((Gr.refl wr).drew).alloc _).grow l
        rintro w5 ⟨K, hK, hsK, B_s, B_k, hW⟩
        rw [← hK]
        clear hK
        have ⟨z_s, q_s, _⟩ := B_s
        have ⟨z_k, q_k, _⟩ := B_k
        go_wp2_with fail
        refine (u1 _).mono ?_
        rintro x1 w6 ⟨rfl, hG⟩
        clear z_s q_s z_k q_k
        replace B_s : At w6 w2.heap.size #[.int .u64 s1, .int .u64 s2] := B_s.gr hG
        replace B_k : At w6 K #[.int .u64 r1, .int .u64 r2] := B_k.gr hG
        replace hW : Gr wr w6 := hW.trans hG
        clear hG
        have c2 : w6.cell? ⟨b, off + j * 2, none⟩ = some (.int .u64 x) := (hW.below.cell (p := ⟨b, off + j * 2, none⟩) hbr).trans c0'
        have c3 : w6.cell? ⟨b, off + j * 2 + 1, none⟩ = some (.int .u64 y) := (hW.below.cell (p := ⟨b, off + j * 2 + 1, none⟩) hbr).trans c1'
        have hb6 : b < w6.heap.size := Nat.lt_of_lt_of_le hbr hW.below.size
        have M1 := B_k.grown
        have M2 : ∀ l, (grow w6.drew l).cell? ⟨b, off + j * 2, none⟩ = some (.int .u64 x) := fun l => (grow_cell w6.drew l b _ hb6).trans c2
        have M3 : ∀ l, (grow w6.drew l).cell? ⟨b, off + j * 2 + 1, none⟩ = some (.int .u64 y) := fun l => (grow_cell w6.drew l b _ hb6).trans c3
        have ⟨z_k, q_k, _⟩ := B_k
        go_upto_region 9 with fail
        go_region_held3 (fun w' => w'.cell? ⟨K, 0, none⟩ = some (.int .u64 r1) ∧ w'.cell? ⟨K, 1, none⟩ = some (.int .u64 r2) ∧ w'.cell? ⟨b, off + j * 2, none⟩ = some (.int .u64 x) ∧ w'.cell? ⟨b, off + j * 2 + 1, none⟩ = some (.int .u64 y)) (simp [go_sem, *]) (first | (go_at_call 12; refine (u2 _).mono ?_; rintro x2 w' ⟨rfl, l2, rfl⟩))
        all_goals
          go_upto_region 12 with fail
          clear M1 M2 M3 z_k q_k
          refine wp_world (fun w7 => At w7 w2.heap.size #[.int .u64 s1, .int .u64 s2] ∧ At w7 K #[.int .u64 r1, .int .u64 r2] ∧ Gr wr w7) ⟨B_s.drew.gr ⟨_, rfl⟩, B_k.drew.gr ⟨_, rfl⟩, hW.drew.grow _⟩ ?_
          clear B_s B_k hW c2 c3 hb6
          rintro w7 ⟨B_s, B_k, hW⟩
          have ⟨z_s, q_s, f_s⟩ := B_s
          have ⟨z_k, q_k, f_k⟩ := B_k
          have B_n : At ((w7.setCell ⟨w2.heap.size, 0, none⟩ (.int .u64 r1)).setCell ⟨w2.heap.size, 1, none⟩ (.int .u64 r2)) w2.heap.size #[.int .u64 r1, .int .u64 r2] := (B_s.set 0 _ (by simp)).set 1 _ (by simp)
          have G_n : Gr w ((w7.setCell ⟨w2.heap.size, 0, none⟩ (.int .u64 r1)).setCell ⟨w2.heap.size, 1, none⟩ (.int .u64 r2)) := ((hB.trans hW).setCell _ _ _ hb2).setCell _ _ _ hb2
          have BN : Hid (At ((w7.setCell ⟨w2.heap.size, 0, none⟩ (.int .u64 r1)).setCell ⟨w2.heap.size, 1, none⟩ (.int .u64 r2)) w2.heap.size #[.int .u64 r1, .int .u64 r2] ∧ Gr w ((w7.setCell ⟨w2.heap.size, 0, none⟩ (.int .u64 r1)).setCell ⟨w2.heap.size, 1, none⟩ (.int .u64 r2))) := ⟨B_n, G_n⟩
          clear B_n G_n
          have rest := e6
          by_cases k1 : r1 = s1
          · by_cases k2 : r2 = s2
            · have k1' : (r1 == s1) = true := by simp [k1]
              have k2' : (r2 == s2) = true := by simp [k2]
              have hr' : Hid ((n : Int) + rem r1 r2 ≤ 2) := by have := hr.out; rw [k1, k2]; exact this
              clear k1 k2 rest e6
              go_wp2_with fail
              exact ⟨⟨n, j + 1, r1, r2, rfl, by go_num, by omega, hr', ⟨e3, e1, e2⟩, BN.out.1, BN.out.2⟩, by simp [intOf]; omega⟩
            · have k1' : (r1 == s1) = true := by simp [k1]
              have k2' : (r2 == s2) = false := by simp [k2]
              have g := rest.resolve_left (fun h => k2 h.2)
              have n2 : (n : Int) ≤ 2 := by have := hr.out; have := rem_le s1 s2; omega
              have hr' : Hid (((n + 1 : Nat) : Int) + rem r1 r2 ≤ 2) := by have := hr.out; show ((n + 1 : Nat) : Int) + rem r1 r2 ≤ 2; omega
              clear k1 k2 rest e6 g
              go_wp2_with fail
              exact ⟨⟨n + 1, j + 1, r1, r2, by go_num, by go_num, by omega, hr', ⟨e3, e1, e2⟩, BN.out.1, BN.out.2⟩, by simp [intOf]; omega⟩
          · have k1' : (r1 == s1) = false := by simp [k1]
            have g := rest.resolve_left (fun h => k1 h.1)
            have n2 : (n : Int) ≤ 2 := by have := hr.out; have := rem_le s1 s2; omega
            have hr' : Hid (((n + 1 : Nat) : Int) + rem r1 r2 ≤ 2) := by have := hr.out; show ((n + 1 : Nat) : Int) + rem r1 r2 ≤ 2; omega
            clear k1 rest e6 g
            go_wp2_with fail
            exact ⟨⟨n + 1, j + 1, r1, r2, by go_num, by go_num, by omega, hr', ⟨e3, e1, e2⟩, BN.out.1, BN.out.2⟩, by simp [intOf]; omega⟩
    · have n2 : (n : Int) ≤ 2 := by have := hr.out; have := rem_le s1 s2; omega
      have n3 : decide ((n : Int) ≤ 2) = true := by simp; omega
      have jl : ¬ (j : Int) < len := by omega
      go_wp2_with fail
      go_ret
      exact ⟨by simp, hB.below⟩
end Go.Proofs.Ytdlfmifkjmajpaa
