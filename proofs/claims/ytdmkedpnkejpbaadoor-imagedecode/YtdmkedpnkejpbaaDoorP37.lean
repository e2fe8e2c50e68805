import Derived.Test.YtdmkedpnkejpbaaDoorP36
import Derived.Test.YtdmkedpnkejpbaaDoorP06
/-
  Stage 3, instr: the document's find, within.
-/
namespace Go.Proofs.YtdmkedpnkejpbaaDoor
open Go.RowKit

theorem flat3 {α β : Type} (f g h : α → β) : ∀ (l : List α) (k : Nat), (l.map fun r => [f r, g r, h r]).flatten[k * 3]? = l[k]?.map f ∧ (l.map fun r => [f r, g r, h r]).flatten[k * 3 + 1]? = l[k]?.map g ∧ (l.map fun r => [f r, g r, h r]).flatten[k * 3 + 2]? = l[k]?.map h
  | [], k => by simp
  | r :: l, 0 => by simp
  | r :: l, k + 1 => by
    have := flat3 f g h l k
    have e : ∀ j, (List.map (fun r => [f r, g r, h r]) (r :: l)).flatten[(k + 1) * 3 + j]? = (List.map (fun r => [f r, g r, h r]) l).flatten[k * 3 + j]? := fun j => by
      have e2 : (k + 1) * 3 + j = (k * 3 + j) + 1 + 1 + 1 := by omega
      rw [e2]; simp
    refine ⟨?_, ?_, ?_⟩
    · have := e 0; simp only [Nat.add_zero] at this; rw [this]; simpa using (flat3 f g h l k).1
    · rw [e 1]; simpa using (flat3 f g h l k).2.1
    · rw [e 2]; simpa using (flat3 f g h l k).2.2
theorem row_at (k : Nat) (hk : k < 52) : rowCells[k * 3]? = some (.int .u8 (docRow k).1) ∧ rowCells[k * 3 + 1]? = some (.string (str (docRow k).2.1)) ∧ rowCells[k * 3 + 2]? = some (.string (str (docRow k).2.2)) := by
  have h := flat3 (fun r : Int × List UInt8 × List UInt8 => Value.int .u8 r.1) (fun r => Value.string (str r.2.1)) (fun r => Value.string (str r.2.2)) docL k
  have hl : k < docL.length := by rw [docL_len]; exact hk
  have e : docL[k]? = some (docRow k) := by simp [docRow, List.getD_eq_getElem?_getD, hl]
  rw [e] at h
  unfold rowCells
  simpa using h
theorem drop_docL {k : Nat} (hk : k < 52) : docL.drop k = docRow k :: docL.drop (k + 1) := by
  have hl : k < docL.length := by rw [docL_len]; exact hk
  rw [List.drop_eq_getElem_cons hl]
  simp [docRow, List.getD_eq_getElem?_getD, hl]
theorem find_here {op : Int} {k : Nat} (hk : k < 52) (h : (docRow k).1 = op) : findAt op (docL.drop k) k = k := by
  rw [drop_docL hk, findAt, if_pos h]
theorem find_next {op : Int} {k : Nat} (hk : k < 52) (h : ¬ (docRow k).1 = op) : findAt op (docL.drop k) k = findAt op (docL.drop (k + 1)) (k + 1) := by
  rw [drop_docL hk, findAt, if_neg h]
theorem find_end {op : Int} {k : Nat} (hk : ¬ k < 52) : findAt op (docL.drop k) k = -1 := by
  have : docL.drop k = [] := by rw [List.drop_eq_nil_iff, docL_len]; omega
  rw [this]; rfl
theorem findF_range (op : Int) : findF op = -1 ∨ (0 ≤ findF op ∧ findF op < 52) := by
  have : ∀ (l : List (Int × List UInt8 × List UInt8)) (k : Nat), findAt op l k = -1 ∨ (k ≤ findAt op l k ∧ findAt op l k < k + l.length) := by
    intro l
    induction l with
    | nil => intro k; exact Or.inl rfl
    | cons r l ih =>
      intro k
      rw [findAt]
      split
      · right; simp; omega
      · rcases ih (k + 1) with h | h
        · exact Or.inl h
        · right; simp; omega
  have := this docL 0
  rw [docL_len] at this
  simpa [findF] using this
theorem ret_int {k : IntKind} {a b : Int} (h : a = b) : Ending.returned (.int k a) = .returned (.int k b) := by rw [h]
theorem ret_str {a b : List UInt8} (h : a = b) : Ending.returned (.string (str a)) = .returned (.string (str b)) := by rw [h]
set_option maxHeartbeats 400000 in
theorem find_any (op : Int) (w : World) :
    Calls Tryd.prog 84 #[.int .u8 op] w fun x w' => x = .returned (.int .i64 (findF op)) ∧ Gr w w' := by
  go_enter Tryd.func84, Tryd.ntmps84
  go_wp2_with (go_at_call 85; refine (Rows_any _).mono ?_; rintro x w' ⟨rfl, rfl⟩)
  go_loop [4] (fun i => ∃ k : Nat, i = .int .i64 k ∧ k ≤ 52 ∧ Hid (findAt op (docL.drop k) k = findF op)) (fun i => 52 - (intOf i).toNat)
  case atStart => exact ⟨0, rfl, by omega, ⟨rfl⟩⟩
  case round =>
    obtain ⟨k, rfl, hk, hf⟩ := hrel
    by_cases hlt : k < 52
    · have c : ∀ t, (w.alloc (.cells rowCells t)).cell? ⟨w.heap.size, k * 3, none⟩ = some (.int .u8 (docRow k).1) := fun t => (World.cell?_alloc_new w rowCells t (k * 3)).trans (row_at k hlt).1
      have kl : (k : Int) < 52 := by omega
      by_cases he : (docRow k).1 = op
      · have g : ((docRow k).1 == op) = true := by simpa using he
        rw [find_here hlt he] at hf
        replace he := Hid.mk he
        generalize (docRow k).1 = y at *
        go_wp2_with fail
        go_ret
        exact ⟨ret_int hf.out, (Gr.refl w).alloc _⟩
      · have g : ((docRow k).1 == op) = false := by simpa using he
        rw [find_next hlt he] at hf
        replace he := Hid.mk he
        generalize (docRow k).1 = y at *
        go_wp2_with fail
        go_round
        case rel => exact ⟨k + 1, by simp, by omega, hf⟩
        case measure => simp [intOf]; omega
    · have kl : ¬ (k : Int) < 52 := by omega
      rw [find_end hlt] at hf
      go_wp2_with fail
      go_ret
      exact ⟨ret_int hf.out, (Gr.refl w).alloc _⟩

set_option maxHeartbeats 400000 in
theorem within_any (n a b : Int) (w : World) :
    Calls Tryd.prog 86 #[.int .i64 n, .int .i64 a, .int .i64 b] w fun x w' => x = .returned (.bool (decide (a ≤ n) && decide (n ≤ b))) ∧ w = w' := by
  by_cases h : a ≤ n
  · have g : decide (a ≤ n) = true := by simpa using h
    go_enter Tryd.func86, Tryd.ntmps86
    go_wp2_with fail
    go_ret
    exact ⟨ret_bool (by simp [g]), rfl⟩
  · have g : decide (a ≤ n) = false := by simpa using h
    go_enter Tryd.func86, Tryd.ntmps86
    go_wp2_with fail
    go_ret
    exact ⟨ret_bool (by simp), rfl⟩
end Go.Proofs.YtdmkedpnkejpbaaDoor


/-
  Stage 3, instr: the document's Right.
-/
namespace Go.Proofs.YtdmkedpnkejpbaaDoor
open Go.RowKit

theorem rR_step (op a b c m : Int) (l : UInt8) (r : List UInt8) (n n' : Int) (imm code ok imm' code' : Bool) (one : Bool)
    (hn : (if (l.toNat : Int) = 114 then n + 1 else n) = n') (hi : (imm || immD op l.toNat) = imm') (hc : (code || codeD op l.toNat) = code') (ho : oneD op l.toNat n a b c m = one) :
    rR op a b c m (l :: r) n imm code ok = rR op a b c m r n' imm' code' (ok && one) := by
  subst hn hi hc ho; rfl
theorem regAt_cell (n a b c : Int) (h0 : 0 ≤ n) (h1 : n < 3) : #[Value.int .i64 a, Value.int .i64 b, Value.int .i64 c][n.toNat]? = some (.int .i64 (regAt n a b c)) := by
  have : n = 0 ∨ n = 1 ∨ n = 2 := by omega
  rcases this with rfl | rfl | rfl <;> rfl
theorem tail_step (n a b c : Int) (code ok : Bool) (h0 : 0 ≤ n) (h1 : n < 3) : tailD n a b c code ok = tailD (n + 1) a b c code (ok && (decide (regAt n a b c = 0) || (decide (n = 2) && code))) := by
  have : n = 0 ∨ n = 1 ∨ n = 2 := by omega
  rcases this with rfl | rfl | rfl <;> cases ok <;> cases code <;> simp [tailD, regAt]
theorem tail_end (n a b c : Int) (code ok : Bool) (h : 3 ≤ n) : tailD n a b c code ok = ok := by
  have h0 : 0 < n := by omega
  have h1 : 1 < n := by omega
  have h2 : 2 < n := by omega
  simp [tailD, h0, h1, h2]
set_option maxRecDepth 100000 in
set_option maxHeartbeats 4000000 in
theorem refRight_any (op a b c m : Int) (w : World) (h0 : 0 ≤ op) (h1 : op < 256) :
    Calls Tryd.prog 67 #[.agg #[.int .u8 op, .int .i64 a, .int .i64 b, .int .i64 c, .int .i64 m]] w fun x w' => x = .returned (.int .i64 (rightD op a b c m)) ∧ Gr w w' := by
  have hr := findF_range op
  have hsh := shape_in op h1
  rw [← shape_doc op h0 h1] at hsh
  unfold rightD
  unfold docShape at hsh
  by_cases hn : findF op < 0
  · rw [if_pos hn]
    have g : decide (findF op < 0) = true := by simpa using hn
    go_enter Tryd.func67, Tryd.ntmps67
    go_wp2_with (first | (go_at_call 84; refine (find_any _ _).mono ?_; rintro x w' ⟨rfl, hG⟩))
    go_ret
    exact ⟨rfl, hG.of_alloc⟩
  · rw [if_neg hn]
    rw [if_neg hn] at hsh
    obtain ⟨hl3, -⟩ := letters_small _ hsh
    clear hsh
    have g : decide (findF op < 0) = false := by simpa using hn
    have h0' : 0 ≤ findF op := by omega
    have h1' : (findF op).toNat < 52 := by omega
    have h2' : findF op < 52 := by omega
    have ra := (row_at _ h1').2.2
    have e : (((findF op).toNat : Nat) : Int) = findF op := Int.toNat_of_nonneg h0'
    rw [e] at ra
    have ce : ∀ (W : World) t, (W.alloc (.cells rowCells t)).cell? ⟨W.heap.size, (findF op).toNat * 3 + 2, none⟩ = some (.string (str (docRow (findF op)).2.2)) := fun W t => (World.cell?_alloc_new W rowCells t _).trans ra
    clear ra e h1' hr
    replace hn := Hid.mk hn
    generalize (docRow (findF op)).2.2 = s at *
    generalize hk : findF op = fo at *
    have hfi := find_any op
    rw [hk] at hfi
    clear hk
    go_enter Tryd.func67, Tryd.ntmps67
    go_upto_region 4 with (first | (go_at_call 84; refine (hfi _).mono ?_; rintro x w1 ⟨rfl, hG⟩))
    have A1 : At w1 w.heap.size #[.int .u8 op, .int .i64 a, .int .i64 b, .int .i64 c, .int .i64 m] := (At.new w _ _).gr hG
    refine wp_world (fun W => Gr w W ∧ At W w.heap.size #[.int .u8 op, .int .i64 a, .int .i64 b, .int .i64 c, .int .i64 m]) ⟨hG.of_alloc, A1⟩ ?_
    clear A1 hG
    rintro W ⟨hG, A1⟩
    have hlt : w.heap.size < W.heap.size := A1.1
    have q0 : ∀ o, W.cell? ⟨w.heap.size, o, none⟩ = #[Value.int .u8 op, .int .i64 a, .int .i64 b, .int .i64 c, .int .i64 m][o]? := A1.2.1
    go_upto_region 10 with (first | (go_at_call 85; refine (Rows_any _).mono ?_; rintro x w' ⟨rfl, rfl⟩))
    refine wp_world (fun V => Gr w V ∧ At V w.heap.size #[.int .u8 op, .int .i64 a, .int .i64 b, .int .i64 c, .int .i64 m] ∧ At V (W.heap.size + 1) #[.int .i64 a, .int .i64 b, .int .i64 c]) ⟨(hG.alloc _).alloc _, (A1.alloc _).alloc _, At.next W _ _ _⟩ ?_
    clear hG A1 q0 ce hfi
    rintro V ⟨hG, A1, A2⟩
    have q0 : ∀ o, V.cell? ⟨w.heap.size, o, none⟩ = #[Value.int .u8 op, .int .i64 a, .int .i64 b, .int .i64 c, .int .i64 m][o]? := A1.2.1
    have q1 : ∀ o, V.cell? ⟨W.heap.size + 1, o, none⟩ = #[Value.int .i64 a, .int .i64 b, .int .i64 c][o]? := A2.2.1
    have ss := str_size s
    generalize W.heap.size + 1 = kr at *
    go_wp2_with fail
    go_loop [6, 7, 8, 9, 10] (fun n i cd ok k => ∃ (n0 : Int) (i0 cd0 ok0 : Bool) (k0 : Nat), n = .int .i64 n0 ∧ i = .bool i0 ∧ cd = .bool cd0 ∧ ok = .bool ok0 ∧ k = .int .i64 k0 ∧ 0 ≤ n0 ∧ n0 ≤ k0 ∧ k0 ≤ s.length ∧ Hid (rR op a b c m (s.drop k0) n0 i0 cd0 ok0 = rR op a b c m s 0 false false true)) (fun _ _ _ _ k => s.length - (intOf k).toNat)
    case atStart => exact ⟨0, false, false, true, 0, rfl, rfl, rfl, rfl, rfl, by omega, by omega, by omega, ⟨rfl⟩⟩
    case round =>
      obtain ⟨n0, i0, cd0, ok0, k0, rfl, rfl, rfl, rfl, rfl, hn0, hnk, hkl, hf⟩ := hrel
      by_cases hlt' : k0 < s.length
      · obtain ⟨l, hl⟩ : ∃ l, s[k0] = l := ⟨_, rfl⟩
        obtain ⟨L, hL⟩ : ∃ L, (l.toNat : Int) = L := ⟨_, rfl⟩
        have ix : ∀ h, ((((str s)[k0]'h).toNat : Nat) : Int) = L := fun h => by rw [str_at s k0 h hlt', hl, hL]
        obtain ⟨r', hr', hr2⟩ := drop_cons (s := s) (pos := k0) rfl hlt'
        rw [hl] at hr'
        rw [hr'] at hf
        clear hr'
        have hr3 := Hid.mk hr2
        clear hr2
        have n3 : n0 < 3 := by omega
        clear hl
        have lt1 : (k0 : Int) < s.length := by omega
        by_cases e114 : (l.toNat : Int) = 114
        · have st := rR_step op a b c m l r' n0 (n0 + 1) i0 cd0 ok0 i0 cd0 (decide (0 ≤ regAt n0 a b c) && decide (regAt n0 a b c ≤ 15)) (by rw [if_pos e114]) (by simp [immD, e114]) (by simp [codeD, e114]) (by simp [oneD, e114])
          rw [st] at hf
          clear st
          have b114 : ((l.toNat : Int) == 114) = true := by simpa using e114
          have rc : ∀ (W : World), W.cell? ⟨kr, n0.toNat, none⟩ = #[Value.int .i64 a, .int .i64 b, .int .i64 c][n0.toNat]? → W.cell? ⟨kr, n0.toNat, none⟩ = some (.int .i64 (regAt n0 a b c)) := fun W h => h.trans (regAt_cell n0 a b c hn0 n3)
          replace rc := rc V (q1 _)
          clear q1
          generalize regAt n0 a b c = y at *
          rw [hL] at b114 e114
          replace hL := Hid.mk hL
          replace e114 := Hid.mk e114
          cases ok0
          · go_wp2_with (go_at_call 86; refine (within_any _ _ _ _).mono ?_; rintro x w' ⟨rfl, rfl⟩)
            go_round
            case rel => exact ⟨(n0 + 1), i0, cd0, false, k0 + 1, rfl, rfl, rfl, rfl, by simp, by omega, by omega, by omega, ⟨by rw [hr3.out]; exact hf.out⟩⟩
            case measure => simp [intOf]; omega
          · go_wp2_with (go_at_call 86; refine (within_any _ _ _ _).mono ?_; rintro x w' ⟨rfl, rfl⟩)
            go_round
            case rel => exact ⟨(n0 + 1), i0, cd0, (decide (0 ≤ y) && decide (y ≤ 15)), k0 + 1, rfl, rfl, rfl, rfl, by simp, by omega, by omega, by omega, ⟨by rw [hr3.out]; exact hf.out⟩⟩
            case measure => simp [intOf]; omega
        · skip
          by_cases e105 : (l.toNat : Int) = 105
          · by_cases p70 : op = 70
            · have st := rR_step op a b c m l r' n0 n0 i0 cd0 ok0 true cd0 (decide (0 ≤ m) && decide (m ≤ 2147483647)) (by rw [if_neg e114]) (by simp [immD, e105, p70]) (by simp [codeD, e105, p70]) (by simp [oneD, e105, p70])
              rw [st] at hf
              clear st
              have b114 : ((l.toNat : Int) == 114) = false := by simpa using e114
              have b105 : ((l.toNat : Int) == 105) = true := by simpa using e105
              have c70 : (op == 70) = true := by simpa using p70
              rw [hL] at b114 b105 e114 e105
              replace hL := Hid.mk hL
              replace e114 := Hid.mk e114
              replace e105 := Hid.mk e105
              replace p70 := Hid.mk p70
              cases ok0
              · go_wp2_with (go_at_call 86; refine (within_any _ _ _ _).mono ?_; rintro x w' ⟨rfl, rfl⟩)
                go_round
                case rel => exact ⟨n0, true, cd0, false, k0 + 1, rfl, rfl, rfl, rfl, by simp, by omega, by omega, by omega, ⟨by rw [hr3.out]; exact hf.out⟩⟩
                case measure => simp [intOf]; omega
              · go_wp2_with (go_at_call 86; refine (within_any _ _ _ _).mono ?_; rintro x w' ⟨rfl, rfl⟩)
                go_round
                case rel => exact ⟨n0, true, cd0, (decide (0 ≤ m) && decide (m ≤ 2147483647)), k0 + 1, rfl, rfl, rfl, rfl, by simp, by omega, by omega, by omega, ⟨by rw [hr3.out]; exact hf.out⟩⟩
                case measure => simp [intOf]; omega
            · by_cases p71 : op = 71
              · have st := rR_step op a b c m l r' n0 n0 i0 cd0 ok0 true cd0 (decide (0 ≤ m) && decide (m ≤ 2147483647)) (by rw [if_neg e114]) (by simp [immD, e105, p71]) (by simp [codeD, e105, p71]) (by simp [oneD, e105, p71])
                rw [st] at hf
                clear st
                have b114 : ((l.toNat : Int) == 114) = false := by simpa using e114
                have b105 : ((l.toNat : Int) == 105) = true := by simpa using e105
                have c70 : (op == 70) = false := by simpa using p70
                have c71 : (op == 71) = true := by simpa using p71
                rw [hL] at b114 b105 e114 e105
                replace hL := Hid.mk hL
                replace e114 := Hid.mk e114
                replace e105 := Hid.mk e105
                replace p70 := Hid.mk p70
                replace p71 := Hid.mk p71
                cases ok0
                · go_wp2_with (go_at_call 86; refine (within_any _ _ _ _).mono ?_; rintro x w' ⟨rfl, rfl⟩)
                  go_round
                  case rel => exact ⟨n0, true, cd0, false, k0 + 1, rfl, rfl, rfl, rfl, by simp, by omega, by omega, by omega, ⟨by rw [hr3.out]; exact hf.out⟩⟩
                  case measure => simp [intOf]; omega
                · go_wp2_with (go_at_call 86; refine (within_any _ _ _ _).mono ?_; rintro x w' ⟨rfl, rfl⟩)
                  go_round
                  case rel => exact ⟨n0, true, cd0, (decide (0 ≤ m) && decide (m ≤ 2147483647)), k0 + 1, rfl, rfl, rfl, rfl, by simp, by omega, by omega, by omega, ⟨by rw [hr3.out]; exact hf.out⟩⟩
                  case measure => simp [intOf]; omega
              · have st := rR_step op a b c m l r' n0 n0 i0 cd0 ok0 true cd0 (decide (-2147483648 ≤ m) && decide (m ≤ 2147483647)) (by rw [if_neg e114]) (by simp [immD, e105]) (by simp [codeD, e105]) (by simp [oneD, e105, p70, p71])
                rw [st] at hf
                clear st
                have b114 : ((l.toNat : Int) == 114) = false := by simpa using e114
                have b105 : ((l.toNat : Int) == 105) = true := by simpa using e105
                have c70 : (op == 70) = false := by simpa using p70
                have c71 : (op == 71) = false := by simpa using p71
                rw [hL] at b114 b105 e114 e105
                replace hL := Hid.mk hL
                replace e114 := Hid.mk e114
                replace e105 := Hid.mk e105
                replace p70 := Hid.mk p70
                replace p71 := Hid.mk p71
                cases ok0
                · go_wp2_with (go_at_call 86; refine (within_any _ _ _ _).mono ?_; rintro x w' ⟨rfl, rfl⟩)
                  go_round
                  case rel => exact ⟨n0, true, cd0, false, k0 + 1, rfl, rfl, rfl, rfl, by simp, by omega, by omega, by omega, ⟨by rw [hr3.out]; exact hf.out⟩⟩
                  case measure => simp [intOf]; omega
                · go_wp2_with (go_at_call 86; refine (within_any _ _ _ _).mono ?_; rintro x w' ⟨rfl, rfl⟩)
                  go_round
                  case rel => exact ⟨n0, true, cd0, (decide (-2147483648 ≤ m) && decide (m ≤ 2147483647)), k0 + 1, rfl, rfl, rfl, rfl, by simp, by omega, by omega, by omega, ⟨by rw [hr3.out]; exact hf.out⟩⟩
                  case measure => simp [intOf]; omega
          · skip
            by_cases e110 : (l.toNat : Int) = 110
            · have st := rR_step op a b c m l r' n0 n0 i0 cd0 ok0 true cd0 (decide (0 ≤ m) && decide (m ≤ 65536)) (by rw [if_neg e114]) (by simp [immD, e110]) (by simp [codeD, e110]) (by simp [oneD, e110])
              rw [st] at hf
              clear st
              have b114 : ((l.toNat : Int) == 114) = false := by simpa using e114
              have b105 : ((l.toNat : Int) == 105) = false := by simpa using e105
              have b110 : ((l.toNat : Int) == 110) = true := by simpa using e110
              rw [hL] at b114 b105 b110 e114 e105 e110
              replace hL := Hid.mk hL
              replace e114 := Hid.mk e114
              replace e105 := Hid.mk e105
              replace e110 := Hid.mk e110
              cases ok0
              · go_wp2_with (go_at_call 86; refine (within_any _ _ _ _).mono ?_; rintro x w' ⟨rfl, rfl⟩)
                go_round
                case rel => exact ⟨n0, true, cd0, false, k0 + 1, rfl, rfl, rfl, rfl, by simp, by omega, by omega, by omega, ⟨by rw [hr3.out]; exact hf.out⟩⟩
                case measure => simp [intOf]; omega
              · go_wp2_with (go_at_call 86; refine (within_any _ _ _ _).mono ?_; rintro x w' ⟨rfl, rfl⟩)
                go_round
                case rel => exact ⟨n0, true, cd0, (decide (0 ≤ m) && decide (m ≤ 65536)), k0 + 1, rfl, rfl, rfl, rfl, by simp, by omega, by omega, by omega, ⟨by rw [hr3.out]; exact hf.out⟩⟩
                case measure => simp [intOf]; omega
            · skip
              by_cases e112 : (l.toNat : Int) = 112
              · have st := rR_step op a b c m l r' n0 n0 i0 cd0 ok0 true cd0 (decide (0 ≤ m) && decide (m ≤ 127)) (by rw [if_neg e114]) (by simp [immD, e112]) (by simp [codeD, e112]) (by simp [oneD, e112])
                rw [st] at hf
                clear st
                have b114 : ((l.toNat : Int) == 114) = false := by simpa using e114
                have b105 : ((l.toNat : Int) == 105) = false := by simpa using e105
                have b110 : ((l.toNat : Int) == 110) = false := by simpa using e110
                have b112 : ((l.toNat : Int) == 112) = true := by simpa using e112
                rw [hL] at b114 b105 b110 b112 e114 e105 e110 e112
                replace hL := Hid.mk hL
                replace e114 := Hid.mk e114
                replace e105 := Hid.mk e105
                replace e110 := Hid.mk e110
                replace e112 := Hid.mk e112
                cases ok0
                · go_wp2_with (go_at_call 86; refine (within_any _ _ _ _).mono ?_; rintro x w' ⟨rfl, rfl⟩)
                  go_round
                  case rel => exact ⟨n0, true, cd0, false, k0 + 1, rfl, rfl, rfl, rfl, by simp, by omega, by omega, by omega, ⟨by rw [hr3.out]; exact hf.out⟩⟩
                  case measure => simp [intOf]; omega
                · go_wp2_with (go_at_call 86; refine (within_any _ _ _ _).mono ?_; rintro x w' ⟨rfl, rfl⟩)
                  go_round
                  case rel => exact ⟨n0, true, cd0, (decide (0 ≤ m) && decide (m ≤ 127)), k0 + 1, rfl, rfl, rfl, rfl, by simp, by omega, by omega, by omega, ⟨by rw [hr3.out]; exact hf.out⟩⟩
                  case measure => simp [intOf]; omega
              · skip
                by_cases e115 : (l.toNat : Int) = 115
                · have st := rR_step op a b c m l r' n0 n0 i0 cd0 ok0 true cd0 (decide (0 ≤ m) && decide (m ≤ 15)) (by rw [if_neg e114]) (by simp [immD, e115]) (by simp [codeD, e115]) (by simp [oneD, e115])
                  rw [st] at hf
                  clear st
                  have b114 : ((l.toNat : Int) == 114) = false := by simpa using e114
                  have b105 : ((l.toNat : Int) == 105) = false := by simpa using e105
                  have b110 : ((l.toNat : Int) == 110) = false := by simpa using e110
                  have b112 : ((l.toNat : Int) == 112) = false := by simpa using e112
                  have b115 : ((l.toNat : Int) == 115) = true := by simpa using e115
                  rw [hL] at b114 b105 b110 b112 b115 e114 e105 e110 e112 e115
                  replace hL := Hid.mk hL
                  replace e114 := Hid.mk e114
                  replace e105 := Hid.mk e105
                  replace e110 := Hid.mk e110
                  replace e112 := Hid.mk e112
                  replace e115 := Hid.mk e115
                  cases ok0
                  · go_wp2_with (go_at_call 86; refine (within_any _ _ _ _).mono ?_; rintro x w' ⟨rfl, rfl⟩)
                    go_round
                    case rel => exact ⟨n0, true, cd0, false, k0 + 1, rfl, rfl, rfl, rfl, by simp, by omega, by omega, by omega, ⟨by rw [hr3.out]; exact hf.out⟩⟩
                    case measure => simp [intOf]; omega
                  · go_wp2_with (go_at_call 86; refine (within_any _ _ _ _).mono ?_; rintro x w' ⟨rfl, rfl⟩)
                    go_round
                    case rel => exact ⟨n0, true, cd0, (decide (0 ≤ m) && decide (m ≤ 15)), k0 + 1, rfl, rfl, rfl, rfl, by simp, by omega, by omega, by omega, ⟨by rw [hr3.out]; exact hf.out⟩⟩
                    case measure => simp [intOf]; omega
                · skip
                  by_cases e116 : (l.toNat : Int) = 116
                  · have st := rR_step op a b c m l r' n0 n0 i0 cd0 ok0 true cd0 (decide (0 ≤ m) && decide (m ≤ 2147483647)) (by rw [if_neg e114]) (by simp [immD, e116]) (by simp [codeD, e116]) (by simp [oneD, e116])
                    rw [st] at hf
                    clear st
                    have b114 : ((l.toNat : Int) == 114) = false := by simpa using e114
                    have b105 : ((l.toNat : Int) == 105) = false := by simpa using e105
                    have b110 : ((l.toNat : Int) == 110) = false := by simpa using e110
                    have b112 : ((l.toNat : Int) == 112) = false := by simpa using e112
                    have b115 : ((l.toNat : Int) == 115) = false := by simpa using e115
                    have b116 : ((l.toNat : Int) == 116) = true := by simpa using e116
                    rw [hL] at b114 b105 b110 b112 b115 b116 e114 e105 e110 e112 e115 e116
                    replace hL := Hid.mk hL
                    replace e114 := Hid.mk e114
                    replace e105 := Hid.mk e105
                    replace e110 := Hid.mk e110
                    replace e112 := Hid.mk e112
                    replace e115 := Hid.mk e115
                    replace e116 := Hid.mk e116
                    cases ok0
                    · go_wp2_with (go_at_call 86; refine (within_any _ _ _ _).mono ?_; rintro x w' ⟨rfl, rfl⟩)
                      go_round
                      case rel => exact ⟨n0, true, cd0, false, k0 + 1, rfl, rfl, rfl, rfl, by simp, by omega, by omega, by omega, ⟨by rw [hr3.out]; exact hf.out⟩⟩
                      case measure => simp [intOf]; omega
                    · go_wp2_with (go_at_call 86; refine (within_any _ _ _ _).mono ?_; rintro x w' ⟨rfl, rfl⟩)
                      go_round
                      case rel => exact ⟨n0, true, cd0, (decide (0 ≤ m) && decide (m ≤ 2147483647)), k0 + 1, rfl, rfl, rfl, rfl, by simp, by omega, by omega, by omega, ⟨by rw [hr3.out]; exact hf.out⟩⟩
                      case measure => simp [intOf]; omega
                  · skip
                    by_cases e103 : (l.toNat : Int) = 103
                    · have st := rR_step op a b c m l r' n0 n0 i0 cd0 ok0 true cd0 (decide (0 ≤ m) && decide (m ≤ 2147483647)) (by rw [if_neg e114]) (by simp [immD, e103]) (by simp [codeD, e103]) (by simp [oneD, e103])
                      rw [st] at hf
                      clear st
                      have b114 : ((l.toNat : Int) == 114) = false := by simpa using e114
                      have b105 : ((l.toNat : Int) == 105) = false := by simpa using e105
                      have b110 : ((l.toNat : Int) == 110) = false := by simpa using e110
                      have b112 : ((l.toNat : Int) == 112) = false := by simpa using e112
                      have b115 : ((l.toNat : Int) == 115) = false := by simpa using e115
                      have b116 : ((l.toNat : Int) == 116) = false := by simpa using e116
                      have b103 : ((l.toNat : Int) == 103) = true := by simpa using e103
                      rw [hL] at b114 b105 b110 b112 b115 b116 b103 e114 e105 e110 e112 e115 e116 e103
                      replace hL := Hid.mk hL
                      replace e114 := Hid.mk e114
                      replace e105 := Hid.mk e105
                      replace e110 := Hid.mk e110
                      replace e112 := Hid.mk e112
                      replace e115 := Hid.mk e115
                      replace e116 := Hid.mk e116
                      replace e103 := Hid.mk e103
                      cases ok0
                      · go_wp2_with (go_at_call 86; refine (within_any _ _ _ _).mono ?_; rintro x w' ⟨rfl, rfl⟩)
                        go_round
                        case rel => exact ⟨n0, true, cd0, false, k0 + 1, rfl, rfl, rfl, rfl, by simp, by omega, by omega, by omega, ⟨by rw [hr3.out]; exact hf.out⟩⟩
                        case measure => simp [intOf]; omega
                      · go_wp2_with (go_at_call 86; refine (within_any _ _ _ _).mono ?_; rintro x w' ⟨rfl, rfl⟩)
                        go_round
                        case rel => exact ⟨n0, true, cd0, (decide (0 ≤ m) && decide (m ≤ 2147483647)), k0 + 1, rfl, rfl, rfl, rfl, by simp, by omega, by omega, by omega, ⟨by rw [hr3.out]; exact hf.out⟩⟩
                        case measure => simp [intOf]; omega
                    · skip
                      by_cases e99 : (l.toNat : Int) = 99
                      · by_cases p28 : op = 28
                        · have st := rR_step op a b c m l r' n0 n0 i0 cd0 ok0 true cd0 (decide (0 ≤ m) && decide (m ≤ 255)) (by rw [if_neg e114]) (by simp [immD, e99, p28]) (by simp [codeD, e99, p28]) (by simp [oneD, e99, p28])
                          rw [st] at hf
                          clear st
                          have b114 : ((l.toNat : Int) == 114) = false := by simpa using e114
                          have b105 : ((l.toNat : Int) == 105) = false := by simpa using e105
                          have b110 : ((l.toNat : Int) == 110) = false := by simpa using e110
                          have b112 : ((l.toNat : Int) == 112) = false := by simpa using e112
                          have b115 : ((l.toNat : Int) == 115) = false := by simpa using e115
                          have b116 : ((l.toNat : Int) == 116) = false := by simpa using e116
                          have b103 : ((l.toNat : Int) == 103) = false := by simpa using e103
                          have b99 : ((l.toNat : Int) == 99) = true := by simpa using e99
                          have c28 : (op == 28) = true := by simpa using p28
                          rw [hL] at b114 b105 b110 b112 b115 b116 b103 b99 e114 e105 e110 e112 e115 e116 e103 e99
                          replace hL := Hid.mk hL
                          replace e114 := Hid.mk e114
                          replace e105 := Hid.mk e105
                          replace e110 := Hid.mk e110
                          replace e112 := Hid.mk e112
                          replace e115 := Hid.mk e115
                          replace e116 := Hid.mk e116
                          replace e103 := Hid.mk e103
                          replace e99 := Hid.mk e99
                          replace p28 := Hid.mk p28
                          cases ok0
                          · go_wp2_with (go_at_call 86; refine (within_any _ _ _ _).mono ?_; rintro x w' ⟨rfl, rfl⟩)
                            go_round
                            case rel => exact ⟨n0, true, cd0, false, k0 + 1, rfl, rfl, rfl, rfl, by simp, by omega, by omega, by omega, ⟨by rw [hr3.out]; exact hf.out⟩⟩
                            case measure => simp [intOf]; omega
                          · go_wp2_with (go_at_call 86; refine (within_any _ _ _ _).mono ?_; rintro x w' ⟨rfl, rfl⟩)
                            go_round
                            case rel => exact ⟨n0, true, cd0, (decide (0 ≤ m) && decide (m ≤ 255)), k0 + 1, rfl, rfl, rfl, rfl, by simp, by omega, by omega, by omega, ⟨by rw [hr3.out]; exact hf.out⟩⟩
                            case measure => simp [intOf]; omega
                        · have st := rR_step op a b c m l r' n0 n0 i0 cd0 ok0 i0 true (decide (0 ≤ c) && decide (c ≤ 255)) (by rw [if_neg e114]) (by simp [immD, e99, p28]) (by simp [codeD, e99, p28]) (by simp [oneD, e99, p28])
                          rw [st] at hf
                          clear st
                          have b114 : ((l.toNat : Int) == 114) = false := by simpa using e114
                          have b105 : ((l.toNat : Int) == 105) = false := by simpa using e105
                          have b110 : ((l.toNat : Int) == 110) = false := by simpa using e110
                          have b112 : ((l.toNat : Int) == 112) = false := by simpa using e112
                          have b115 : ((l.toNat : Int) == 115) = false := by simpa using e115
                          have b116 : ((l.toNat : Int) == 116) = false := by simpa using e116
                          have b103 : ((l.toNat : Int) == 103) = false := by simpa using e103
                          have b99 : ((l.toNat : Int) == 99) = true := by simpa using e99
                          have c28 : (op == 28) = false := by simpa using p28
                          rw [hL] at b114 b105 b110 b112 b115 b116 b103 b99 e114 e105 e110 e112 e115 e116 e103 e99
                          replace hL := Hid.mk hL
                          replace e114 := Hid.mk e114
                          replace e105 := Hid.mk e105
                          replace e110 := Hid.mk e110
                          replace e112 := Hid.mk e112
                          replace e115 := Hid.mk e115
                          replace e116 := Hid.mk e116
                          replace e103 := Hid.mk e103
                          replace e99 := Hid.mk e99
                          replace p28 := Hid.mk p28
                          cases ok0
                          · go_wp2_with (go_at_call 86; refine (within_any _ _ _ _).mono ?_; rintro x w' ⟨rfl, rfl⟩)
                            go_round
                            case rel => exact ⟨n0, i0, true, false, k0 + 1, rfl, rfl, rfl, rfl, by simp, by omega, by omega, by omega, ⟨by rw [hr3.out]; exact hf.out⟩⟩
                            case measure => simp [intOf]; omega
                          · go_wp2_with (go_at_call 86; refine (within_any _ _ _ _).mono ?_; rintro x w' ⟨rfl, rfl⟩)
                            go_round
                            case rel => exact ⟨n0, i0, true, (decide (0 ≤ c) && decide (c ≤ 255)), k0 + 1, rfl, rfl, rfl, rfl, by simp, by omega, by omega, by omega, ⟨by rw [hr3.out]; exact hf.out⟩⟩
                            case measure => simp [intOf]; omega
                      · skip
                        have st := rR_step op a b c m l r' n0 n0 i0 cd0 ok0 i0 cd0 true (by rw [if_neg e114]) (by simp [immD, e105, e110, e112, e115, e116, e103, e99]) (by simp [codeD, e99]) (by simp [oneD, e114, e105, e110, e112, e115, e116, e103, e99])
                        rw [st] at hf
                        clear st
                        have b114 : ((l.toNat : Int) == 114) = false := by simpa using e114
                        have b105 : ((l.toNat : Int) == 105) = false := by simpa using e105
                        have b110 : ((l.toNat : Int) == 110) = false := by simpa using e110
                        have b112 : ((l.toNat : Int) == 112) = false := by simpa using e112
                        have b115 : ((l.toNat : Int) == 115) = false := by simpa using e115
                        have b116 : ((l.toNat : Int) == 116) = false := by simpa using e116
                        have b103 : ((l.toNat : Int) == 103) = false := by simpa using e103
                        have b99 : ((l.toNat : Int) == 99) = false := by simpa using e99
                        rw [hL] at b114 b105 b110 b112 b115 b116 b103 b99 e114 e105 e110 e112 e115 e116 e103 e99
                        replace hL := Hid.mk hL
                        replace e114 := Hid.mk e114
                        replace e105 := Hid.mk e105
                        replace e110 := Hid.mk e110
                        replace e112 := Hid.mk e112
                        replace e115 := Hid.mk e115
                        replace e116 := Hid.mk e116
                        replace e103 := Hid.mk e103
                        replace e99 := Hid.mk e99
                        cases ok0
                        · go_wp2_with (go_at_call 86; refine (within_any _ _ _ _).mono ?_; rintro x w' ⟨rfl, rfl⟩)
                          go_round
                          case rel => exact ⟨n0, i0, cd0, false, k0 + 1, rfl, rfl, rfl, rfl, by simp, by omega, by omega, by omega, ⟨by rw [hr3.out]; exact hf.out⟩⟩
                          case measure => simp [intOf]; omega
                        · go_wp2_with (go_at_call 86; refine (within_any _ _ _ _).mono ?_; rintro x w' ⟨rfl, rfl⟩)
                          go_round
                          case rel => exact ⟨n0, i0, cd0, true, k0 + 1, rfl, rfl, rfl, rfl, by simp, by omega, by omega, by omega, ⟨by rw [hr3.out]; exact hf.out⟩⟩
                          case measure => simp [intOf]; omega
      · have ge1 : decide ((k0 : Int) < s.length) = false := by simp; omega
        have hd : s.drop k0 = [] := by rw [List.drop_eq_nil_iff]; omega
        rw [hd] at hf
        clear hd
        have n3 : n0 ≤ 3 := by omega
        go_wp2_with fail
        go_loop [9, 12] (fun ok j => ∃ (ok1 : Bool) (j1 : Int), ok = .bool ok1 ∧ j = .int .i64 j1 ∧ 0 ≤ j1 ∧ j1 ≤ 3 ∧ Hid (tailD j1 a b c cd0 ok1 = tailD n0 a b c cd0 ok0)) (fun _ j => 3 - (intOf j).toNat)
        case atStart => exact ⟨ok0, n0, rfl, rfl, hn0, n3, ⟨rfl⟩⟩
        case round =>
          obtain ⟨ok1, j1, rfl, rfl, hj0, hj3, ht⟩ := hrel
          by_cases hj : j1 < 3
          · have rc : V.cell? ⟨kr, j1.toNat, none⟩ = some (.int .i64 (regAt j1 a b c)) := (q1 _).trans (regAt_cell j1 a b c hj0 hj)
            rw [tail_step j1 a b c cd0 ok1 hj0 hj] at ht
            clear q1
            have hj' : decide (j1 < 3) = true := by simpa using hj
            generalize regAt j1 a b c = y at *
            cases ok1
            · go_wp2_with fail
              go_round
              case rel => exact ⟨false, j1 + 1, rfl, by simp, by omega, by omega, ht⟩
              case measure => simp [intOf]; omega
            · by_cases hy : y = 0
              · have y0 : (y == 0) = true := by simpa using hy
                have e : decide (y = 0) = true := by simpa using hy
                rw [e] at ht
                replace hy := Hid.mk hy
                clear e
                go_wp2_with fail
                go_round
                case rel => exact ⟨true, j1 + 1, rfl, by simp, by omega, by omega, ht⟩
                case measure => simp [intOf]; omega
              · have y0 : (y == 0) = false := by simpa using hy
                have e : decide (y = 0) = false := by simpa using hy
                rw [e] at ht
                replace hy := Hid.mk hy
                clear e
                by_cases h2 : j1 = 2
                · have j2 : (j1 == 2) = true := by simpa using h2
                  have e : decide (j1 = 2) = true := by simpa using h2
                  rw [e] at ht
                  replace h2 := Hid.mk h2
                  clear e
                  go_wp2_with fail
                  go_round
                  case rel => exact ⟨cd0, j1 + 1, rfl, by simp, by omega, by omega, ht⟩
                  case measure => simp [intOf]; omega
                · have j2 : (j1 == 2) = false := by simpa using h2
                  have e : decide (j1 = 2) = false := by simpa using h2
                  rw [e] at ht
                  replace h2 := Hid.mk h2
                  clear e
                  go_wp2_with fail
                  go_round
                  case rel => exact ⟨false, j1 + 1, rfl, by simp, by omega, by omega, ht⟩
                  case measure => simp [intOf]; omega
          · have hj' : decide (j1 < 3) = false := by simpa using hj
            rw [tail_end j1 a b c cd0 ok1 (by omega)] at ht
            have fin : (ok1 && (i0 || decide (m = 0))) = rR op a b c m s 0 false false true := by rw [ht.out]; exact hf.out
            clear ht hf q1
            replace fin := Hid.mk fin
            cases ok1
            · go_wp2_with fail
              go_ret
              exact ⟨ret_int (a := 32) (by rw [← fin.out]; rfl), hG⟩
            · cases i0
              · by_cases hm : m = 0
                · have m0 : (m != 0) = false := by simpa using hm
                  have fin2 : true = rR op a b c m s 0 false false true := by rw [← fin.out]; simp [hm]
                  replace hm := Hid.mk hm
                  replace fin2 := Hid.mk fin2
                  go_wp2_with fail
                  go_ret
                  exact ⟨ret_int (a := 0) (by rw [← fin2.out]; rfl), hG⟩
                · have m0 : (m != 0) = true := by simpa using hm
                  have fin2 : false = rR op a b c m s 0 false false true := by rw [← fin.out]; simp [hm]
                  replace hm := Hid.mk hm
                  replace fin2 := Hid.mk fin2
                  go_wp2_with fail
                  go_ret
                  exact ⟨ret_int (a := 32) (by rw [← fin2.out]; rfl), hG⟩
              · go_wp2_with fail
                go_ret
                exact ⟨ret_int (a := 0) (by rw [← fin.out]; rfl), hG⟩
end Go.Proofs.YtdmkedpnkejpbaaDoor
