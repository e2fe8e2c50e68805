import Derived.Test.YtmmakknhaacplaaGreatDoorP29
import Derived.Test.YtmmakknhaacplaaGreatDoorP28
import Derived.Test.YtmmakknhaacplaaGreatDoorP15
import Derived.OrdersHeld
/-
  Stage 3, instr: the document's Right.
-/
namespace Go.Proofs.YtmmakknhaacplaaGreatDoor
open Go.RowKit

theorem rR_step (op a b c m : Int) (l : UInt8) (r : List UInt8) (n n' : Int) (imm code ok imm' code' : Bool) (one : Bool)
    (hn : (if (l.toNat : Int) = 114 then n + 1 else n) = n') (hi : (imm || immD op l.toNat) = imm') (hc : (code || codeD op l.toNat) = code') (ho : oneD op l.toNat n a b c m = one) :
    rR op a b c m (l :: r) n imm code ok = rR op a b c m r n' imm' code' (ok && one) := by
  subst hn hi hc ho; rfl
theorem regAt_cell (n a b c : Int) (h0 : 0 ≤ n) (h1 : n < 3) : #[Value.int .i64 a, Value.int .i64 b, Value.int .i64 c][n.toNat]? = some (.int .i64 (regAt n a b c)) := by
  have : n = 0 ∨ n = 1 ∨ n = 2 := by omega
  rcases this with rfl | rfl | rfl <;> rfl
theorem tail_step (n a b c : Int) (code ok : Bool) (h0 : 0 ≤ n) (h1 : n < 3) : tailD n a b c code ok = tailD (n + 1) a b c code (ok && (decide (regAt n a b c = 0) || (decide (n = 2) && code))) := by
  have : n = 0 ∨ n = 1 ∨ n = 2 := by omega
  rcases this with rfl | rfl | rfl <;> cases ok <;> cases code <;> simp [tailD, regAt]
theorem tail_end (n a b c : Int) (code ok : Bool) (h : 3 ≤ n) : tailD n a b c code ok = ok := by
  have h0 : 0 < n := by omega
  have h1 : 1 < n := by omega
  have h2 : 2 < n := by omega
  simp [tailD, h0, h1, h2]
set_option maxRecDepth 100000 in
set_option maxHeartbeats 4000000 in
theorem refRight_any (op a b c m : Int) (w : World) (h0 : 0 ≤ op) (h1 : op < 256) :
    Calls Tryz.prog 44 #[.agg #[.int .u8 op, .int .i64 a, .int .i64 b, .int .i64 c, .int .i64 m]] w fun x w' => x = .returned (.int .i64 (rightD op a b c m)) ∧ Gr w w' := by
  have hr := findF_range op
  have hsh := shape_in op h1
  rw [← shape_doc op h0 h1] at hsh
  unfold rightD
  unfold docShape at hsh
  by_cases hn : findF op < 0
  · rw [if_pos hn]
    have g : decide (findF op < 0) = true := by simpa using hn
    go_enter Tryz.func44, Tryz.ntmps44
    go_wp2_with (first | (go_at_call 66; refine (find_any _ _).mono ?_; rintro x w' ⟨rfl, hG⟩))
    go_ret
    exact ⟨rfl, hG.of_alloc⟩
  · rw [if_neg hn]
    rw [if_neg hn] at hsh
    obtain ⟨hl3, -⟩ := letters_small _ hsh
    clear hsh
    have g : decide (findF op < 0) = false := by simpa using hn
    have h0' : 0 ≤ findF op := by omega
    have h1' : (findF op).toNat < 52 := by omega
    have h2' : findF op < 52 := by omega
    have ra := (row_at _ h1').2.2
    have e : (((findF op).toNat : Nat) : Int) = findF op := Int.toNat_of_nonneg h0'
    rw [e] at ra
    have ce : ∀ (W : World) t, (W.alloc (.cells rowCells t)).cell? ⟨W.heap.size, (findF op).toNat * 3 + 2, none⟩ = some (.string (str (docRow (findF op)).2.2)) := fun W t => (World.cell?_alloc_new W rowCells t _).trans ra
    clear ra e h1' hr
    replace hn := Hid.mk hn
    generalize (docRow (findF op)).2.2 = s at *
    generalize hk : findF op = fo at *
    have hfi := find_any op
    rw [hk] at hfi
    clear hk
    go_enter Tryz.func44, Tryz.ntmps44
    go_upto_region 4 with (first | (go_at_call 66; refine (hfi _).mono ?_; rintro x w1 ⟨rfl, hG⟩))
    have A1 : At w1 w.heap.size #[.int .u8 op, .int .i64 a, .int .i64 b, .int .i64 c, .int .i64 m] := (At.new w _ _).gr hG
    refine wp_world (fun W => Gr w W ∧ At W w.heap.size #[.int .u8 op, .int .i64 a, .int .i64 b, .int .i64 c, .int .i64 m]) ⟨hG.of_alloc, A1⟩ ?_
    clear A1 hG
    rintro W ⟨hG, A1⟩
    have hlt : w.heap.size < W.heap.size := A1.1
    have q0 : ∀ o, W.cell? ⟨w.heap.size, o, none⟩ = #[Value.int .u8 op, .int .i64 a, .int .i64 b, .int .i64 c, .int .i64 m][o]? := A1.2.1
    go_upto_region 10 with (first | (go_at_call 67; refine (Rows_any _).mono ?_; rintro x w' ⟨rfl, rfl⟩))
    refine wp_world (fun V => Gr w V ∧ At V w.heap.size #[.int .u8 op, .int .i64 a, .int .i64 b, .int .i64 c, .int .i64 m] ∧ At V (W.heap.size + 1) #[.int .i64 a, .int .i64 b, .int .i64 c]) ⟨(hG.alloc _).alloc _, (A1.alloc _).alloc _, At.next W _ _ _⟩ ?_
    clear hG A1 q0 ce hfi
    rintro V ⟨hG, A1, A2⟩
    have q0 : ∀ o, V.cell? ⟨w.heap.size, o, none⟩ = #[Value.int .u8 op, .int .i64 a, .int .i64 b, .int .i64 c, .int .i64 m][o]? := A1.2.1
    have q1 : ∀ o, V.cell? ⟨W.heap.size + 1, o, none⟩ = #[Value.int .i64 a, .int .i64 b, .int .i64 c][o]? := A2.2.1
    have ss := str_size s
    generalize W.heap.size + 1 = kr at *
    go_wp2_with fail
    go_loop [6, 7, 8, 9, 10] (fun n i cd ok k => ∃ (n0 : Int) (i0 cd0 ok0 : Bool) (k0 : Nat), n = .int .i64 n0 ∧ i = .bool i0 ∧ cd = .bool cd0 ∧ ok = .bool ok0 ∧ k = .int .i64 k0 ∧ 0 ≤ n0 ∧ n0 ≤ k0 ∧ k0 ≤ s.length ∧ Hid (rR op a b c m (s.drop k0) n0 i0 cd0 ok0 = rR op a b c m s 0 false false true)) (fun _ _ _ _ k => s.length - (intOf k).toNat)
    case atStart => exact ⟨0, false, false, true, 0, rfl, rfl, rfl, rfl, rfl, by omega, by omega, by omega, ⟨rfl⟩⟩
    case round =>
      obtain ⟨n0, i0, cd0, ok0, k0, rfl, rfl, rfl, rfl, rfl, hn0, hnk, hkl, hf⟩ := hrel
      by_cases hlt' : k0 < s.length
      · obtain ⟨l, hl⟩ : ∃ l, s[k0] = l := ⟨_, rfl⟩
        obtain ⟨L, hL⟩ : ∃ L, (l.toNat : Int) = L := ⟨_, rfl⟩
        have ix : ∀ h, ((((str s)[k0]'h).toNat : Nat) : Int) = L := fun h => by rw [str_at s k0 h hlt', hl, hL]
        obtain ⟨r', hr', hr2⟩ := drop_cons (s := s) (pos := k0) rfl hlt'
        rw [hl] at hr'
        rw [hr'] at hf
        clear hr'
        have hr3 := Hid.mk hr2
        clear hr2
        have n3 : n0 < 3 := by omega
        clear hl
        have lt1 : (k0 : Int) < s.length := by omega
        by_cases e114 : (l.toNat : Int) = 114
        · have st := rR_step op a b c m l r' n0 (n0 + 1) i0 cd0 ok0 i0 cd0 (decide (0 ≤ regAt n0 a b c) && decide (regAt n0 a b c ≤ 15)) (by rw [if_pos e114]) (by simp [immD, e114]) (by simp [codeD, e114]) (by simp [oneD, e114])
          rw [st] at hf
          clear st
          have b114 : ((l.toNat : Int) == 114) = true := by simpa using e114
          have rc : ∀ (W : World), W.cell? ⟨kr, n0.toNat, none⟩ = #[Value.int .i64 a, .int .i64 b, .int .i64 c][n0.toNat]? → W.cell? ⟨kr, n0.toNat, none⟩ = some (.int .i64 (regAt n0 a b c)) := fun W h => h.trans (regAt_cell n0 a b c hn0 n3)
          replace rc := rc V (q1 _)
          clear q1
          generalize regAt n0 a b c = y at *
          rw [hL] at b114 e114
          replace hL := Hid.mk hL
          replace e114 := Hid.mk e114
          cases ok0
          · go_wp2_with (go_at_call 68; refine (within_any _ _ _ _).mono ?_; rintro x w' ⟨rfl, rfl⟩)
            go_round
            case rel => exact ⟨(n0 + 1), i0, cd0, false, k0 + 1, rfl, rfl, rfl, rfl, by simp, by omega, by omega, by omega, ⟨by rw [hr3.out]; exact hf.out⟩⟩
            case measure => simp [intOf]; omega
          · go_wp2_with (go_at_call 68; refine (within_any _ _ _ _).mono ?_; rintro x w' ⟨rfl, rfl⟩)
            go_round
            case rel => exact ⟨(n0 + 1), i0, cd0, (decide (0 ≤ y) && decide (y ≤ 15)), k0 + 1, rfl, rfl, rfl, rfl, by simp, by omega, by omega, by omega, ⟨by rw [hr3.out]; exact hf.out⟩⟩
            case measure => simp [intOf]; omega
        · skip
          by_cases e105 : (l.toNat : Int) = 105
          · by_cases p70 : op = 70
            · have st := rR_step op a b c m l r' n0 n0 i0 cd0 ok0 true cd0 (decide (0 ≤ m) && decide (m ≤ 2147483647)) (by rw [if_neg e114]) (by simp [immD, e105, p70]) (by simp [codeD, e105, p70]) (by simp [oneD, e105, p70])
              rw [st] at hf
              clear st
              have b114 : ((l.toNat : Int) == 114) = false := by simpa using e114
              have b105 : ((l.toNat : Int) == 105) = true := by simpa using e105
              have c70 : (op == 70) = true := by simpa using p70
              rw [hL] at b114 b105 e114 e105
              replace hL := Hid.mk hL
              replace e114 := Hid.mk e114
              replace e105 := Hid.mk e105
              replace p70 := Hid.mk p70
              cases ok0
              · go_wp2_with (go_at_call 68; refine (within_any _ _ _ _).mono ?_; rintro x w' ⟨rfl, rfl⟩)
                go_round
                case rel => exact ⟨n0, true, cd0, false, k0 + 1, rfl, rfl, rfl, rfl, by simp, by omega, by omega, by omega, ⟨by rw [hr3.out]; exact hf.out⟩⟩
                case measure => simp [intOf]; omega
              · go_wp2_with (go_at_call 68; refine (within_any _ _ _ _).mono ?_; rintro x w' ⟨rfl, rfl⟩)
                go_round
                case rel => exact ⟨n0, true, cd0, (decide (0 ≤ m) && decide (m ≤ 2147483647)), k0 + 1, rfl, rfl, rfl, rfl, by simp, by omega, by omega, by omega, ⟨by rw [hr3.out]; exact hf.out⟩⟩
                case measure => simp [intOf]; omega
            · by_cases p71 : op = 71
              · have st := rR_step op a b c m l r' n0 n0 i0 cd0 ok0 true cd0 (decide (0 ≤ m) && decide (m ≤ 2147483647)) (by rw [if_neg e114]) (by simp [immD, e105, p71]) (by simp [codeD, e105, p71]) (by simp [oneD, e105, p71])
                rw [st] at hf
                clear st
                have b114 : ((l.toNat : Int) == 114) = false := by simpa using e114
                have b105 : ((l.toNat : Int) == 105) = true := by simpa using e105
                have c70 : (op == 70) = false := by simpa using p70
                have c71 : (op == 71) = true := by simpa using p71
                rw [hL] at b114 b105 e114 e105
                replace hL := Hid.mk hL
                replace e114 := Hid.mk e114
                replace e105 := Hid.mk e105
                replace p70 := Hid.mk p70
                replace p71 := Hid.mk p71
                cases ok0
                · go_wp2_with (go_at_call 68; refine (within_any _ _ _ _).mono ?_; rintro x w' ⟨rfl, rfl⟩)
                  go_round
                  case rel => exact ⟨n0, true, cd0, false, k0 + 1, rfl, rfl, rfl, rfl, by simp, by omega, by omega, by omega, ⟨by rw [hr3.out]; exact hf.out⟩⟩
                  case measure => simp [intOf]; omega
                · go_wp2_with (go_at_call 68; refine (within_any _ _ _ _).mono ?_; rintro x w' ⟨rfl, rfl⟩)
                  go_round
                  case rel => exact ⟨n0, true, cd0, (decide (0 ≤ m) && decide (m ≤ 2147483647)), k0 + 1, rfl, rfl, rfl, rfl, by simp, by omega, by omega, by omega, ⟨by rw [hr3.out]; exact hf.out⟩⟩
                  case measure => simp [intOf]; omega
              · have st := rR_step op a b c m l r' n0 n0 i0 cd0 ok0 true cd0 (decide (-2147483648 ≤ m) && decide (m ≤ 2147483647)) (by rw [if_neg e114]) (by simp [immD, e105]) (by simp [codeD, e105]) (by simp [oneD, e105, p70, p71])
                rw [st] at hf
                clear st
                have b114 : ((l.toNat : Int) == 114) = false := by simpa using e114
                have b105 : ((l.toNat : Int) == 105) = true := by simpa using e105
                have c70 : (op == 70) = false := by simpa using p70
                have c71 : (op == 71) = false := by simpa using p71
                rw [hL] at b114 b105 e114 e105
                replace hL := Hid.mk hL
                replace e114 := Hid.mk e114
                replace e105 := Hid.mk e105
                replace p70 := Hid.mk p70
                replace p71 := Hid.mk p71
                cases ok0
                · go_wp2_with (go_at_call 68; refine (within_any _ _ _ _).mono ?_; rintro x w' ⟨rfl, rfl⟩)
                  go_round
                  case rel => exact ⟨n0, true, cd0, false, k0 + 1, rfl, rfl, rfl, rfl, by simp, by omega, by omega, by omega, ⟨by rw [hr3.out]; exact hf.out⟩⟩
                  case measure => simp [intOf]; omega
                · go_wp2_with (go_at_call 68; refine (within_any _ _ _ _).mono ?_; rintro x w' ⟨rfl, rfl⟩)
                  go_round
                  case rel => exact ⟨n0, true, cd0, (decide (-2147483648 ≤ m) && decide (m ≤ 2147483647)), k0 + 1, rfl, rfl, rfl, rfl, by simp, by omega, by omega, by omega, ⟨by rw [hr3.out]; exact hf.out⟩⟩
                  case measure => simp [intOf]; omega
          · skip
            by_cases e110 : (l.toNat : Int) = 110
            · have st := rR_step op a b c m l r' n0 n0 i0 cd0 ok0 true cd0 (decide (0 ≤ m) && decide (m ≤ 65536)) (by rw [if_neg e114]) (by simp [immD, e110]) (by simp [codeD, e110]) (by simp [oneD, e110])
              rw [st] at hf
              clear st
              have b114 : ((l.toNat : Int) == 114) = false := by simpa using e114
              have b105 : ((l.toNat : Int) == 105) = false := by simpa using e105
              have b110 : ((l.toNat : Int) == 110) = true := by simpa using e110
              rw [hL] at b114 b105 b110 e114 e105 e110
              replace hL := Hid.mk hL
              replace e114 := Hid.mk e114
              replace e105 := Hid.mk e105
              replace e110 := Hid.mk e110
              cases ok0
              · go_wp2_with (go_at_call 68; refine (within_any _ _ _ _).mono ?_; rintro x w' ⟨rfl, rfl⟩)
                go_round
                case rel => exact ⟨n0, true, cd0, false, k0 + 1, rfl, rfl, rfl, rfl, by simp, by omega, by omega, by omega, ⟨by rw [hr3.out]; exact hf.out⟩⟩
                case measure => simp [intOf]; omega
              · go_wp2_with (go_at_call 68; refine (within_any _ _ _ _).mono ?_; rintro x w' ⟨rfl, rfl⟩)
                go_round
                case rel => exact ⟨n0, true, cd0, (decide (0 ≤ m) && decide (m ≤ 65536)), k0 + 1, rfl, rfl, rfl, rfl, by simp, by omega, by omega, by omega, ⟨by rw [hr3.out]; exact hf.out⟩⟩
                case measure => simp [intOf]; omega
            · skip
              by_cases e112 : (l.toNat : Int) = 112
              · have st := rR_step op a b c m l r' n0 n0 i0 cd0 ok0 true cd0 (decide (0 ≤ m) && decide (m ≤ 127)) (by rw [if_neg e114]) (by simp [immD, e112]) (by simp [codeD, e112]) (by simp [oneD, e112])
                rw [st] at hf
                clear st
                have b114 : ((l.toNat : Int) == 114) = false := by simpa using e114
                have b105 : ((l.toNat : Int) == 105) = false := by simpa using e105
                have b110 : ((l.toNat : Int) == 110) = false := by simpa using e110
                have b112 : ((l.toNat : Int) == 112) = true := by simpa using e112
                rw [hL] at b114 b105 b110 b112 e114 e105 e110 e112
                replace hL := Hid.mk hL
                replace e114 := Hid.mk e114
                replace e105 := Hid.mk e105
                replace e110 := Hid.mk e110
                replace e112 := Hid.mk e112
                cases ok0
                · go_wp2_with (go_at_call 68; refine (within_any _ _ _ _).mono ?_; rintro x w' ⟨rfl, rfl⟩)
                  go_round
                  case rel => exact ⟨n0, true, cd0, false, k0 + 1, rfl, rfl, rfl, rfl, by simp, by omega, by omega, by omega, ⟨by rw [hr3.out]; exact hf.out⟩⟩
                  case measure => simp [intOf]; omega
                · go_wp2_with (go_at_call 68; refine (within_any _ _ _ _).mono ?_; rintro x w' ⟨rfl, rfl⟩)
                  go_round
                  case rel => exact ⟨n0, true, cd0, (decide (0 ≤ m) && decide (m ≤ 127)), k0 + 1, rfl, rfl, rfl, rfl, by simp, by omega, by omega, by omega, ⟨by rw [hr3.out]; exact hf.out⟩⟩
                  case measure => simp [intOf]; omega
              · skip
                by_cases e115 : (l.toNat : Int) = 115
                · have st := rR_step op a b c m l r' n0 n0 i0 cd0 ok0 true cd0 (decide (0 ≤ m) && decide (m ≤ 15)) (by rw [if_neg e114]) (by simp [immD, e115]) (by simp [codeD, e115]) (by simp [oneD, e115])
                  rw [st] at hf
                  clear st
                  have b114 : ((l.toNat : Int) == 114) = false := by simpa using e114
                  have b105 : ((l.toNat : Int) == 105) = false := by simpa using e105
                  have b110 : ((l.toNat : Int) == 110) = false := by simpa using e110
                  have b112 : ((l.toNat : Int) == 112) = false := by simpa using e112
                  have b115 : ((l.toNat : Int) == 115) = true := by simpa using e115
                  rw [hL] at b114 b105 b110 b112 b115 e114 e105 e110 e112 e115
                  replace hL := Hid.mk hL
                  replace e114 := Hid.mk e114
                  replace e105 := Hid.mk e105
                  replace e110 := Hid.mk e110
                  replace e112 := Hid.mk e112
                  replace e115 := Hid.mk e115
                  cases ok0
                  · go_wp2_with (go_at_call 68; refine (within_any _ _ _ _).mono ?_; rintro x w' ⟨rfl, rfl⟩)
                    go_round
                    case rel => exact ⟨n0, true, cd0, false, k0 + 1, rfl, rfl, rfl, rfl, by simp, by omega, by omega, by omega, ⟨by rw [hr3.out]; exact hf.out⟩⟩
                    case measure => simp [intOf]; omega
                  · go_wp2_with (go_at_call 68; refine (within_any _ _ _ _).mono ?_; rintro x w' ⟨rfl, rfl⟩)
                    go_round
                    case rel => exact ⟨n0, true, cd0, (decide (0 ≤ m) && decide (m ≤ 15)), k0 + 1, rfl, rfl, rfl, rfl, by simp, by omega, by omega, by omega, ⟨by rw [hr3.out]; exact hf.out⟩⟩
                    case measure => simp [intOf]; omega
                · skip
                  by_cases e116 : (l.toNat : Int) = 116
                  · have st := rR_step op a b c m l r' n0 n0 i0 cd0 ok0 true cd0 (decide (0 ≤ m) && decide (m ≤ 2147483647)) (by rw [if_neg e114]) (by simp [immD, e116]) (by simp [codeD, e116]) (by simp [oneD, e116])
                    rw [st] at hf
                    clear st
                    have b114 : ((l.toNat : Int) == 114) = false := by simpa using e114
                    have b105 : ((l.toNat : Int) == 105) = false := by simpa using e105
                    have b110 : ((l.toNat : Int) == 110) = false := by simpa using e110
                    have b112 : ((l.toNat : Int) == 112) = false := by simpa using e112
                    have b115 : ((l.toNat : Int) == 115) = false := by simpa using e115
                    have b116 : ((l.toNat : Int) == 116) = true := by simpa using e116
                    rw [hL] at b114 b105 b110 b112 b115 b116 e114 e105 e110 e112 e115 e116
                    replace hL := Hid.mk hL
                    replace e114 := Hid.mk e114
                    replace e105 := Hid.mk e105
                    replace e110 := Hid.mk e110
                    replace e112 := Hid.mk e112
                    replace e115 := Hid.mk e115
                    replace e116 := Hid.mk e116
                    cases ok0
                    · go_wp2_with (go_at_call 68; refine (within_any _ _ _ _).mono ?_; rintro x w' ⟨rfl, rfl⟩)
                      go_round
                      case rel => exact ⟨n0, true, cd0, false, k0 + 1, rfl, rfl, rfl, rfl, by simp, by omega, by omega, by omega, ⟨by rw [hr3.out]; exact hf.out⟩⟩
                      case measure => simp [intOf]; omega
                    · go_wp2_with (go_at_call 68; refine (within_any _ _ _ _).mono ?_; rintro x w' ⟨rfl, rfl⟩)
                      go_round
                      case rel => exact ⟨n0, true, cd0, (decide (0 ≤ m) && decide (m ≤ 2147483647)), k0 + 1, rfl, rfl, rfl, rfl, by simp, by omega, by omega, by omega, ⟨by rw [hr3.out]; exact hf.out⟩⟩
                      case measure => simp [intOf]; omega
                  · skip
                    by_cases e103 : (l.toNat : Int) = 103
                    · have st := rR_step op a b c m l r' n0 n0 i0 cd0 ok0 true cd0 (decide (0 ≤ m) && decide (m ≤ 2147483647)) (by rw [if_neg e114]) (by simp [immD, e103]) (by simp [codeD, e103]) (by simp [oneD, e103])
                      rw [st] at hf
                      clear st
                      have b114 : ((l.toNat : Int) == 114) = false := by simpa using e114
                      have b105 : ((l.toNat : Int) == 105) = false := by simpa using e105
                      have b110 : ((l.toNat : Int) == 110) = false := by simpa using e110
                      have b112 : ((l.toNat : Int) == 112) = false := by simpa using e112
                      have b115 : ((l.toNat : Int) == 115) = false := by simpa using e115
                      have b116 : ((l.toNat : Int) == 116) = false := by simpa using e116
                      have b103 : ((l.toNat : Int) == 103) = true := by simpa using e103
                      rw [hL] at b114 b105 b110 b112 b115 b116 b103 e114 e105 e110 e112 e115 e116 e103
                      replace hL := Hid.mk hL
                      replace e114 := Hid.mk e114
                      replace e105 := Hid.mk e105
                      replace e110 := Hid.mk e110
                      replace e112 := Hid.mk e112
                      replace e115 := Hid.mk e115
                      replace e116 := Hid.mk e116
                      replace e103 := Hid.mk e103
                      cases ok0
                      · go_wp2_with (go_at_call 68; refine (within_any _ _ _ _).mono ?_; rintro x w' ⟨rfl, rfl⟩)
                        go_round
                        case rel => exact ⟨n0, true, cd0, false, k0 + 1, rfl, rfl, rfl, rfl, by simp, by omega, by omega, by omega, ⟨by rw [hr3.out]; exact hf.out⟩⟩
                        case measure => simp [intOf]; omega
                      · go_wp2_with (go_at_call 68; refine (within_any _ _ _ _).mono ?_; rintro x w' ⟨rfl, rfl⟩)
                        go_round
                        case rel => exact ⟨n0, true, cd0, (decide (0 ≤ m) && decide (m ≤ 2147483647)), k0 + 1, rfl, rfl, rfl, rfl, by simp, by omega, by omega, by omega, ⟨by rw [hr3.out]; exact hf.out⟩⟩
                        case measure => simp [intOf]; omega
                    · skip
                      by_cases e99 : (l.toNat : Int) = 99
                      · by_cases p28 : op = 28
                        · have st := rR_step op a b c m l r' n0 n0 i0 cd0 ok0 true cd0 (decide (0 ≤ m) && decide (m ≤ 255)) (by rw [if_neg e114]) (by simp [immD, e99, p28]) (by simp [codeD, e99, p28]) (by simp [oneD, e99, p28])
                          rw [st] at hf
                          clear st
                          have b114 : ((l.toNat : Int) == 114) = false := by simpa using e114
                          have b105 : ((l.toNat : Int) == 105) = false := by simpa using e105
                          have b110 : ((l.toNat : Int) == 110) = false := by simpa using e110
                          have b112 : ((l.toNat : Int) == 112) = false := by simpa using e112
                          have b115 : ((l.toNat : Int) == 115) = false := by simpa using e115
                          have b116 : ((l.toNat : Int) == 116) = false := by simpa using e116
                          have b103 : ((l.toNat : Int) == 103) = false := by simpa using e103
                          have b99 : ((l.toNat : Int) == 99) = true := by simpa using e99
                          have c28 : (op == 28) = true := by simpa using p28
                          rw [hL] at b114 b105 b110 b112 b115 b116 b103 b99 e114 e105 e110 e112 e115 e116 e103 e99
                          replace hL := Hid.mk hL
                          replace e114 := Hid.mk e114
                          replace e105 := Hid.mk e105
                          replace e110 := Hid.mk e110
                          replace e112 := Hid.mk e112
                          replace e115 := Hid.mk e115
                          replace e116 := Hid.mk e116
                          replace e103 := Hid.mk e103
                          replace e99 := Hid.mk e99
                          replace p28 := Hid.mk p28
                          cases ok0
                          · go_wp2_with (go_at_call 68; refine (within_any _ _ _ _).mono ?_; rintro x w' ⟨rfl, rfl⟩)
                            go_round
                            case rel => exact ⟨n0, true, cd0, false, k0 + 1, rfl, rfl, rfl, rfl, by simp, by omega, by omega, by omega, ⟨by rw [hr3.out]; exact hf.out⟩⟩
                            case measure => simp [intOf]; omega
                          · go_wp2_with (go_at_call 68; refine (within_any _ _ _ _).mono ?_; rintro x w' ⟨rfl, rfl⟩)
                            go_round
                            case rel => exact ⟨n0, true, cd0, (decide (0 ≤ m) && decide (m ≤ 255)), k0 + 1, rfl, rfl, rfl, rfl, by simp, by omega, by omega, by omega, ⟨by rw [hr3.out]; exact hf.out⟩⟩
                            case measure => simp [intOf]; omega
                        · have st := rR_step op a b c m l r' n0 n0 i0 cd0 ok0 i0 true (decide (0 ≤ c) && decide (c ≤ 255)) (by rw [if_neg e114]) (by simp [immD, e99, p28]) (by simp [codeD, e99, p28]) (by simp [oneD, e99, p28])
                          rw [st] at hf
                          clear st
                          have b114 : ((l.toNat : Int) == 114) = false := by simpa using e114
                          have b105 : ((l.toNat : Int) == 105) = false := by simpa using e105
                          have b110 : ((l.toNat : Int) == 110) = false := by simpa using e110
                          have b112 : ((l.toNat : Int) == 112) = false := by simpa using e112
                          have b115 : ((l.toNat : Int) == 115) = false := by simpa using e115
                          have b116 : ((l.toNat : Int) == 116) = false := by simpa using e116
                          have b103 : ((l.toNat : Int) == 103) = false := by simpa using e103
                          have b99 : ((l.toNat : Int) == 99) = true := by simpa using e99
                          have c28 : (op == 28) = false := by simpa using p28
                          rw [hL] at b114 b105 b110 b112 b115 b116 b103 b99 e114 e105 e110 e112 e115 e116 e103 e99
                          replace hL := Hid.mk hL
                          replace e114 := Hid.mk e114
                          replace e105 := Hid.mk e105
                          replace e110 := Hid.mk e110
                          replace e112 := Hid.mk e112
                          replace e115 := Hid.mk e115
                          replace e116 := Hid.mk e116
                          replace e103 := Hid.mk e103
                          replace e99 := Hid.mk e99
                          replace p28 := Hid.mk p28
                          cases ok0
                          · go_wp2_with (go_at_call 68; refine (within_any _ _ _ _).mono ?_; rintro x w' ⟨rfl, rfl⟩)
                            go_round
                            case rel => exact ⟨n0, i0, true, false, k0 + 1, rfl, rfl, rfl, rfl, by simp, by omega, by omega, by omega, ⟨by rw [hr3.out]; exact hf.out⟩⟩
                            case measure => simp [intOf]; omega
                          · go_wp2_with (go_at_call 68; refine (within_any _ _ _ _).mono ?_; rintro x w' ⟨rfl, rfl⟩)
                            go_round
                            case rel => exact ⟨n0, i0, true, (decide (0 ≤ c) && decide (c ≤ 255)), k0 + 1, rfl, rfl, rfl, rfl, by simp, by omega, by omega, by omega, ⟨by rw [hr3.out]; exact hf.out⟩⟩
                            case measure => simp [intOf]; omega
                      · skip
                        have st := rR_step op a b c m l r' n0 n0 i0 cd0 ok0 i0 cd0 true (by rw [if_neg e114]) (by simp [immD, e105, e110, e112, e115, e116, e103, e99]) (by simp [codeD, e99]) (by simp [oneD, e114, e105, e110, e112, e115, e116, e103, e99])
                        rw [st] at hf
                        clear st
                        have b114 : ((l.toNat : Int) == 114) = false := by simpa using e114
                        have b105 : ((l.toNat : Int) == 105) = false := by simpa using e105
                        have b110 : ((l.toNat : Int) == 110) = false := by simpa using e110
                        have b112 : ((l.toNat : Int) == 112) = false := by simpa using e112
                        have b115 : ((l.toNat : Int) == 115) = false := by simpa using e115
                        have b116 : ((l.toNat : Int) == 116) = false := by simpa using e116
                        have b103 : ((l.toNat : Int) == 103) = false := by simpa using e103
                        have b99 : ((l.toNat : Int) == 99) = false := by simpa using e99
                        rw [hL] at b114 b105 b110 b112 b115 b116 b103 b99 e114 e105 e110 e112 e115 e116 e103 e99
                        replace hL := Hid.mk hL
                        replace e114 := Hid.mk e114
                        replace e105 := Hid.mk e105
                        replace e110 := Hid.mk e110
                        replace e112 := Hid.mk e112
                        replace e115 := Hid.mk e115
                        replace e116 := Hid.mk e116
                        replace e103 := Hid.mk e103
                        replace e99 := Hid.mk e99
                        cases ok0
                        · go_wp2_with (go_at_call 68; refine (within_any _ _ _ _).mono ?_; rintro x w' ⟨rfl, rfl⟩)
                          go_round
                          case rel => exact ⟨n0, i0, cd0, false, k0 + 1, rfl, rfl, rfl, rfl, by simp, by omega, by omega, by omega, ⟨by rw [hr3.out]; exact hf.out⟩⟩
                          case measure => simp [intOf]; omega
                        · go_wp2_with (go_at_call 68; refine (within_any _ _ _ _).mono ?_; rintro x w' ⟨rfl, rfl⟩)
                          go_round
                          case rel => exact ⟨n0, i0, cd0, true, k0 + 1, rfl, rfl, rfl, rfl, by simp, by omega, by omega, by omega, ⟨by rw [hr3.out]; exact hf.out⟩⟩
                          case measure => simp [intOf]; omega
      · have ge1 : decide ((k0 : Int) < s.length) = false := by simp; omega
        have hd : s.drop k0 = [] := by rw [List.drop_eq_nil_iff]; omega
        rw [hd] at hf
        clear hd
        have n3 : n0 ≤ 3 := by omega
        go_wp2_with fail
        go_loop [9, 12] (fun ok j => ∃ (ok1 : Bool) (j1 : Int), ok = .bool ok1 ∧ j = .int .i64 j1 ∧ 0 ≤ j1 ∧ j1 ≤ 3 ∧ Hid (tailD j1 a b c cd0 ok1 = tailD n0 a b c cd0 ok0)) (fun _ j => 3 - (intOf j).toNat)
        case atStart => exact ⟨ok0, n0, rfl, rfl, hn0, n3, ⟨rfl⟩⟩
        case round =>
          obtain ⟨ok1, j1, rfl, rfl, hj0, hj3, ht⟩ := hrel
          by_cases hj : j1 < 3
          · have rc : V.cell? ⟨kr, j1.toNat, none⟩ = some (.int .i64 (regAt j1 a b c)) := (q1 _).trans (regAt_cell j1 a b c hj0 hj)
            rw [tail_step j1 a b c cd0 ok1 hj0 hj] at ht
            clear q1
            have hj' : decide (j1 < 3) = true := by simpa using hj
            generalize regAt j1 a b c = y at *
            cases ok1
            · go_wp2_with fail
              go_round
              case rel => exact ⟨false, j1 + 1, rfl, by simp, by omega, by omega, ht⟩
              case measure => simp [intOf]; omega
            · by_cases hy : y = 0
              · have y0 : (y == 0) = true := by simpa using hy
                have e : decide (y = 0) = true := by simpa using hy
                rw [e] at ht
                replace hy := Hid.mk hy
                clear e
                go_wp2_with fail
                go_round
                case rel => exact ⟨true, j1 + 1, rfl, by simp, by omega, by omega, ht⟩
                case measure => simp [intOf]; omega
              · have y0 : (y == 0) = false := by simpa using hy
                have e : decide (y = 0) = false := by simpa using hy
                rw [e] at ht
                replace hy := Hid.mk hy
                clear e
                by_cases h2 : j1 = 2
                · have j2 : (j1 == 2) = true := by simpa using h2
                  have e : decide (j1 = 2) = true := by simpa using h2
                  rw [e] at ht
                  replace h2 := Hid.mk h2
                  clear e
                  go_wp2_with fail
                  go_round
                  case rel => exact ⟨cd0, j1 + 1, rfl, by simp, by omega, by omega, ht⟩
                  case measure => simp [intOf]; omega
                · have j2 : (j1 == 2) = false := by simpa using h2
                  have e : decide (j1 = 2) = false := by simpa using h2
                  rw [e] at ht
                  replace h2 := Hid.mk h2
                  clear e
                  go_wp2_with fail
                  go_round
                  case rel => exact ⟨false, j1 + 1, rfl, by simp, by omega, by omega, ht⟩
                  case measure => simp [intOf]; omega
          · have hj' : decide (j1 < 3) = false := by simpa using hj
            rw [tail_end j1 a b c cd0 ok1 (by omega)] at ht
            have fin : (ok1 && (i0 || decide (m = 0))) = rR op a b c m s 0 false false true := by rw [ht.out]; exact hf.out
            clear ht hf q1
            replace fin := Hid.mk fin
            cases ok1
            · go_wp2_with fail
              go_ret
              exact ⟨ret_int (a := 32) (by rw [← fin.out]; rfl), hG⟩
            · cases i0
              · by_cases hm : m = 0
                · have m0 : (m != 0) = false := by simpa using hm
                  have fin2 : true = rR op a b c m s 0 false false true := by rw [← fin.out]; simp [hm]
                  replace hm := Hid.mk hm
                  replace fin2 := Hid.mk fin2
                  go_wp2_with fail
                  go_ret
                  exact ⟨ret_int (a := 0) (by rw [← fin2.out]; rfl), hG⟩
                · have m0 : (m != 0) = true := by simpa using hm
                  have fin2 : false = rR op a b c m s 0 false false true := by rw [← fin.out]; simp [hm]
                  replace hm := Hid.mk hm
                  replace fin2 := Hid.mk fin2
                  go_wp2_with fail
                  go_ret
                  exact ⟨ret_int (a := 32) (by rw [← fin2.out]; rfl), hG⟩
              · go_wp2_with fail
                go_ret
                exact ⟨ret_int (a := 0) (by rw [← fin.out]; rfl), hG⟩
end Go.Proofs.YtmmakknhaacplaaGreatDoor


/-
  Stage 4, image: the document's own answer: a compartment.
-/
namespace Go.Proofs.YtmmakknhaacplaaGreatDoor
open Go.RowKit

def compE (g : Int) (c : PComp) : Int := if rootsR c.roots 7 then codeR c.code g else 46
theorem compsR_E (g : Int) (c : PComp) (L : List PComp) : compsR g (c :: L) = if compE g c = 0 then compsR g L else compE g c := by
  rw [compsR]
  unfold compE
  split
  · rfl
  · simp
set_option maxHeartbeats 400000 in
theorem Jumps_any (op : Int) (w : World) :
    Calls Tryz.prog 65 #[.int .u8 op] w fun x w' => x = .returned (.bool (decide (20 ≤ op ∧ op ≤ 25))) ∧ w = w' := by
  go_enter Tryz.func65, Tryz.ntmps65
  go_wp2
  all_goals
    go_ret
    exact ⟨ret_bool (by simp_all <;> omega), rfl⟩
set_option maxRecDepth 10000 in
set_option maxHeartbeats 40000000 in
theorem refComp_any (c : PComp) (ra ka : Option Addr) (rc kc : Nat) (g : Int) (w : World) (hs : FIn 6 PRoot.vals w.heap.size w ra c.roots) (hc : LIn w.heap.size w ka c.code) (hr : c.Rng) :
    Calls Tryz.prog 42 #[.agg #[.slice ra c.roots.length rc, .slice ka c.code.length kc], .int .i64 g] w fun x w' => x = .returned (.int .i64 (compE g c)) ∧ Gr w w' := by
  obtain ⟨hl1, hl2, hops, hrr⟩ := hr
  have l1 : (c.roots.length : Int) ≤ 140737488355328 := by unfold maxG at hl1; omega
  have l2 : (c.code.length : Int) ≤ 140737488355328 := by unfold maxI at hl2; omega
  have X := Hid.mk (Box.new w #[.slice ra c.roots.length rc, .slice ka c.code.length kc] 52)
  have hGR := Hid.mk ((Gr.refl w).alloc (.cells #[.slice ra c.roots.length rc, .slice ka c.code.length kc] 52))
  replace hs := Hid.mk hs
  replace hc := Hid.mk hc
  replace hrr := Hid.mk hrr
  replace hops := Hid.mk hops
  clear hl1 hl2
  go_enter Tryz.func42, Tryz.ntmps42
  go_wp2_with fail
  generalize w.alloc (.cells #[.slice ra c.roots.length rc, .slice ka c.code.length kc] 52) = R0 at *
  replace hs := Hid.mk ((hs.out.below hGR.out.below).mono (gr_size hGR.out))
  replace hc := Hid.mk ((hc.out.below hGR.out.below).mono (gr_size hGR.out))
  go_loopw [5, 6] (fun l i wr => ∃ (k : Nat) (f : Int), l = .int .i64 f ∧ i = .int .i64 k ∧ k ≤ c.roots.length ∧ Hid (rootsR (c.roots.drop k) f = rootsR c.roots 7 ∧ Gr R0 wr)) (fun _ i _ => c.roots.length - (intOf i).toNat)
  case atStart => exact ⟨0, 7, rfl, rfl, by omega, ⟨rfl, Gr.refl _⟩⟩
  case round =>
    obtain ⟨k, f, rfl, rfl, hkk, ⟨hsf, hG⟩⟩ := hrel
    have X1 := X.out.gr hG
    have ⟨z0, p0, f0⟩ := X1.at
    replace X1 := Hid.mk X1
    by_cases hkl : k < c.roots.length
    · have kl : (k : Int) < c.roots.length := by omega
      obtain ⟨b2, off2, rfl, hb3, hb4, hcc⟩ := (hs.out.below hG.below) k hkl
      obtain ⟨d0, d1, d2, d3, d4, d5⟩ := root_cells hcc
      clear hcc
      have htr := hrr.out c.roots[k] (List.getElem_mem hkl)
      have hT := fun W => refFit_any c.roots[k].b c.roots[k].e c.roots[k].c c.roots[k].p c.roots[k].s W htr.2.2.2.2.1
      have hy := rootsR_yes (f := f) hkl
      have hno := rootsR_no (f := f) hkl
      generalize c.roots[k] = t at *
      generalize dataB t.b t.e t.p t.s = q at *
      clear htr
      by_cases q1 : f < t.r
      case neg =>
        rw [hno (fun q => q1 q.1)] at hsf
        have q1' : t.r ≤ f := by omega
        clear hy hno
        replace q1 := Hid.mk q1
        replace hG := Hid.mk hG
        replace hsf := Hid.mk hsf
        go_wp2_with fail
        refine (hT _).mono ?_
        rintro x w2 ⟨rfl, hG2⟩
        have X2 := X1.out.gr hG2
        have d0' := (hG2.cell hb4 _).trans d0
        have hb5 : b2 < w2.heap.size := Nat.lt_of_lt_of_le hb4 (gr_size hG2)
        replace hG := Hid.mk (hG.out.trans hG2)
        clear z0 p0 f0 hG2 hT d0 d1 d2 d3 d4 d5 hb4 X1
        have ⟨z1, p1, f1⟩ := X2.at
        replace X2 := Hid.mk X2
        go_wp2_with fail
        go_ret
        exact ⟨retI (by unfold compE; rw [← hsf.out]; rfl), hGR.out.trans hG.out⟩
      have q1' : ¬ t.r ≤ f := by omega
      by_cases q2 : t.r < 16
      case neg =>
        rw [hno (fun q => q2 q.2.1)] at hsf
        have q2' : (16 : Int) ≤ t.r := by omega
        clear hy hno
        replace q1 := Hid.mk q1
        replace q2 := Hid.mk q2
        replace hG := Hid.mk hG
        replace hsf := Hid.mk hsf
        go_wp2_with fail
        refine (hT _).mono ?_
        rintro x w2 ⟨rfl, hG2⟩
        have X2 := X1.out.gr hG2
        have d0' := (hG2.cell hb4 _).trans d0
        have hb5 : b2 < w2.heap.size := Nat.lt_of_lt_of_le hb4 (gr_size hG2)
        replace hG := Hid.mk (hG.out.trans hG2)
        clear z0 p0 f0 hG2 hT d0 d1 d2 d3 d4 d5 hb4 X1
        have ⟨z1, p1, f1⟩ := X2.at
        replace X2 := Hid.mk X2
        go_wp2_with fail
        go_ret
        exact ⟨retI (by unfold compE; rw [← hsf.out]; rfl), hGR.out.trans hG.out⟩
      have q2' : ¬ (16 : Int) ≤ t.r := by omega
      cases q with
      | false =>
        rw [hno (fun q => by have := q.2.2; simp at this)] at hsf
        clear hy hno
        replace q1 := Hid.mk q1
        replace q2 := Hid.mk q2
        replace hG := Hid.mk hG
        replace hsf := Hid.mk hsf
        go_wp2_with fail
        refine (hT _).mono ?_
        rintro x w2 ⟨rfl, hG2⟩
        have X2 := X1.out.gr hG2
        have d0' := (hG2.cell hb4 _).trans d0
        have hb5 : b2 < w2.heap.size := Nat.lt_of_lt_of_le hb4 (gr_size hG2)
        replace hG := Hid.mk (hG.out.trans hG2)
        clear z0 p0 f0 hG2 hT d0 d1 d2 d3 d4 d5 hb4 X1
        have ⟨z1, p1, f1⟩ := X2.at
        replace X2 := Hid.mk X2
        go_wp2_with fail
        go_ret
        exact ⟨retI (by unfold compE; rw [← hsf.out]; rfl), hGR.out.trans hG.out⟩
      | true =>
        rw [hy q1 q2 rfl] at hsf
        clear hy hno
        replace q1 := Hid.mk q1
        replace q2 := Hid.mk q2
        replace hG := Hid.mk hG
        replace hsf := Hid.mk hsf
        go_wp2_with fail
        refine (hT _).mono ?_
        rintro x w2 ⟨rfl, hG2⟩
        have X2 := X1.out.gr hG2
        have d0' := (hG2.cell hb4 _).trans d0
        have hb5 : b2 < w2.heap.size := Nat.lt_of_lt_of_le hb4 (gr_size hG2)
        replace hG := Hid.mk (hG.out.trans hG2)
        clear z0 p0 f0 hG2 hT d0 d1 d2 d3 d4 d5 hb4 X1
        have ⟨z1, p1, f1⟩ := X2.at
        replace X2 := Hid.mk X2
        go_wp2_with fail
        go_roundw
        case rel => exact ⟨k + 1, t.r, rfl, by simp, by omega, ⟨hsf.out, hG.out⟩⟩
        case measure => simp [intOf]; omega
    · have kl : ¬ (k : Int) < c.roots.length := by omega
      rw [drop_end hkl] at hsf
      have hro : rootsR c.roots 7 = true := by rw [← hsf]; rfl
      have hq : compE g c = codeR c.code g := by unfold compE; rw [if_pos hro]
      replace hq := Hid.mk hq
      clear hsf hro
      replace hG := Hid.mk hG
      by_cases n1 : c.code.length < 1 ∨ 400 < c.code.length
      · have hz : codeR c.code g = 42 := if_pos n1
        replace hz := Hid.mk hz
        by_cases n2 : c.code.length < 1
        · have n2' : (c.code.length : Int) < 1 := by omega
          clear n1
          go_wp2_with fail
          go_ret
          exact ⟨retI (by rw [hq.out, hz.out]), hGR.out.trans hG.out⟩
        · have n2' : ¬ (c.code.length : Int) < 1 := by omega
          have n3' : (400 : Int) < c.code.length := by omega
          clear n1
          go_wp2_with fail
          go_ret
          exact ⟨retI (by rw [hq.out, hz.out]), hGR.out.trans hG.out⟩
      have hz : codeR c.code g = codeF c.code.length g c.code := if_neg n1
      have n2' : ¬ (c.code.length : Int) < 1 := by omega
      have n3' : ¬ (400 : Int) < c.code.length := by omega
      rw [hz] at hq
      clear hz
      go_wp2_with fail
      clear n1 n2' n3' z0 p0 f0 kl hkl hkk X1
      replace hc := Hid.mk ((hc.out.below hG.out.below).mono (gr_size hG.out))
      replace X := Hid.mk (X.out.gr hG.out)
      replace hGR := Hid.mk (hGR.out.trans hG.out)
      clear hG
      generalize wr = R1 at *
      go_loopw [8] (fun i wr => ∃ k2 : Nat, i = .int .i64 k2 ∧ k2 ≤ c.code.length ∧ Hid (codeF c.code.length g (c.code.drop k2) = codeF c.code.length g c.code ∧ Gr R1 wr)) (fun i _ => c.code.length - (intOf i).toNat)
      case atStart => exact ⟨0, rfl, by omega, ⟨rfl, Gr.refl _⟩⟩
      case round =>
        obtain ⟨k2, rfl, hkk, ⟨hsf, hG⟩⟩ := hrel
        have X1 := X.out.gr hG
        have ⟨z0, p0, f0⟩ := X1.at
        replace X1 := Hid.mk X1
        by_cases hkl : k2 < c.code.length
        · have kl : (k2 : Int) < c.code.length := by omega
          obtain ⟨b2, off2, rfl, hb3, hb4, c0, c1, c2, c3, c4⟩ := (hc.out.below hG.below) k2 hkl
          obtain ⟨ho0, ho1⟩ := hops.out c.code[k2] (List.getElem_mem hkl)
          have hT := fun W => refRight_any c.code[k2].op c.code[k2].a c.code[k2].b c.code[k2].c c.code[k2].m W ho0 ho1
          rw [right_doc _ _ _ _ _ ho0 ho1] at hT
          have hJ := fun W => Jumps_any c.code[k2].op W
          rw [List.drop_eq_getElem_cons hkl, codeF] at hsf
          have hri : c.code[k2].right = rightF c.code[k2].op c.code[k2].a c.code[k2].b c.code[k2].c c.code[k2].m := rfl
          rw [hri] at hsf
          generalize c.code[k2] = t at *
          generalize rightF t.op t.a t.b t.c t.m = e at *
          clear hri
          by_cases e0 : e = 0
          case neg =>
            rw [if_neg e0] at hsf
            have e0' : (e != 0) = true := by simpa using e0
            clear hJ
            replace e0 := Hid.mk e0
            replace hG := Hid.mk hG
            replace hsf := Hid.mk hsf
            go_wp2_with fail
            refine (hT _).mono ?_
            rintro x w2 ⟨rfl, hG2⟩
            have X2 := X1.out.gr hG2
            have c0' := (hG2.cell hb4 _).trans c0
            have c4' := (hG2.cell hb4 _).trans c4
            have hb5 : b2 < w2.heap.size := Nat.lt_of_lt_of_le hb4 (gr_size hG2)
            replace hG := Hid.mk (hG.out.trans hG2)
            clear z0 p0 f0 hG2 hT c0 c1 c2 c3 c4 hb4 X1
            have ⟨z1, p1, f1⟩ := X2.at
            replace X2 := Hid.mk X2
            go_wp2_with fail
            go_ret
            exact ⟨retI (by rw [hq.out, ← hsf.out]), hGR.out.trans hG.out⟩
          have e0' : (e != 0) = false := by simpa using e0
          rw [if_pos e0] at hsf
          replace e0 := Hid.mk e0
          by_cases j1 : 20 ≤ t.op ∧ t.op ≤ 25
          · have jd : decide (20 ≤ t.op ∧ t.op ≤ 25) = true := by simpa using j1
            rw [jd] at hJ
            have o31 : (t.op == 31) = false := beq_false_of_ne (by omega)
            have htg : tgtB t.op t.m c.code.length g = decide (t.m < c.code.length) := if_pos j1
            rw [htg] at hsf
            clear htg jd
            replace j1 := Hid.mk j1
            by_cases j2 : t.m < c.code.length
            · have j2' : ¬ (c.code.length : Int) ≤ t.m := by omega
              rw [if_pos (by simpa using j2)] at hsf
              replace j2 := Hid.mk j2
              replace hG := Hid.mk hG
              replace hsf := Hid.mk hsf
              go_wp2_with fail
              refine (hT _).mono ?_
              rintro x w2 ⟨rfl, hG2⟩
              have X2 := X1.out.gr hG2
              have c0' := (hG2.cell hb4 _).trans c0
              have c4' := (hG2.cell hb4 _).trans c4
              have hb5 : b2 < w2.heap.size := Nat.lt_of_lt_of_le hb4 (gr_size hG2)
              replace hG := Hid.mk (hG.out.trans hG2)
              clear z0 p0 f0 hG2 hT c0 c1 c2 c3 c4 hb4 X1
              have ⟨z1, p1, f1⟩ := X2.at
              replace X2 := Hid.mk X2
              go_wp2_with fail
              refine (hJ _).mono ?_
              rintro x w3 ⟨rfl, rfl⟩
              go_wp2_with fail
              have KS : ∀ W, Gr w2 W → W.cell? ⟨w.heap.size, 1, none⟩ = some (.slice (some ⟨b2, off2, none⟩) c.code.length kc) ∧ W.cell? ⟨b2, off2 + k2 * 5, none⟩ = some (.int .u8 t.op) ∧ W.cell? ⟨b2, off2 + k2 * 5 + 1 + 1 + 1 + 1, none⟩ = some (.int .i64 t.m) := fun W hW => ⟨(hW.cell z1 1).trans (p1 1), (hW.cell hb5 _).trans c0', (hW.cell hb5 _).trans c4'⟩
              replace KS := Hid.mk KS
              have hG0 : Gr w2 w2.drew := (Gr.refl _).drew
              refine wp_region_held_drew (S := fun W => W.cell? ⟨w.heap.size, 1, none⟩ = some (.slice (some ⟨b2, off2, none⟩) c.code.length kc) ∧ W.cell? ⟨b2, off2 + k2 * 5, none⟩ = some (.int .u8 t.op) ∧ W.cell? ⟨b2, off2 + k2 * 5 + 1 + 1 + 1 + 1, none⟩ = some (.int .i64 t.m)) (by kernel_rfl) (KS.out _ hG0) (fun hHeld => ?_)
              refine wpAnyH_take (i := 0) (oi := { dst := some 85, op := Op.move (Operand.tmp 10), type := 4, pos := "right.go:116", after := #[], guard := none }) (v := ?_) rfl (by kernel_rfl) (by kernel_rfl) (by kernel_rfl) (fun _ _ _ h => h) (Or.inl ⟨by rfl, ?_⟩) (by assumption) ?_
              rotate_left
              · intro w hSw; (try dsimp only at hSw); go_simp; first | done | with_reducible rfl
              try simp only [Act.put, List.setIfInBounds_toArray, List.set_cons_zero, List.set_cons_succ]
              refine wpAnyH_take (i := 1) (oi := { dst := some 86, op := Op.move (Operand.tmp 85), type := 4, pos := "right.go:116", after := #[{ on := 0, ground := Ground.data }], guard := none }) (v := ?_) rfl (by kernel_rfl) (by kernel_rfl) (by kernel_rfl) (fun _ _ _ h => h) (Or.inl ⟨by rfl, ?_⟩) (by assumption) ?_
              rotate_left
              · intro w hSw; (try dsimp only at hSw); go_simp; first | done | with_reducible rfl
              try simp only [Act.put, List.setIfInBounds_toArray, List.set_cons_zero, List.set_cons_succ]
              refine wpAnyH_take (i := 2) (oi := { dst := some 87, op := Op.fieldAddr 52 (Operand.tmp 2) 1, type := 0, pos := "right.go:116", after := #[{ on := 1, ground := Ground.guard }], guard := some (1, true) }) (v := ?_) rfl (by kernel_rfl) (by kernel_rfl) (by kernel_rfl) (fun _ _ _ h => h) (Or.inl ⟨by rfl, ?_⟩) (by assumption) ?_
              rotate_left
              · intro w hSw; (try dsimp only at hSw); go_simp; first | done | with_reducible rfl
              try simp only [Act.put, List.setIfInBounds_toArray, List.set_cons_zero, List.set_cons_succ]
              refine wpAnyH_take (i := 3) (oi := { dst := some 88, op := Op.load 50 (Operand.tmp 87), type := 50, pos := "right.go:116", after := #[{ on := 2, ground := Ground.data }, { on := 1, ground := Ground.guard }], guard := some (1, true) }) (v := ?_) rfl (by kernel_rfl) (by kernel_rfl) (by kernel_rfl) (fun _ _ _ h => h) (Or.inl ⟨by rfl, ?_⟩) (by assumption) ?_
              rotate_left
              · intro w hSw; (try dsimp only at hSw); go_simp; first | done | with_reducible rfl
              try simp only [Act.put, List.setIfInBounds_toArray, List.set_cons_zero, List.set_cons_succ]
              refine wpAnyH_take (i := 4) (oi := { dst := some 89, op := Op.move (Operand.tmp 8), type := 3, pos := "right.go:116", after := #[{ on := 1, ground := Ground.guard }], guard := some (1, true) }) (v := ?_) rfl (by kernel_rfl) (by kernel_rfl) (by kernel_rfl) (fun _ _ _ h => h) (Or.inl ⟨by rfl, ?_⟩) (by assumption) ?_
              rotate_left
              · intro w hSw; (try dsimp only at hSw); go_simp; first | done | with_reducible rfl
              try simp only [Act.put, List.setIfInBounds_toArray, List.set_cons_zero, List.set_cons_succ]
              refine wpAnyH_take (i := 5) (oi := { dst := some 90, op := Op.indexAddr 50 (Operand.tmp 88) (Operand.tmp 89), type := 0, pos := "right.go:116", after := #[{ on := 3, ground := Ground.data }, { on := 4, ground := Ground.data }, { on := 1, ground := Ground.guard }], guard := some (1, true) }) (v := ?_) rfl (by kernel_rfl) (by kernel_rfl) (by kernel_rfl) (fun _ _ _ h => h) (Or.inl ⟨by rfl, ?_⟩) (by assumption) ?_
              rotate_left
              · intro w hSw; (try dsimp only at hSw); go_simp; first | done | with_reducible rfl
              try simp only [Act.put, List.setIfInBounds_toArray, List.set_cons_zero, List.set_cons_succ]
              refine wpAnyH_take (i := 6) (oi := { dst := some 91, op := Op.fieldAddr 79 (Operand.tmp 90) 4, type := 0, pos := "right.go:116", after := #[{ on := 5, ground := Ground.data }, { on := 1, ground := Ground.guard }], guard := some (1, true) }) (v := ?_) rfl (by kernel_rfl) (by kernel_rfl) (by kernel_rfl) (fun _ _ _ h => h) (Or.inl ⟨by rfl, ?_⟩) (by assumption) ?_
              rotate_left
              · intro w hSw; (try dsimp only at hSw); go_simp; first | done | with_reducible rfl
              try simp only [Act.put, List.setIfInBounds_toArray, List.set_cons_zero, List.set_cons_succ]
              refine wpAnyH_take (i := 7) (oi := { dst := some 92, op := Op.load 3 (Operand.tmp 91), type := 3, pos := "right.go:116", after := #[{ on := 6, ground := Ground.data }, { on := 1, ground := Ground.guard }], guard := some (1, true) }) (v := ?_) rfl (by kernel_rfl) (by kernel_rfl) (by kernel_rfl) (fun _ _ _ h => h) (Or.inl ⟨by rfl, ?_⟩) (by assumption) ?_
              rotate_left
              · intro w hSw; (try dsimp only at hSw); go_simp; first | done | with_reducible rfl
              try simp only [Act.put, List.setIfInBounds_toArray, List.set_cons_zero, List.set_cons_succ]
              refine wpAnyH_take (i := 8) (oi := { dst := some 93, op := Op.fieldAddr 52 (Operand.tmp 2) 1, type := 0, pos := "right.go:116", after := #[{ on := 1, ground := Ground.guard }], guard := some (1, true) }) (v := ?_) rfl (by kernel_rfl) (by kernel_rfl) (by kernel_rfl) (fun _ _ _ h => h) (Or.inl ⟨by rfl, ?_⟩) (by assumption) ?_
              rotate_left
              · intro w hSw; (try dsimp only at hSw); go_simp; first | done | with_reducible rfl
              try simp only [Act.put, List.setIfInBounds_toArray, List.set_cons_zero, List.set_cons_succ]
              refine wpAnyH_take (i := 9) (oi := { dst := some 94, op := Op.load 50 (Operand.tmp 93), type := 50, pos := "right.go:116", after := #[{ on := 8, ground := Ground.data }, { on := 1, ground := Ground.guard }], guard := some (1, true) }) (v := ?_) rfl (by kernel_rfl) (by kernel_rfl) (by kernel_rfl) (fun _ _ _ h => h) (Or.inl ⟨by rfl, ?_⟩) (by assumption) ?_
              rotate_left
              · intro w hSw; (try dsimp only at hSw); go_simp; first | done | with_reducible rfl
              try simp only [Act.put, List.setIfInBounds_toArray, List.set_cons_zero, List.set_cons_succ]
              refine wpAnyH_take (i := 10) (oi := { dst := some 95, op := Op.call { callee := Callee.builtin Builtin.len, args := #[Operand.tmp 94], argTypes := #[50] }, type := 3, pos := "right.go:116", after := #[{ on := 9, ground := Ground.data }, { on := 1, ground := Ground.guard }], guard := some (1, true) }) (v := ?_) rfl (by kernel_rfl) (by kernel_rfl) (by kernel_rfl) (fun _ _ _ h => h) (Or.inl ⟨by rfl, ?_⟩) (by assumption) ?_
              rotate_left
              · intro w hSw; (try dsimp only at hSw); go_simp; first | done | with_reducible rfl
              try simp only [Act.put, List.setIfInBounds_toArray, List.set_cons_zero, List.set_cons_succ]
              refine wpAnyH_take (i := 11) (oi := { dst := some 96, op := Op.binOp BinOp.geq 3 (Operand.tmp 92) (Operand.tmp 95) 3, type := 4, pos := "right.go:116", after := #[{ on := 7, ground := Ground.data }, { on := 10, ground := Ground.data }, { on := 1, ground := Ground.guard }], guard := some (1, true) }) (v := .bool false) rfl (by kernel_rfl) (by kernel_rfl) (by kernel_rfl) (fun _ _ _ h => h) (Or.inl ⟨by rfl, ?_⟩) (by assumption) ?_
              · intro w hSw; (try dsimp only at hSw); first | (go_simp; done) | (go_simp; simp_all; done) | (go_simp; omega)
              try simp only [Act.put, List.setIfInBounds_toArray, List.set_cons_zero, List.set_cons_succ]
              refine wpAnyH_take (i := 12) (oi := { dst := some 97, op := Op.pick (Operand.tmp 86) (Operand.tmp 96) (Operand.const (Value.bool false)), type := 4, pos := "right.go:116", after := #[{ on := 1, ground := Ground.data }, { on := 11, ground := Ground.data }], guard := none }) (v := ?_) rfl (by kernel_rfl) (by kernel_rfl) (by kernel_rfl) (fun _ _ _ h => h) (Or.inl ⟨by rfl, ?_⟩) (by assumption) ?_
              rotate_left
              · intro w hSw; (try dsimp only at hSw); go_simp; first | done | with_reducible rfl
              try simp only [Act.put, List.setIfInBounds_toArray, List.set_cons_zero, List.set_cons_succ]
              refine wpAnyH_take (i := 13) (oi := { dst := some 98, op := Op.move (Operand.tmp 97), type := 4, pos := "right.go:116", after := #[{ on := 12, ground := Ground.data }, { on := 1, ground := Ground.chain }], guard := none }) (v := ?_) rfl (by kernel_rfl) (by kernel_rfl) (by kernel_rfl) (fun _ _ _ h => h) (Or.inl ⟨by rfl, ?_⟩) (by assumption) ?_
              rotate_left
              · intro w hSw; (try dsimp only at hSw); go_simp; first | done | with_reducible rfl
              try simp only [Act.put, List.setIfInBounds_toArray, List.set_cons_zero, List.set_cons_succ]
              refine wpAnyH_take (i := 14) (oi := { dst := some 99, op := Op.fieldAddr 52 (Operand.tmp 2) 1, type := 0, pos := "right.go:116", after := #[{ on := 13, ground := Ground.guard }], guard := some (13, false) }) (v := ?_) rfl (by kernel_rfl) (by kernel_rfl) (by kernel_rfl) (fun _ _ _ h => h) (Or.inl ⟨by rfl, ?_⟩) (by assumption) ?_
              rotate_left
              · intro w hSw; (try dsimp only at hSw); go_simp; first | done | with_reducible rfl
              try simp only [Act.put, List.setIfInBounds_toArray, List.set_cons_zero, List.set_cons_succ]
              refine wpAnyH_take (i := 15) (oi := { dst := some 100, op := Op.load 50 (Operand.tmp 99), type := 50, pos := "right.go:116", after := #[{ on := 14, ground := Ground.data }, { on := 13, ground := Ground.guard }], guard := some (13, false) }) (v := ?_) rfl (by kernel_rfl) (by kernel_rfl) (by kernel_rfl) (fun _ _ _ h => h) (Or.inl ⟨by rfl, ?_⟩) (by assumption) ?_
              rotate_left
              · intro w hSw; (try dsimp only at hSw); go_simp; first | done | with_reducible rfl
              try simp only [Act.put, List.setIfInBounds_toArray, List.set_cons_zero, List.set_cons_succ]
              refine wpAnyH_take (i := 16) (oi := { dst := some 101, op := Op.move (Operand.tmp 8), type := 3, pos := "right.go:116", after := #[{ on := 13, ground := Ground.guard }], guard := some (13, false) }) (v := ?_) rfl (by kernel_rfl) (by kernel_rfl) (by kernel_rfl) (fun _ _ _ h => h) (Or.inl ⟨by rfl, ?_⟩) (by assumption) ?_
              rotate_left
              · intro w hSw; (try dsimp only at hSw); go_simp; first | done | with_reducible rfl
              try simp only [Act.put, List.setIfInBounds_toArray, List.set_cons_zero, List.set_cons_succ]
              refine wpAnyH_take (i := 17) (oi := { dst := some 102, op := Op.indexAddr 50 (Operand.tmp 100) (Operand.tmp 101), type := 0, pos := "right.go:116", after := #[{ on := 15, ground := Ground.data }, { on := 16, ground := Ground.data }, { on := 13, ground := Ground.guard }], guard := some (13, false) }) (v := ?_) rfl (by kernel_rfl) (by kernel_rfl) (by kernel_rfl) (fun _ _ _ h => h) (Or.inl ⟨by rfl, ?_⟩) (by assumption) ?_
              rotate_left
              · intro w hSw; (try dsimp only at hSw); go_simp; first | done | with_reducible rfl
              try simp only [Act.put, List.setIfInBounds_toArray, List.set_cons_zero, List.set_cons_succ]
              refine wpAnyH_take (i := 18) (oi := { dst := some 103, op := Op.fieldAddr 79 (Operand.tmp 102) 0, type := 0, pos := "right.go:116", after := #[{ on := 17, ground := Ground.data }, { on := 13, ground := Ground.guard }], guard := some (13, false) }) (v := ?_) rfl (by kernel_rfl) (by kernel_rfl) (by kernel_rfl) (fun _ _ _ h => h) (Or.inl ⟨by rfl, ?_⟩) (by assumption) ?_
              rotate_left
              · intro w hSw; (try dsimp only at hSw); go_simp; first | done | with_reducible rfl
              try simp only [Act.put, List.setIfInBounds_toArray, List.set_cons_zero, List.set_cons_succ]
              refine wpAnyH_take (i := 19) (oi := { dst := some 104, op := Op.load 77 (Operand.tmp 103), type := 77, pos := "right.go:116", after := #[{ on := 18, ground := Ground.data }, { on := 13, ground := Ground.guard }], guard := some (13, false) }) (v := ?_) rfl (by kernel_rfl) (by kernel_rfl) (by kernel_rfl) (fun _ _ _ h => h) (Or.inl ⟨by rfl, ?_⟩) (by assumption) ?_
              rotate_left
              · intro w hSw; (try dsimp only at hSw); go_simp; first | done | with_reducible rfl
              try simp only [Act.put, List.setIfInBounds_toArray, List.set_cons_zero, List.set_cons_succ]
              refine wpAnyH_take (i := 20) (oi := { dst := some 105, op := Op.binOp BinOp.eql 77 (Operand.tmp 104) (Operand.const (Value.int IntKind.u8 31)) 77, type := 4, pos := "right.go:116", after := #[{ on := 19, ground := Ground.data }, { on := 13, ground := Ground.guard }], guard := some (13, false) }) (v := .bool false) rfl (by kernel_rfl) (by kernel_rfl) (by kernel_rfl) (fun _ _ _ h => h) (Or.inl ⟨by rfl, ?_⟩) (by assumption) ?_
              · intro w hSw; (try dsimp only at hSw); first | (go_simp; done) | (go_simp; simp_all; done) | (go_simp; omega)
              try simp only [Act.put, List.setIfInBounds_toArray, List.set_cons_zero, List.set_cons_succ]
              refine wpAnyH_take (i := 21) (oi := { dst := some 106, op := Op.move (Operand.tmp 105), type := 4, pos := "right.go:116", after := #[{ on := 20, ground := Ground.data }, { on := 13, ground := Ground.chain }, { on := 13, ground := Ground.guard }], guard := some (13, false) }) (v := ?_) rfl (by kernel_rfl) (by kernel_rfl) (by kernel_rfl) (fun _ _ _ h => h) (Or.inl ⟨by rfl, ?_⟩) (by assumption) ?_
              rotate_left
              · intro w hSw; (try dsimp only at hSw); go_simp; first | done | with_reducible rfl
              try simp only [Act.put, List.setIfInBounds_toArray, List.set_cons_zero, List.set_cons_succ]
              refine wpAnyH_take (i := 22) (oi := { dst := some 107, op := Op.fieldAddr 52 (Operand.tmp 2) 1, type := 0, pos := "right.go:116", after := #[{ on := 21, ground := Ground.guard }], guard := some (21, true) }) (v := undef) rfl (by kernel_rfl) (by kernel_rfl) (by kernel_rfl) (fun _ _ _ h => h) (Or.inr ⟨by rfl, rfl⟩) (by assumption) ?_
              try simp only [Act.put, List.setIfInBounds_toArray, List.set_cons_zero, List.set_cons_succ]
              refine wpAnyH_take (i := 23) (oi := { dst := some 108, op := Op.load 50 (Operand.tmp 107), type := 50, pos := "right.go:116", after := #[{ on := 22, ground := Ground.data }, { on := 21, ground := Ground.guard }], guard := some (21, true) }) (v := undef) rfl (by kernel_rfl) (by kernel_rfl) (by kernel_rfl) (fun _ _ _ h => h) (Or.inr ⟨by rfl, rfl⟩) (by assumption) ?_
              try simp only [Act.put, List.setIfInBounds_toArray, List.set_cons_zero, List.set_cons_succ]
              refine wpAnyH_take (i := 24) (oi := { dst := some 109, op := Op.move (Operand.tmp 8), type := 3, pos := "right.go:116", after := #[{ on := 21, ground := Ground.guard }], guard := some (21, true) }) (v := undef) rfl (by kernel_rfl) (by kernel_rfl) (by kernel_rfl) (fun _ _ _ h => h) (Or.inr ⟨by rfl, rfl⟩) (by assumption) ?_
              try simp only [Act.put, List.setIfInBounds_toArray, List.set_cons_zero, List.set_cons_succ]
              refine wpAnyH_take (i := 25) (oi := { dst := some 110, op := Op.indexAddr 50 (Operand.tmp 108) (Operand.tmp 109), type := 0, pos := "right.go:116", after := #[{ on := 23, ground := Ground.data }, { on := 24, ground := Ground.data }, { on := 21, ground := Ground.guard }], guard := some (21, true) }) (v := undef) rfl (by kernel_rfl) (by kernel_rfl) (by kernel_rfl) (fun _ _ _ h => h) (Or.inr ⟨by rfl, rfl⟩) (by assumption) ?_
              try simp only [Act.put, List.setIfInBounds_toArray, List.set_cons_zero, List.set_cons_succ]
              refine wpAnyH_take (i := 26) (oi := { dst := some 111, op := Op.fieldAddr 79 (Operand.tmp 110) 4, type := 0, pos := "right.go:116", after := #[{ on := 25, ground := Ground.data }, { on := 21, ground := Ground.guard }], guard := some (21, true) }) (v := undef) rfl (by kernel_rfl) (by kernel_rfl) (by kernel_rfl) (fun _ _ _ h => h) (Or.inr ⟨by rfl, rfl⟩) (by assumption) ?_
              try simp only [Act.put, List.setIfInBounds_toArray, List.set_cons_zero, List.set_cons_succ]
              refine wpAnyH_take (i := 27) (oi := { dst := some 112, op := Op.load 3 (Operand.tmp 111), type := 3, pos := "right.go:116", after := #[{ on := 26, ground := Ground.data }, { on := 21, ground := Ground.guard }], guard := some (21, true) }) (v := undef) rfl (by kernel_rfl) (by kernel_rfl) (by kernel_rfl) (fun _ _ _ h => h) (Or.inr ⟨by rfl, rfl⟩) (by assumption) ?_
              try simp only [Act.put, List.setIfInBounds_toArray, List.set_cons_zero, List.set_cons_succ]
              refine wpAnyH_take (i := 28) (oi := { dst := some 113, op := Op.move (Operand.tmp 1), type := 3, pos := "right.go:116", after := #[{ on := 21, ground := Ground.guard }], guard := some (21, true) }) (v := undef) rfl (by kernel_rfl) (by kernel_rfl) (by kernel_rfl) (fun _ _ _ h => h) (Or.inr ⟨by rfl, rfl⟩) (by assumption) ?_
              try simp only [Act.put, List.setIfInBounds_toArray, List.set_cons_zero, List.set_cons_succ]
              refine wpAnyH_take (i := 29) (oi := { dst := some 114, op := Op.binOp BinOp.geq 3 (Operand.tmp 112) (Operand.tmp 113) 3, type := 4, pos := "right.go:116", after := #[{ on := 27, ground := Ground.data }, { on := 28, ground := Ground.data }, { on := 21, ground := Ground.guard }], guard := some (21, true) }) (v := undef) rfl (by kernel_rfl) (by kernel_rfl) (by kernel_rfl) (fun _ _ _ h => h) (Or.inr ⟨by rfl, rfl⟩) (by assumption) ?_
              try simp only [Act.put, List.setIfInBounds_toArray, List.set_cons_zero, List.set_cons_succ]
              refine wpAnyH_take (i := 30) (oi := { dst := some 115, op := Op.pick (Operand.tmp 106) (Operand.tmp 114) (Operand.const (Value.bool false)), type := 4, pos := "right.go:116", after := #[{ on := 21, ground := Ground.data }, { on := 29, ground := Ground.data }, { on := 13, ground := Ground.guard }], guard := some (13, false) }) (v := ?_) rfl (by kernel_rfl) (by kernel_rfl) (by kernel_rfl) (fun _ _ _ h => h) (Or.inl ⟨by rfl, ?_⟩) (by assumption) ?_
              rotate_left
              · intro w hSw; (try dsimp only at hSw); go_simp; first | done | with_reducible rfl
              try simp only [Act.put, List.setIfInBounds_toArray, List.set_cons_zero, List.set_cons_succ]
              refine wpAnyH_take (i := 31) (oi := { dst := some 116, op := Op.pick (Operand.tmp 98) (Operand.const (Value.bool true)) (Operand.tmp 115), type := 4, pos := "right.go:116", after := #[{ on := 13, ground := Ground.data }, { on := 30, ground := Ground.data }], guard := none }) (v := ?_) rfl (by kernel_rfl) (by kernel_rfl) (by kernel_rfl) (fun _ _ _ h => h) (Or.inl ⟨by rfl, ?_⟩) (by assumption) ?_
              rotate_left
              · intro w hSw; (try dsimp only at hSw); go_simp; first | done | with_reducible rfl
              try simp only [Act.put, List.setIfInBounds_toArray, List.set_cons_zero, List.set_cons_succ]
              refine wpAnyH_done (by kernel_rfl) ?_ _
              clear KS hHeld
              go_wp2_with fail
              replace hG := Hid.mk (hG.out.trans hG0)
              go_roundw
              case rel => exact ⟨k2 + 1, by simp, by omega, ⟨hsf.out, hG.out⟩⟩
              case measure => simp [intOf]; omega
            · have j2' : (c.code.length : Int) ≤ t.m := by omega
              rw [if_neg (by simpa using j2)] at hsf
              replace j2 := Hid.mk j2
              replace hG := Hid.mk hG
              replace hsf := Hid.mk hsf
              go_wp2_with fail
              refine (hT _).mono ?_
              rintro x w2 ⟨rfl, hG2⟩
              have X2 := X1.out.gr hG2
              have c0' := (hG2.cell hb4 _).trans c0
              have c4' := (hG2.cell hb4 _).trans c4
              have hb5 : b2 < w2.heap.size := Nat.lt_of_lt_of_le hb4 (gr_size hG2)
              replace hG := Hid.mk (hG.out.trans hG2)
              clear z0 p0 f0 hG2 hT c0 c1 c2 c3 c4 hb4 X1
              have ⟨z1, p1, f1⟩ := X2.at
              replace X2 := Hid.mk X2
              go_wp2_with fail
              refine (hJ _).mono ?_
              rintro x w3 ⟨rfl, rfl⟩
              go_wp2_with fail
              have KS : ∀ W, Gr w2 W → W.cell? ⟨w.heap.size, 1, none⟩ = some (.slice (some ⟨b2, off2, none⟩) c.code.length kc) ∧ W.cell? ⟨b2, off2 + k2 * 5, none⟩ = some (.int .u8 t.op) ∧ W.cell? ⟨b2, off2 + k2 * 5 + 1 + 1 + 1 + 1, none⟩ = some (.int .i64 t.m) := fun W hW => ⟨(hW.cell z1 1).trans (p1 1), (hW.cell hb5 _).trans c0', (hW.cell hb5 _).trans c4'⟩
              replace KS := Hid.mk KS
              have hG0 : Gr w2 w2.drew := (Gr.refl _).drew
              refine wp_region_held_drew (S := fun W => W.cell? ⟨w.heap.size, 1, none⟩ = some (.slice (some ⟨b2, off2, none⟩) c.code.length kc) ∧ W.cell? ⟨b2, off2 + k2 * 5, none⟩ = some (.int .u8 t.op) ∧ W.cell? ⟨b2, off2 + k2 * 5 + 1 + 1 + 1 + 1, none⟩ = some (.int .i64 t.m)) (by kernel_rfl) (KS.out _ hG0) (fun hHeld => ?_)
              refine wpAnyH_take (i := 0) (oi := { dst := some 85, op := Op.move (Operand.tmp 10), type := 4, pos := "right.go:116", after := #[], guard := none }) (v := ?_) rfl (by kernel_rfl) (by kernel_rfl) (by kernel_rfl) (fun _ _ _ h => h) (Or.inl ⟨by rfl, ?_⟩) (by assumption) ?_
              rotate_left
              · intro w hSw; (try dsimp only at hSw); go_simp; first | done | with_reducible rfl
              try simp only [Act.put, List.setIfInBounds_toArray, List.set_cons_zero, List.set_cons_succ]
              refine wpAnyH_take (i := 1) (oi := { dst := some 86, op := Op.move (Operand.tmp 85), type := 4, pos := "right.go:116", after := #[{ on := 0, ground := Ground.data }], guard := none }) (v := ?_) rfl (by kernel_rfl) (by kernel_rfl) (by kernel_rfl) (fun _ _ _ h => h) (Or.inl ⟨by rfl, ?_⟩) (by assumption) ?_
              rotate_left
              · intro w hSw; (try dsimp only at hSw); go_simp; first | done | with_reducible rfl
              try simp only [Act.put, List.setIfInBounds_toArray, List.set_cons_zero, List.set_cons_succ]
              refine wpAnyH_take (i := 2) (oi := { dst := some 87, op := Op.fieldAddr 52 (Operand.tmp 2) 1, type := 0, pos := "right.go:116", after := #[{ on := 1, ground := Ground.guard }], guard := some (1, true) }) (v := ?_) rfl (by kernel_rfl) (by kernel_rfl) (by kernel_rfl) (fun _ _ _ h => h) (Or.inl ⟨by rfl, ?_⟩) (by assumption) ?_
              rotate_left
              · intro w hSw; (try dsimp only at hSw); go_simp; first | done | with_reducible rfl
              try simp only [Act.put, List.setIfInBounds_toArray, List.set_cons_zero, List.set_cons_succ]
              refine wpAnyH_take (i := 3) (oi := { dst := some 88, op := Op.load 50 (Operand.tmp 87), type := 50, pos := "right.go:116", after := #[{ on := 2, ground := Ground.data }, { on := 1, ground := Ground.guard }], guard := some (1, true) }) (v := ?_) rfl (by kernel_rfl) (by kernel_rfl) (by kernel_rfl) (fun _ _ _ h => h) (Or.inl ⟨by rfl, ?_⟩) (by assumption) ?_
              rotate_left
              · intro w hSw; (try dsimp only at hSw); go_simp; first | done | with_reducible rfl
              try simp only [Act.put, List.setIfInBounds_toArray, List.set_cons_zero, List.set_cons_succ]
              refine wpAnyH_take (i := 4) (oi := { dst := some 89, op := Op.move (Operand.tmp 8), type := 3, pos := "right.go:116", after := #[{ on := 1, ground := Ground.guard }], guard := some (1, true) }) (v := ?_) rfl (by kernel_rfl) (by kernel_rfl) (by kernel_rfl) (fun _ _ _ h => h) (Or.inl ⟨by rfl, ?_⟩) (by assumption) ?_
              rotate_left
              · intro w hSw; (try dsimp only at hSw); go_simp; first | done | with_reducible rfl
              try simp only [Act.put, List.setIfInBounds_toArray, List.set_cons_zero, List.set_cons_succ]
              refine wpAnyH_take (i := 5) (oi := { dst := some 90, op := Op.indexAddr 50 (Operand.tmp 88) (Operand.tmp 89), type := 0, pos := "right.go:116", after := #[{ on := 3, ground := Ground.data }, { on := 4, ground := Ground.data }, { on := 1, ground := Ground.guard }], guard := some (1, true) }) (v := ?_) rfl (by kernel_rfl) (by kernel_rfl) (by kernel_rfl) (fun _ _ _ h => h) (Or.inl ⟨by rfl, ?_⟩) (by assumption) ?_
              rotate_left
              · intro w hSw; (try dsimp only at hSw); go_simp; first | done | with_reducible rfl
              try simp only [Act.put, List.setIfInBounds_toArray, List.set_cons_zero, List.set_cons_succ]
              refine wpAnyH_take (i := 6) (oi := { dst := some 91, op := Op.fieldAddr 79 (Operand.tmp 90) 4, type := 0, pos := "right.go:116", after := #[{ on := 5, ground := Ground.data }, { on := 1, ground := Ground.guard }], guard := some (1, true) }) (v := ?_) rfl (by kernel_rfl) (by kernel_rfl) (by kernel_rfl) (fun _ _ _ h => h) (Or.inl ⟨by rfl, ?_⟩) (by assumption) ?_
              rotate_left
              · intro w hSw; (try dsimp only at hSw); go_simp; first | done | with_reducible rfl
              try simp only [Act.put, List.setIfInBounds_toArray, List.set_cons_zero, List.set_cons_succ]
              refine wpAnyH_take (i := 7) (oi := { dst := some 92, op := Op.load 3 (Operand.tmp 91), type := 3, pos := "right.go:116", after := #[{ on := 6, ground := Ground.data }, { on := 1, ground := Ground.guard }], guard := some (1, true) }) (v := ?_) rfl (by kernel_rfl) (by kernel_rfl) (by kernel_rfl) (fun _ _ _ h => h) (Or.inl ⟨by rfl, ?_⟩) (by assumption) ?_
              rotate_left
              · intro w hSw; (try dsimp only at hSw); go_simp; first | done | with_reducible rfl
              try simp only [Act.put, List.setIfInBounds_toArray, List.set_cons_zero, List.set_cons_succ]
              refine wpAnyH_take (i := 8) (oi := { dst := some 93, op := Op.fieldAddr 52 (Operand.tmp 2) 1, type := 0, pos := "right.go:116", after := #[{ on := 1, ground := Ground.guard }], guard := some (1, true) }) (v := ?_) rfl (by kernel_rfl) (by kernel_rfl) (by kernel_rfl) (fun _ _ _ h => h) (Or.inl ⟨by rfl, ?_⟩) (by assumption) ?_
              rotate_left
              · intro w hSw; (try dsimp only at hSw); go_simp; first | done | with_reducible rfl
              try simp only [Act.put, List.setIfInBounds_toArray, List.set_cons_zero, List.set_cons_succ]
              refine wpAnyH_take (i := 9) (oi := { dst := some 94, op := Op.load 50 (Operand.tmp 93), type := 50, pos := "right.go:116", after := #[{ on := 8, ground := Ground.data }, { on := 1, ground := Ground.guard }], guard := some (1, true) }) (v := ?_) rfl (by kernel_rfl) (by kernel_rfl) (by kernel_rfl) (fun _ _ _ h => h) (Or.inl ⟨by rfl, ?_⟩) (by assumption) ?_
              rotate_left
              · intro w hSw; (try dsimp only at hSw); go_simp; first | done | with_reducible rfl
              try simp only [Act.put, List.setIfInBounds_toArray, List.set_cons_zero, List.set_cons_succ]
              refine wpAnyH_take (i := 10) (oi := { dst := some 95, op := Op.call { callee := Callee.builtin Builtin.len, args := #[Operand.tmp 94], argTypes := #[50] }, type := 3, pos := "right.go:116", after := #[{ on := 9, ground := Ground.data }, { on := 1, ground := Ground.guard }], guard := some (1, true) }) (v := ?_) rfl (by kernel_rfl) (by kernel_rfl) (by kernel_rfl) (fun _ _ _ h => h) (Or.inl ⟨by rfl, ?_⟩) (by assumption) ?_
              rotate_left
              · intro w hSw; (try dsimp only at hSw); go_simp; first | done | with_reducible rfl
              try simp only [Act.put, List.setIfInBounds_toArray, List.set_cons_zero, List.set_cons_succ]
              refine wpAnyH_take (i := 11) (oi := { dst := some 96, op := Op.binOp BinOp.geq 3 (Operand.tmp 92) (Operand.tmp 95) 3, type := 4, pos := "right.go:116", after := #[{ on := 7, ground := Ground.data }, { on := 10, ground := Ground.data }, { on := 1, ground := Ground.guard }], guard := some (1, true) }) (v := .bool true) rfl (by kernel_rfl) (by kernel_rfl) (by kernel_rfl) (fun _ _ _ h => h) (Or.inl ⟨by rfl, ?_⟩) (by assumption) ?_
              · intro w hSw; (try dsimp only at hSw); first | (go_simp; done) | (go_simp; simp_all; done) | (go_simp; omega)
              try simp only [Act.put, List.setIfInBounds_toArray, List.set_cons_zero, List.set_cons_succ]
              refine wpAnyH_take (i := 12) (oi := { dst := some 97, op := Op.pick (Operand.tmp 86) (Operand.tmp 96) (Operand.const (Value.bool false)), type := 4, pos := "right.go:116", after := #[{ on := 1, ground := Ground.data }, { on := 11, ground := Ground.data }], guard := none }) (v := ?_) rfl (by kernel_rfl) (by kernel_rfl) (by kernel_rfl) (fun _ _ _ h => h) (Or.inl ⟨by rfl, ?_⟩) (by assumption) ?_
              rotate_left
              · intro w hSw; (try dsimp only at hSw); go_simp; first | done | with_reducible rfl
              try simp only [Act.put, List.setIfInBounds_toArray, List.set_cons_zero, List.set_cons_succ]
              refine wpAnyH_take (i := 13) (oi := { dst := some 98, op := Op.move (Operand.tmp 97), type := 4, pos := "right.go:116", after := #[{ on := 12, ground := Ground.data }, { on := 1, ground := Ground.chain }], guard := none }) (v := ?_) rfl (by kernel_rfl) (by kernel_rfl) (by kernel_rfl) (fun _ _ _ h => h) (Or.inl ⟨by rfl, ?_⟩) (by assumption) ?_
              rotate_left
              · intro w hSw; (try dsimp only at hSw); go_simp; first | done | with_reducible rfl
              try simp only [Act.put, List.setIfInBounds_toArray, List.set_cons_zero, List.set_cons_succ]
              refine wpAnyH_take (i := 14) (oi := { dst := some 99, op := Op.fieldAddr 52 (Operand.tmp 2) 1, type := 0, pos := "right.go:116", after := #[{ on := 13, ground := Ground.guard }], guard := some (13, false) }) (v := undef) rfl (by kernel_rfl) (by kernel_rfl) (by kernel_rfl) (fun _ _ _ h => h) (Or.inr ⟨by rfl, rfl⟩) (by assumption) ?_
              try simp only [Act.put, List.setIfInBounds_toArray, List.set_cons_zero, List.set_cons_succ]
              refine wpAnyH_take (i := 15) (oi := { dst := some 100, op := Op.load 50 (Operand.tmp 99), type := 50, pos := "right.go:116", after := #[{ on := 14, ground := Ground.data }, { on := 13, ground := Ground.guard }], guard := some (13, false) }) (v := undef) rfl (by kernel_rfl) (by kernel_rfl) (by kernel_rfl) (fun _ _ _ h => h) (Or.inr ⟨by rfl, rfl⟩) (by assumption) ?_
              try simp only [Act.put, List.setIfInBounds_toArray, List.set_cons_zero, List.set_cons_succ]
              refine wpAnyH_take (i := 16) (oi := { dst := some 101, op := Op.move (Operand.tmp 8), type := 3, pos := "right.go:116", after := #[{ on := 13, ground := Ground.guard }], guard := some (13, false) }) (v := undef) rfl (by kernel_rfl) (by kernel_rfl) (by kernel_rfl) (fun _ _ _ h => h) (Or.inr ⟨by rfl, rfl⟩) (by assumption) ?_
              try simp only [Act.put, List.setIfInBounds_toArray, List.set_cons_zero, List.set_cons_succ]
              refine wpAnyH_take (i := 17) (oi := { dst := some 102, op := Op.indexAddr 50 (Operand.tmp 100) (Operand.tmp 101), type := 0, pos := "right.go:116", after := #[{ on := 15, ground := Ground.data }, { on := 16, ground := Ground.data }, { on := 13, ground := Ground.guard }], guard := some (13, false) }) (v := undef) rfl (by kernel_rfl) (by kernel_rfl) (by kernel_rfl) (fun _ _ _ h => h) (Or.inr ⟨by rfl, rfl⟩) (by assumption) ?_
              try simp only [Act.put, List.setIfInBounds_toArray, List.set_cons_zero, List.set_cons_succ]
              refine wpAnyH_take (i := 18) (oi := { dst := some 103, op := Op.fieldAddr 79 (Operand.tmp 102) 0, type := 0, pos := "right.go:116", after := #[{ on := 17, ground := Ground.data }, { on := 13, ground := Ground.guard }], guard := some (13, false) }) (v := undef) rfl (by kernel_rfl) (by kernel_rfl) (by kernel_rfl) (fun _ _ _ h => h) (Or.inr ⟨by rfl, rfl⟩) (by assumption) ?_
              try simp only [Act.put, List.setIfInBounds_toArray, List.set_cons_zero, List.set_cons_succ]
              refine wpAnyH_take (i := 19) (oi := { dst := some 104, op := Op.load 77 (Operand.tmp 103), type := 77, pos := "right.go:116", after := #[{ on := 18, ground := Ground.data }, { on := 13, ground := Ground.guard }], guard := some (13, false) }) (v := undef) rfl (by kernel_rfl) (by kernel_rfl) (by kernel_rfl) (fun _ _ _ h => h) (Or.inr ⟨by rfl, rfl⟩) (by assumption) ?_
              try simp only [Act.put, List.setIfInBounds_toArray, List.set_cons_zero, List.set_cons_succ]
              refine wpAnyH_take (i := 20) (oi := { dst := some 105, op := Op.binOp BinOp.eql 77 (Operand.tmp 104) (Operand.const (Value.int IntKind.u8 31)) 77, type := 4, pos := "right.go:116", after := #[{ on := 19, ground := Ground.data }, { on := 13, ground := Ground.guard }], guard := some (13, false) }) (v := undef) rfl (by kernel_rfl) (by kernel_rfl) (by kernel_rfl) (fun _ _ _ h => h) (Or.inr ⟨by rfl, rfl⟩) (by assumption) ?_
              try simp only [Act.put, List.setIfInBounds_toArray, List.set_cons_zero, List.set_cons_succ]
              refine wpAnyH_take (i := 21) (oi := { dst := some 106, op := Op.move (Operand.tmp 105), type := 4, pos := "right.go:116", after := #[{ on := 20, ground := Ground.data }, { on := 13, ground := Ground.chain }, { on := 13, ground := Ground.guard }], guard := some (13, false) }) (v := undef) rfl (by kernel_rfl) (by kernel_rfl) (by kernel_rfl) (fun _ _ _ h => h) (Or.inr ⟨by rfl, rfl⟩) (by assumption) ?_
              try simp only [Act.put, List.setIfInBounds_toArray, List.set_cons_zero, List.set_cons_succ]
              refine wpAnyH_take (i := 22) (oi := { dst := some 107, op := Op.fieldAddr 52 (Operand.tmp 2) 1, type := 0, pos := "right.go:116", after := #[{ on := 21, ground := Ground.guard }], guard := some (21, true) }) (v := undef) rfl (by kernel_rfl) (by kernel_rfl) (by kernel_rfl) (fun _ _ _ h => h) (Or.inr ⟨by rfl, rfl⟩) (by assumption) ?_
              try simp only [Act.put, List.setIfInBounds_toArray, List.set_cons_zero, List.set_cons_succ]
              refine wpAnyH_take (i := 23) (oi := { dst := some 108, op := Op.load 50 (Operand.tmp 107), type := 50, pos := "right.go:116", after := #[{ on := 22, ground := Ground.data }, { on := 21, ground := Ground.guard }], guard := some (21, true) }) (v := undef) rfl (by kernel_rfl) (by kernel_rfl) (by kernel_rfl) (fun _ _ _ h => h) (Or.inr ⟨by rfl, rfl⟩) (by assumption) ?_
              try simp only [Act.put, List.setIfInBounds_toArray, List.set_cons_zero, List.set_cons_succ]
              refine wpAnyH_take (i := 24) (oi := { dst := some 109, op := Op.move (Operand.tmp 8), type := 3, pos := "right.go:116", after := #[{ on := 21, ground := Ground.guard }], guard := some (21, true) }) (v := undef) rfl (by kernel_rfl) (by kernel_rfl) (by kernel_rfl) (fun _ _ _ h => h) (Or.inr ⟨by rfl, rfl⟩) (by assumption) ?_
              try simp only [Act.put, List.setIfInBounds_toArray, List.set_cons_zero, List.set_cons_succ]
              refine wpAnyH_take (i := 25) (oi := { dst := some 110, op := Op.indexAddr 50 (Operand.tmp 108) (Operand.tmp 109), type := 0, pos := "right.go:116", after := #[{ on := 23, ground := Ground.data }, { on := 24, ground := Ground.data }, { on := 21, ground := Ground.guard }], guard := some (21, true) }) (v := undef) rfl (by kernel_rfl) (by kernel_rfl) (by kernel_rfl) (fun _ _ _ h => h) (Or.inr ⟨by rfl, rfl⟩) (by assumption) ?_
              try simp only [Act.put, List.setIfInBounds_toArray, List.set_cons_zero, List.set_cons_succ]
              refine wpAnyH_take (i := 26) (oi := { dst := some 111, op := Op.fieldAddr 79 (Operand.tmp 110) 4, type := 0, pos := "right.go:116", after := #[{ on := 25, ground := Ground.data }, { on := 21, ground := Ground.guard }], guard := some (21, true) }) (v := undef) rfl (by kernel_rfl) (by kernel_rfl) (by kernel_rfl) (fun _ _ _ h => h) (Or.inr ⟨by rfl, rfl⟩) (by assumption) ?_
              try simp only [Act.put, List.setIfInBounds_toArray, List.set_cons_zero, List.set_cons_succ]
              refine wpAnyH_take (i := 27) (oi := { dst := some 112, op := Op.load 3 (Operand.tmp 111), type := 3, pos := "right.go:116", after := #[{ on := 26, ground := Ground.data }, { on := 21, ground := Ground.guard }], guard := some (21, true) }) (v := undef) rfl (by kernel_rfl) (by kernel_rfl) (by kernel_rfl) (fun _ _ _ h => h) (Or.inr ⟨by rfl, rfl⟩) (by assumption) ?_
              try simp only [Act.put, List.setIfInBounds_toArray, List.set_cons_zero, List.set_cons_succ]
              refine wpAnyH_take (i := 28) (oi := { dst := some 113, op := Op.move (Operand.tmp 1), type := 3, pos := "right.go:116", after := #[{ on := 21, ground := Ground.guard }], guard := some (21, true) }) (v := undef) rfl (by kernel_rfl) (by kernel_rfl) (by kernel_rfl) (fun _ _ _ h => h) (Or.inr ⟨by rfl, rfl⟩) (by assumption) ?_
              try simp only [Act.put, List.setIfInBounds_toArray, List.set_cons_zero, List.set_cons_succ]
              refine wpAnyH_take (i := 29) (oi := { dst := some 114, op := Op.binOp BinOp.geq 3 (Operand.tmp 112) (Operand.tmp 113) 3, type := 4, pos := "right.go:116", after := #[{ on := 27, ground := Ground.data }, { on := 28, ground := Ground.data }, { on := 21, ground := Ground.guard }], guard := some (21, true) }) (v := undef) rfl (by kernel_rfl) (by kernel_rfl) (by kernel_rfl) (fun _ _ _ h => h) (Or.inr ⟨by rfl, rfl⟩) (by assumption) ?_
              try simp only [Act.put, List.setIfInBounds_toArray, List.set_cons_zero, List.set_cons_succ]
              refine wpAnyH_take (i := 30) (oi := { dst := some 115, op := Op.pick (Operand.tmp 106) (Operand.tmp 114) (Operand.const (Value.bool false)), type := 4, pos := "right.go:116", after := #[{ on := 21, ground := Ground.data }, { on := 29, ground := Ground.data }, { on := 13, ground := Ground.guard }], guard := some (13, false) }) (v := undef) rfl (by kernel_rfl) (by kernel_rfl) (by kernel_rfl) (fun _ _ _ h => h) (Or.inr ⟨by rfl, rfl⟩) (by assumption) ?_
              try simp only [Act.put, List.setIfInBounds_toArray, List.set_cons_zero, List.set_cons_succ]
              refine wpAnyH_take (i := 31) (oi := { dst := some 116, op := Op.pick (Operand.tmp 98) (Operand.const (Value.bool true)) (Operand.tmp 115), type := 4, pos := "right.go:116", after := #[{ on := 13, ground := Ground.data }, { on := 30, ground := Ground.data }], guard := none }) (v := ?_) rfl (by kernel_rfl) (by kernel_rfl) (by kernel_rfl) (fun _ _ _ h => h) (Or.inl ⟨by rfl, ?_⟩) (by assumption) ?_
              rotate_left
              · intro w hSw; (try dsimp only at hSw); go_simp; first | done | with_reducible rfl
              try simp only [Act.put, List.setIfInBounds_toArray, List.set_cons_zero, List.set_cons_succ]
              refine wpAnyH_done (by kernel_rfl) ?_ _
              clear KS hHeld
              go_wp2_with fail
              replace hG := Hid.mk (hG.out.trans hG0)
              go_ret
              exact ⟨retI (by rw [hq.out, ← hsf.out]), hGR.out.trans hG.out⟩
          · have jd : decide (20 ≤ t.op ∧ t.op ≤ 25) = false := by simpa using j1
            rw [jd] at hJ
            clear jd
            by_cases j3 : t.op = 31
            · have o31 : (t.op == 31) = true := by simpa using j3
              have htg : tgtB t.op t.m c.code.length g = decide (t.m < g) := by unfold tgtB; rw [if_neg j1, if_pos j3]
              rw [htg] at hsf
              clear htg
              replace j1 := Hid.mk j1
              replace j3 := Hid.mk j3
              by_cases j2 : t.m < g
              · have j2' : ¬ g ≤ t.m := by omega
                rw [if_pos (by simpa using j2)] at hsf
                replace j2 := Hid.mk j2
                replace hG := Hid.mk hG
                replace hsf := Hid.mk hsf
                go_wp2_with fail
                refine (hT _).mono ?_
                rintro x w2 ⟨rfl, hG2⟩
                have X2 := X1.out.gr hG2
                have c0' := (hG2.cell hb4 _).trans c0
                have c4' := (hG2.cell hb4 _).trans c4
                have hb5 : b2 < w2.heap.size := Nat.lt_of_lt_of_le hb4 (gr_size hG2)
                replace hG := Hid.mk (hG.out.trans hG2)
                clear z0 p0 f0 hG2 hT c0 c1 c2 c3 c4 hb4 X1
                have ⟨z1, p1, f1⟩ := X2.at
                replace X2 := Hid.mk X2
                go_wp2_with fail
                refine (hJ _).mono ?_
                rintro x w3 ⟨rfl, rfl⟩
                go_wp2_with fail
                have KS : ∀ W, Gr w2 W → W.cell? ⟨w.heap.size, 1, none⟩ = some (.slice (some ⟨b2, off2, none⟩) c.code.length kc) ∧ W.cell? ⟨b2, off2 + k2 * 5, none⟩ = some (.int .u8 t.op) ∧ W.cell? ⟨b2, off2 + k2 * 5 + 1 + 1 + 1 + 1, none⟩ = some (.int .i64 t.m) := fun W hW => ⟨(hW.cell z1 1).trans (p1 1), (hW.cell hb5 _).trans c0', (hW.cell hb5 _).trans c4'⟩
                replace KS := Hid.mk KS
                have hG0 : Gr w2 w2.drew := (Gr.refl _).drew
                refine wp_region_held_drew (S := fun W => W.cell? ⟨w.heap.size, 1, none⟩ = some (.slice (some ⟨b2, off2, none⟩) c.code.length kc) ∧ W.cell? ⟨b2, off2 + k2 * 5, none⟩ = some (.int .u8 t.op) ∧ W.cell? ⟨b2, off2 + k2 * 5 + 1 + 1 + 1 + 1, none⟩ = some (.int .i64 t.m)) (by kernel_rfl) (KS.out _ hG0) (fun hHeld => ?_)
                refine wpAnyH_take (i := 0) (oi := { dst := some 85, op := Op.move (Operand.tmp 10), type := 4, pos := "right.go:116", after := #[], guard := none }) (v := ?_) rfl (by kernel_rfl) (by kernel_rfl) (by kernel_rfl) (fun _ _ _ h => h) (Or.inl ⟨by rfl, ?_⟩) (by assumption) ?_
                rotate_left
                · intro w hSw; (try dsimp only at hSw); go_simp; first | done | with_reducible rfl
                try simp only [Act.put, List.setIfInBounds_toArray, List.set_cons_zero, List.set_cons_succ]
                refine wpAnyH_take (i := 1) (oi := { dst := some 86, op := Op.move (Operand.tmp 85), type := 4, pos := "right.go:116", after := #[{ on := 0, ground := Ground.data }], guard := none }) (v := ?_) rfl (by kernel_rfl) (by kernel_rfl) (by kernel_rfl) (fun _ _ _ h => h) (Or.inl ⟨by rfl, ?_⟩) (by assumption) ?_
                rotate_left
                · intro w hSw; (try dsimp only at hSw); go_simp; first | done | with_reducible rfl
                try simp only [Act.put, List.setIfInBounds_toArray, List.set_cons_zero, List.set_cons_succ]
                refine wpAnyH_take (i := 2) (oi := { dst := some 87, op := Op.fieldAddr 52 (Operand.tmp 2) 1, type := 0, pos := "right.go:116", after := #[{ on := 1, ground := Ground.guard }], guard := some (1, true) }) (v := undef) rfl (by kernel_rfl) (by kernel_rfl) (by kernel_rfl) (fun _ _ _ h => h) (Or.inr ⟨by rfl, rfl⟩) (by assumption) ?_
                try simp only [Act.put, List.setIfInBounds_toArray, List.set_cons_zero, List.set_cons_succ]
                refine wpAnyH_take (i := 3) (oi := { dst := some 88, op := Op.load 50 (Operand.tmp 87), type := 50, pos := "right.go:116", after := #[{ on := 2, ground := Ground.data }, { on := 1, ground := Ground.guard }], guard := some (1, true) }) (v := undef) rfl (by kernel_rfl) (by kernel_rfl) (by kernel_rfl) (fun _ _ _ h => h) (Or.inr ⟨by rfl, rfl⟩) (by assumption) ?_
                try simp only [Act.put, List.setIfInBounds_toArray, List.set_cons_zero, List.set_cons_succ]
                refine wpAnyH_take (i := 4) (oi := { dst := some 89, op := Op.move (Operand.tmp 8), type := 3, pos := "right.go:116", after := #[{ on := 1, ground := Ground.guard }], guard := some (1, true) }) (v := undef) rfl (by kernel_rfl) (by kernel_rfl) (by kernel_rfl) (fun _ _ _ h => h) (Or.inr ⟨by rfl, rfl⟩) (by assumption) ?_
                try simp only [Act.put, List.setIfInBounds_toArray, List.set_cons_zero, List.set_cons_succ]
                refine wpAnyH_take (i := 5) (oi := { dst := some 90, op := Op.indexAddr 50 (Operand.tmp 88) (Operand.tmp 89), type := 0, pos := "right.go:116", after := #[{ on := 3, ground := Ground.data }, { on := 4, ground := Ground.data }, { on := 1, ground := Ground.guard }], guard := some (1, true) }) (v := undef) rfl (by kernel_rfl) (by kernel_rfl) (by kernel_rfl) (fun _ _ _ h => h) (Or.inr ⟨by rfl, rfl⟩) (by assumption) ?_
                try simp only [Act.put, List.setIfInBounds_toArray, List.set_cons_zero, List.set_cons_succ]
                refine wpAnyH_take (i := 6) (oi := { dst := some 91, op := Op.fieldAddr 79 (Operand.tmp 90) 4, type := 0, pos := "right.go:116", after := #[{ on := 5, ground := Ground.data }, { on := 1, ground := Ground.guard }], guard := some (1, true) }) (v := undef) rfl (by kernel_rfl) (by kernel_rfl) (by kernel_rfl) (fun _ _ _ h => h) (Or.inr ⟨by rfl, rfl⟩) (by assumption) ?_
                try simp only [Act.put, List.setIfInBounds_toArray, List.set_cons_zero, List.set_cons_succ]
                refine wpAnyH_take (i := 7) (oi := { dst := some 92, op := Op.load 3 (Operand.tmp 91), type := 3, pos := "right.go:116", after := #[{ on := 6, ground := Ground.data }, { on := 1, ground := Ground.guard }], guard := some (1, true) }) (v := undef) rfl (by kernel_rfl) (by kernel_rfl) (by kernel_rfl) (fun _ _ _ h => h) (Or.inr ⟨by rfl, rfl⟩) (by assumption) ?_
                try simp only [Act.put, List.setIfInBounds_toArray, List.set_cons_zero, List.set_cons_succ]
                refine wpAnyH_take (i := 8) (oi := { dst := some 93, op := Op.fieldAddr 52 (Operand.tmp 2) 1, type := 0, pos := "right.go:116", after := #[{ on := 1, ground := Ground.guard }], guard := some (1, true) }) (v := undef) rfl (by kernel_rfl) (by kernel_rfl) (by kernel_rfl) (fun _ _ _ h => h) (Or.inr ⟨by rfl, rfl⟩) (by assumption) ?_
                try simp only [Act.put, List.setIfInBounds_toArray, List.set_cons_zero, List.set_cons_succ]
                refine wpAnyH_take (i := 9) (oi := { dst := some 94, op := Op.load 50 (Operand.tmp 93), type := 50, pos := "right.go:116", after := #[{ on := 8, ground := Ground.data }, { on := 1, ground := Ground.guard }], guard := some (1, true) }) (v := undef) rfl (by kernel_rfl) (by kernel_rfl) (by kernel_rfl) (fun _ _ _ h => h) (Or.inr ⟨by rfl, rfl⟩) (by assumption) ?_
                try simp only [Act.put, List.setIfInBounds_toArray, List.set_cons_zero, List.set_cons_succ]
                refine wpAnyH_take (i := 10) (oi := { dst := some 95, op := Op.call { callee := Callee.builtin Builtin.len, args := #[Operand.tmp 94], argTypes := #[50] }, type := 3, pos := "right.go:116", after := #[{ on := 9, ground := Ground.data }, { on := 1, ground := Ground.guard }], guard := some (1, true) }) (v := undef) rfl (by kernel_rfl) (by kernel_rfl) (by kernel_rfl) (fun _ _ _ h => h) (Or.inr ⟨by rfl, rfl⟩) (by assumption) ?_
                try simp only [Act.put, List.setIfInBounds_toArray, List.set_cons_zero, List.set_cons_succ]
                refine wpAnyH_take (i := 11) (oi := { dst := some 96, op := Op.binOp BinOp.geq 3 (Operand.tmp 92) (Operand.tmp 95) 3, type := 4, pos := "right.go:116", after := #[{ on := 7, ground := Ground.data }, { on := 10, ground := Ground.data }, { on := 1, ground := Ground.guard }], guard := some (1, true) }) (v := undef) rfl (by kernel_rfl) (by kernel_rfl) (by kernel_rfl) (fun _ _ _ h => h) (Or.inr ⟨by rfl, rfl⟩) (by assumption) ?_
                try simp only [Act.put, List.setIfInBounds_toArray, List.set_cons_zero, List.set_cons_succ]
                refine wpAnyH_take (i := 12) (oi := { dst := some 97, op := Op.pick (Operand.tmp 86) (Operand.tmp 96) (Operand.const (Value.bool false)), type := 4, pos := "right.go:116", after := #[{ on := 1, ground := Ground.data }, { on := 11, ground := Ground.data }], guard := none }) (v := ?_) rfl (by kernel_rfl) (by kernel_rfl) (by kernel_rfl) (fun _ _ _ h => h) (Or.inl ⟨by rfl, ?_⟩) (by assumption) ?_
                rotate_left
                · intro w hSw; (try dsimp only at hSw); go_simp; first | done | with_reducible rfl
                try simp only [Act.put, List.setIfInBounds_toArray, List.set_cons_zero, List.set_cons_succ]
                refine wpAnyH_take (i := 13) (oi := { dst := some 98, op := Op.move (Operand.tmp 97), type := 4, pos := "right.go:116", after := #[{ on := 12, ground := Ground.data }, { on := 1, ground := Ground.chain }], guard := none }) (v := ?_) rfl (by kernel_rfl) (by kernel_rfl) (by kernel_rfl) (fun _ _ _ h => h) (Or.inl ⟨by rfl, ?_⟩) (by assumption) ?_
                rotate_left
                · intro w hSw; (try dsimp only at hSw); go_simp; first | done | with_reducible rfl
                try simp only [Act.put, List.setIfInBounds_toArray, List.set_cons_zero, List.set_cons_succ]
                refine wpAnyH_take (i := 14) (oi := { dst := some 99, op := Op.fieldAddr 52 (Operand.tmp 2) 1, type := 0, pos := "right.go:116", after := #[{ on := 13, ground := Ground.guard }], guard := some (13, false) }) (v := ?_) rfl (by kernel_rfl) (by kernel_rfl) (by kernel_rfl) (fun _ _ _ h => h) (Or.inl ⟨by rfl, ?_⟩) (by assumption) ?_
                rotate_left
                · intro w hSw; (try dsimp only at hSw); go_simp; first | done | with_reducible rfl
                try simp only [Act.put, List.setIfInBounds_toArray, List.set_cons_zero, List.set_cons_succ]
                refine wpAnyH_take (i := 15) (oi := { dst := some 100, op := Op.load 50 (Operand.tmp 99), type := 50, pos := "right.go:116", after := #[{ on := 14, ground := Ground.data }, { on := 13, ground := Ground.guard }], guard := some (13, false) }) (v := ?_) rfl (by kernel_rfl) (by kernel_rfl) (by kernel_rfl) (fun _ _ _ h => h) (Or.inl ⟨by rfl, ?_⟩) (by assumption) ?_
                rotate_left
                · intro w hSw; (try dsimp only at hSw); go_simp; first | done | with_reducible rfl
                try simp only [Act.put, List.setIfInBounds_toArray, List.set_cons_zero, List.set_cons_succ]
                refine wpAnyH_take (i := 16) (oi := { dst := some 101, op := Op.move (Operand.tmp 8), type := 3, pos := "right.go:116", after := #[{ on := 13, ground := Ground.guard }], guard := some (13, false) }) (v := ?_) rfl (by kernel_rfl) (by kernel_rfl) (by kernel_rfl) (fun _ _ _ h => h) (Or.inl ⟨by rfl, ?_⟩) (by assumption) ?_
                rotate_left
                · intro w hSw; (try dsimp only at hSw); go_simp; first | done | with_reducible rfl
                try simp only [Act.put, List.setIfInBounds_toArray, List.set_cons_zero, List.set_cons_succ]
                refine wpAnyH_take (i := 17) (oi := { dst := some 102, op := Op.indexAddr 50 (Operand.tmp 100) (Operand.tmp 101), type := 0, pos := "right.go:116", after := #[{ on := 15, ground := Ground.data }, { on := 16, ground := Ground.data }, { on := 13, ground := Ground.guard }], guard := some (13, false) }) (v := ?_) rfl (by kernel_rfl) (by kernel_rfl) (by kernel_rfl) (fun _ _ _ h => h) (Or.inl ⟨by rfl, ?_⟩) (by assumption) ?_
                rotate_left
                · intro w hSw; (try dsimp only at hSw); go_simp; first | done | with_reducible rfl
                try simp only [Act.put, List.setIfInBounds_toArray, List.set_cons_zero, List.set_cons_succ]
                refine wpAnyH_take (i := 18) (oi := { dst := some 103, op := Op.fieldAddr 79 (Operand.tmp 102) 0, type := 0, pos := "right.go:116", after := #[{ on := 17, ground := Ground.data }, { on := 13, ground := Ground.guard }], guard := some (13, false) }) (v := ?_) rfl (by kernel_rfl) (by kernel_rfl) (by kernel_rfl) (fun _ _ _ h => h) (Or.inl ⟨by rfl, ?_⟩) (by assumption) ?_
                rotate_left
                · intro w hSw; (try dsimp only at hSw); go_simp; first | done | with_reducible rfl
                try simp only [Act.put, List.setIfInBounds_toArray, List.set_cons_zero, List.set_cons_succ]
                refine wpAnyH_take (i := 19) (oi := { dst := some 104, op := Op.load 77 (Operand.tmp 103), type := 77, pos := "right.go:116", after := #[{ on := 18, ground := Ground.data }, { on := 13, ground := Ground.guard }], guard := some (13, false) }) (v := ?_) rfl (by kernel_rfl) (by kernel_rfl) (by kernel_rfl) (fun _ _ _ h => h) (Or.inl ⟨by rfl, ?_⟩) (by assumption) ?_
                rotate_left
                · intro w hSw; (try dsimp only at hSw); go_simp; first | done | with_reducible rfl
                try simp only [Act.put, List.setIfInBounds_toArray, List.set_cons_zero, List.set_cons_succ]
                refine wpAnyH_take (i := 20) (oi := { dst := some 105, op := Op.binOp BinOp.eql 77 (Operand.tmp 104) (Operand.const (Value.int IntKind.u8 31)) 77, type := 4, pos := "right.go:116", after := #[{ on := 19, ground := Ground.data }, { on := 13, ground := Ground.guard }], guard := some (13, false) }) (v := .bool true) rfl (by kernel_rfl) (by kernel_rfl) (by kernel_rfl) (fun _ _ _ h => h) (Or.inl ⟨by rfl, ?_⟩) (by assumption) ?_
                · intro w hSw; (try dsimp only at hSw); first | (go_simp; done) | (go_simp; simp_all; done) | (go_simp; omega)
                try simp only [Act.put, List.setIfInBounds_toArray, List.set_cons_zero, List.set_cons_succ]
                refine wpAnyH_take (i := 21) (oi := { dst := some 106, op := Op.move (Operand.tmp 105), type := 4, pos := "right.go:116", after := #[{ on := 20, ground := Ground.data }, { on := 13, ground := Ground.chain }, { on := 13, ground := Ground.guard }], guard := some (13, false) }) (v := ?_) rfl (by kernel_rfl) (by kernel_rfl) (by kernel_rfl) (fun _ _ _ h => h) (Or.inl ⟨by rfl, ?_⟩) (by assumption) ?_
                rotate_left
                · intro w hSw; (try dsimp only at hSw); go_simp; first | done | with_reducible rfl
                try simp only [Act.put, List.setIfInBounds_toArray, List.set_cons_zero, List.set_cons_succ]
                refine wpAnyH_take (i := 22) (oi := { dst := some 107, op := Op.fieldAddr 52 (Operand.tmp 2) 1, type := 0, pos := "right.go:116", after := #[{ on := 21, ground := Ground.guard }], guard := some (21, true) }) (v := ?_) rfl (by kernel_rfl) (by kernel_rfl) (by kernel_rfl) (fun _ _ _ h => h) (Or.inl ⟨by rfl, ?_⟩) (by assumption) ?_
                rotate_left
                · intro w hSw; (try dsimp only at hSw); go_simp; first | done | with_reducible rfl
                try simp only [Act.put, List.setIfInBounds_toArray, List.set_cons_zero, List.set_cons_succ]
                refine wpAnyH_take (i := 23) (oi := { dst := some 108, op := Op.load 50 (Operand.tmp 107), type := 50, pos := "right.go:116", after := #[{ on := 22, ground := Ground.data }, { on := 21, ground := Ground.guard }], guard := some (21, true) }) (v := ?_) rfl (by kernel_rfl) (by kernel_rfl) (by kernel_rfl) (fun _ _ _ h => h) (Or.inl ⟨by rfl, ?_⟩) (by assumption) ?_
                rotate_left
                · intro w hSw; (try dsimp only at hSw); go_simp; first | done | with_reducible rfl
                try simp only [Act.put, List.setIfInBounds_toArray, List.set_cons_zero, List.set_cons_succ]
                refine wpAnyH_take (i := 24) (oi := { dst := some 109, op := Op.move (Operand.tmp 8), type := 3, pos := "right.go:116", after := #[{ on := 21, ground := Ground.guard }], guard := some (21, true) }) (v := ?_) rfl (by kernel_rfl) (by kernel_rfl) (by kernel_rfl) (fun _ _ _ h => h) (Or.inl ⟨by rfl, ?_⟩) (by assumption) ?_
                rotate_left
                · intro w hSw; (try dsimp only at hSw); go_simp; first | done | with_reducible rfl
                try simp only [Act.put, List.setIfInBounds_toArray, List.set_cons_zero, List.set_cons_succ]
                refine wpAnyH_take (i := 25) (oi := { dst := some 110, op := Op.indexAddr 50 (Operand.tmp 108) (Operand.tmp 109), type := 0, pos := "right.go:116", after := #[{ on := 23, ground := Ground.data }, { on := 24, ground := Ground.data }, { on := 21, ground := Ground.guard }], guard := some (21, true) }) (v := ?_) rfl (by kernel_rfl) (by kernel_rfl) (by kernel_rfl) (fun _ _ _ h => h) (Or.inl ⟨by rfl, ?_⟩) (by assumption) ?_
                rotate_left
                · intro w hSw; (try dsimp only at hSw); go_simp; first | done | with_reducible rfl
                try simp only [Act.put, List.setIfInBounds_toArray, List.set_cons_zero, List.set_cons_succ]
                refine wpAnyH_take (i := 26) (oi := { dst := some 111, op := Op.fieldAddr 79 (Operand.tmp 110) 4, type := 0, pos := "right.go:116", after := #[{ on := 25, ground := Ground.data }, { on := 21, ground := Ground.guard }], guard := some (21, true) }) (v := ?_) rfl (by kernel_rfl) (by kernel_rfl) (by kernel_rfl) (fun _ _ _ h => h) (Or.inl ⟨by rfl, ?_⟩) (by assumption) ?_
                rotate_left
                · intro w hSw; (try dsimp only at hSw); go_simp; first | done | with_reducible rfl
                try simp only [Act.put, List.setIfInBounds_toArray, List.set_cons_zero, List.set_cons_succ]
                refine wpAnyH_take (i := 27) (oi := { dst := some 112, op := Op.load 3 (Operand.tmp 111), type := 3, pos := "right.go:116", after := #[{ on := 26, ground := Ground.data }, { on := 21, ground := Ground.guard }], guard := some (21, true) }) (v := ?_) rfl (by kernel_rfl) (by kernel_rfl) (by kernel_rfl) (fun _ _ _ h => h) (Or.inl ⟨by rfl, ?_⟩) (by assumption) ?_
                rotate_left
                · intro w hSw; (try dsimp only at hSw); go_simp; first | done | with_reducible rfl
                try simp only [Act.put, List.setIfInBounds_toArray, List.set_cons_zero, List.set_cons_succ]
                refine wpAnyH_take (i := 28) (oi := { dst := some 113, op := Op.move (Operand.tmp 1), type := 3, pos := "right.go:116", after := #[{ on := 21, ground := Ground.guard }], guard := some (21, true) }) (v := ?_) rfl (by kernel_rfl) (by kernel_rfl) (by kernel_rfl) (fun _ _ _ h => h) (Or.inl ⟨by rfl, ?_⟩) (by assumption) ?_
                rotate_left
                · intro w hSw; (try dsimp only at hSw); go_simp; first | done | with_reducible rfl
                try simp only [Act.put, List.setIfInBounds_toArray, List.set_cons_zero, List.set_cons_succ]
                refine wpAnyH_take (i := 29) (oi := { dst := some 114, op := Op.binOp BinOp.geq 3 (Operand.tmp 112) (Operand.tmp 113) 3, type := 4, pos := "right.go:116", after := #[{ on := 27, ground := Ground.data }, { on := 28, ground := Ground.data }, { on := 21, ground := Ground.guard }], guard := some (21, true) }) (v := .bool false) rfl (by kernel_rfl) (by kernel_rfl) (by kernel_rfl) (fun _ _ _ h => h) (Or.inl ⟨by rfl, ?_⟩) (by assumption) ?_
                · intro w hSw; (try dsimp only at hSw); first | (go_simp; done) | (go_simp; simp_all; done) | (go_simp; omega)
                try simp only [Act.put, List.setIfInBounds_toArray, List.set_cons_zero, List.set_cons_succ]
                refine wpAnyH_take (i := 30) (oi := { dst := some 115, op := Op.pick (Operand.tmp 106) (Operand.tmp 114) (Operand.const (Value.bool false)), type := 4, pos := "right.go:116", after := #[{ on := 21, ground := Ground.data }, { on := 29, ground := Ground.data }, { on := 13, ground := Ground.guard }], guard := some (13, false) }) (v := ?_) rfl (by kernel_rfl) (by kernel_rfl) (by kernel_rfl) (fun _ _ _ h => h) (Or.inl ⟨by rfl, ?_⟩) (by assumption) ?_
                rotate_left
                · intro w hSw; (try dsimp only at hSw); go_simp; first | done | with_reducible rfl
                try simp only [Act.put, List.setIfInBounds_toArray, List.set_cons_zero, List.set_cons_succ]
                refine wpAnyH_take (i := 31) (oi := { dst := some 116, op := Op.pick (Operand.tmp 98) (Operand.const (Value.bool true)) (Operand.tmp 115), type := 4, pos := "right.go:116", after := #[{ on := 13, ground := Ground.data }, { on := 30, ground := Ground.data }], guard := none }) (v := ?_) rfl (by kernel_rfl) (by kernel_rfl) (by kernel_rfl) (fun _ _ _ h => h) (Or.inl ⟨by rfl, ?_⟩) (by assumption) ?_
                rotate_left
                · intro w hSw; (try dsimp only at hSw); go_simp; first | done | with_reducible rfl
                try simp only [Act.put, List.setIfInBounds_toArray, List.set_cons_zero, List.set_cons_succ]
                refine wpAnyH_done (by kernel_rfl) ?_ _
                clear KS hHeld
                go_wp2_with fail
                replace hG := Hid.mk (hG.out.trans hG0)
                go_roundw
                case rel => exact ⟨k2 + 1, by simp, by omega, ⟨hsf.out, hG.out⟩⟩
                case measure => simp [intOf]; omega
              · have j2' : g ≤ t.m := by omega
                rw [if_neg (by simpa using j2)] at hsf
                replace j2 := Hid.mk j2
                replace hG := Hid.mk hG
                replace hsf := Hid.mk hsf
                go_wp2_with fail
                refine (hT _).mono ?_
                rintro x w2 ⟨rfl, hG2⟩
                have X2 := X1.out.gr hG2
                have c0' := (hG2.cell hb4 _).trans c0
                have c4' := (hG2.cell hb4 _).trans c4
                have hb5 : b2 < w2.heap.size := Nat.lt_of_lt_of_le hb4 (gr_size hG2)
                replace hG := Hid.mk (hG.out.trans hG2)
                clear z0 p0 f0 hG2 hT c0 c1 c2 c3 c4 hb4 X1
                have ⟨z1, p1, f1⟩ := X2.at
                replace X2 := Hid.mk X2
                go_wp2_with fail
                refine (hJ _).mono ?_
                rintro x w3 ⟨rfl, rfl⟩
                go_wp2_with fail
                have KS : ∀ W, Gr w2 W → W.cell? ⟨w.heap.size, 1, none⟩ = some (.slice (some ⟨b2, off2, none⟩) c.code.length kc) ∧ W.cell? ⟨b2, off2 + k2 * 5, none⟩ = some (.int .u8 t.op) ∧ W.cell? ⟨b2, off2 + k2 * 5 + 1 + 1 + 1 + 1, none⟩ = some (.int .i64 t.m) := fun W hW => ⟨(hW.cell z1 1).trans (p1 1), (hW.cell hb5 _).trans c0', (hW.cell hb5 _).trans c4'⟩
                replace KS := Hid.mk KS
                have hG0 : Gr w2 w2.drew := (Gr.refl _).drew
                refine wp_region_held_drew (S := fun W => W.cell? ⟨w.heap.size, 1, none⟩ = some (.slice (some ⟨b2, off2, none⟩) c.code.length kc) ∧ W.cell? ⟨b2, off2 + k2 * 5, none⟩ = some (.int .u8 t.op) ∧ W.cell? ⟨b2, off2 + k2 * 5 + 1 + 1 + 1 + 1, none⟩ = some (.int .i64 t.m)) (by kernel_rfl) (KS.out _ hG0) (fun hHeld => ?_)
                refine wpAnyH_take (i := 0) (oi := { dst := some 85, op := Op.move (Operand.tmp 10), type := 4, pos := "right.go:116", after := #[], guard := none }) (v := ?_) rfl (by kernel_rfl) (by kernel_rfl) (by kernel_rfl) (fun _ _ _ h => h) (Or.inl ⟨by rfl, ?_⟩) (by assumption) ?_
                rotate_left
                · intro w hSw; (try dsimp only at hSw); go_simp; first | done | with_reducible rfl
                try simp only [Act.put, List.setIfInBounds_toArray, List.set_cons_zero, List.set_cons_succ]
                refine wpAnyH_take (i := 1) (oi := { dst := some 86, op := Op.move (Operand.tmp 85), type := 4, pos := "right.go:116", after := #[{ on := 0, ground := Ground.data }], guard := none }) (v := ?_) rfl (by kernel_rfl) (by kernel_rfl) (by kernel_rfl) (fun _ _ _ h => h) (Or.inl ⟨by rfl, ?_⟩) (by assumption) ?_
                rotate_left
                · intro w hSw; (try dsimp only at hSw); go_simp; first | done | with_reducible rfl
                try simp only [Act.put, List.setIfInBounds_toArray, List.set_cons_zero, List.set_cons_succ]
                refine wpAnyH_take (i := 2) (oi := { dst := some 87, op := Op.fieldAddr 52 (Operand.tmp 2) 1, type := 0, pos := "right.go:116", after := #[{ on := 1, ground := Ground.guard }], guard := some (1, true) }) (v := undef) rfl (by kernel_rfl) (by kernel_rfl) (by kernel_rfl) (fun _ _ _ h => h) (Or.inr ⟨by rfl, rfl⟩) (by assumption) ?_
                try simp only [Act.put, List.setIfInBounds_toArray, List.set_cons_zero, List.set_cons_succ]
                refine wpAnyH_take (i := 3) (oi := { dst := some 88, op := Op.load 50 (Operand.tmp 87), type := 50, pos := "right.go:116", after := #[{ on := 2, ground := Ground.data }, { on := 1, ground := Ground.guard }], guard := some (1, true) }) (v := undef) rfl (by kernel_rfl) (by kernel_rfl) (by kernel_rfl) (fun _ _ _ h => h) (Or.inr ⟨by rfl, rfl⟩) (by assumption) ?_
                try simp only [Act.put, List.setIfInBounds_toArray, List.set_cons_zero, List.set_cons_succ]
                refine wpAnyH_take (i := 4) (oi := { dst := some 89, op := Op.move (Operand.tmp 8), type := 3, pos := "right.go:116", after := #[{ on := 1, ground := Ground.guard }], guard := some (1, true) }) (v := undef) rfl (by kernel_rfl) (by kernel_rfl) (by kernel_rfl) (fun _ _ _ h => h) (Or.inr ⟨by rfl, rfl⟩) (by assumption) ?_
                try simp only [Act.put, List.setIfInBounds_toArray, List.set_cons_zero, List.set_cons_succ]
                refine wpAnyH_take (i := 5) (oi := { dst := some 90, op := Op.indexAddr 50 (Operand.tmp 88) (Operand.tmp 89), type := 0, pos := "right.go:116", after := #[{ on := 3, ground := Ground.data }, { on := 4, ground := Ground.data }, { on := 1, ground := Ground.guard }], guard := some (1, true) }) (v := undef) rfl (by kernel_rfl) (by kernel_rfl) (by kernel_rfl) (fun _ _ _ h => h) (Or.inr ⟨by rfl, rfl⟩) (by assumption) ?_
                try simp only [Act.put, List.setIfInBounds_toArray, List.set_cons_zero, List.set_cons_succ]
                refine wpAnyH_take (i := 6) (oi := { dst := some 91, op := Op.fieldAddr 79 (Operand.tmp 90) 4, type := 0, pos := "right.go:116", after := #[{ on := 5, ground := Ground.data }, { on := 1, ground := Ground.guard }], guard := some (1, true) }) (v := undef) rfl (by kernel_rfl) (by kernel_rfl) (by kernel_rfl) (fun _ _ _ h => h) (Or.inr ⟨by rfl, rfl⟩) (by assumption) ?_
                try simp only [Act.put, List.setIfInBounds_toArray, List.set_cons_zero, List.set_cons_succ]
                refine wpAnyH_take (i := 7) (oi := { dst := some 92, op := Op.load 3 (Operand.tmp 91), type := 3, pos := "right.go:116", after := #[{ on := 6, ground := Ground.data }, { on := 1, ground := Ground.guard }], guard := some (1, true) }) (v := undef) rfl (by kernel_rfl) (by kernel_rfl) (by kernel_rfl) (fun _ _ _ h => h) (Or.inr ⟨by rfl, rfl⟩) (by assumption) ?_
                try simp only [Act.put, List.setIfInBounds_toArray, List.set_cons_zero, List.set_cons_succ]
                refine wpAnyH_take (i := 8) (oi := { dst := some 93, op := Op.fieldAddr 52 (Operand.tmp 2) 1, type := 0, pos := "right.go:116", after := #[{ on := 1, ground := Ground.guard }], guard := some (1, true) }) (v := undef) rfl (by kernel_rfl) (by kernel_rfl) (by kernel_rfl) (fun _ _ _ h => h) (Or.inr ⟨by rfl, rfl⟩) (by assumption) ?_
                try simp only [Act.put, List.setIfInBounds_toArray, List.set_cons_zero, List.set_cons_succ]
                refine wpAnyH_take (i := 9) (oi := { dst := some 94, op := Op.load 50 (Operand.tmp 93), type := 50, pos := "right.go:116", after := #[{ on := 8, ground := Ground.data }, { on := 1, ground := Ground.guard }], guard := some (1, true) }) (v := undef) rfl (by kernel_rfl) (by kernel_rfl) (by kernel_rfl) (fun _ _ _ h => h) (Or.inr ⟨by rfl, rfl⟩) (by assumption) ?_
                try simp only [Act.put, List.setIfInBounds_toArray, List.set_cons_zero, List.set_cons_succ]
                refine wpAnyH_take (i := 10) (oi := { dst := some 95, op := Op.call { callee := Callee.builtin Builtin.len, args := #[Operand.tmp 94], argTypes := #[50] }, type := 3, pos := "right.go:116", after := #[{ on := 9, ground := Ground.data }, { on := 1, ground := Ground.guard }], guard := some (1, true) }) (v := undef) rfl (by kernel_rfl) (by kernel_rfl) (by kernel_rfl) (fun _ _ _ h => h) (Or.inr ⟨by rfl, rfl⟩) (by assumption) ?_
                try simp only [Act.put, List.setIfInBounds_toArray, List.set_cons_zero, List.set_cons_succ]
                refine wpAnyH_take (i := 11) (oi := { dst := some 96, op := Op.binOp BinOp.geq 3 (Operand.tmp 92) (Operand.tmp 95) 3, type := 4, pos := "right.go:116", after := #[{ on := 7, ground := Ground.data }, { on := 10, ground := Ground.data }, { on := 1, ground := Ground.guard }], guard := some (1, true) }) (v := undef) rfl (by kernel_rfl) (by kernel_rfl) (by kernel_rfl) (fun _ _ _ h => h) (Or.inr ⟨by rfl, rfl⟩) (by assumption) ?_
                try simp only [Act.put, List.setIfInBounds_toArray, List.set_cons_zero, List.set_cons_succ]
                refine wpAnyH_take (i := 12) (oi := { dst := some 97, op := Op.pick (Operand.tmp 86) (Operand.tmp 96) (Operand.const (Value.bool false)), type := 4, pos := "right.go:116", after := #[{ on := 1, ground := Ground.data }, { on := 11, ground := Ground.data }], guard := none }) (v := ?_) rfl (by kernel_rfl) (by kernel_rfl) (by kernel_rfl) (fun _ _ _ h => h) (Or.inl ⟨by rfl, ?_⟩) (by assumption) ?_
                rotate_left
                · intro w hSw; (try dsimp only at hSw); go_simp; first | done | with_reducible rfl
                try simp only [Act.put, List.setIfInBounds_toArray, List.set_cons_zero, List.set_cons_succ]
                refine wpAnyH_take (i := 13) (oi := { dst := some 98, op := Op.move (Operand.tmp 97), type := 4, pos := "right.go:116", after := #[{ on := 12, ground := Ground.data }, { on := 1, ground := Ground.chain }], guard := none }) (v := ?_) rfl (by kernel_rfl) (by kernel_rfl) (by kernel_rfl) (fun _ _ _ h => h) (Or.inl ⟨by rfl, ?_⟩) (by assumption) ?_
                rotate_left
                · intro w hSw; (try dsimp only at hSw); go_simp; first | done | with_reducible rfl
                try simp only [Act.put, List.setIfInBounds_toArray, List.set_cons_zero, List.set_cons_succ]
                refine wpAnyH_take (i := 14) (oi := { dst := some 99, op := Op.fieldAddr 52 (Operand.tmp 2) 1, type := 0, pos := "right.go:116", after := #[{ on := 13, ground := Ground.guard }], guard := some (13, false) }) (v := ?_) rfl (by kernel_rfl) (by kernel_rfl) (by kernel_rfl) (fun _ _ _ h => h) (Or.inl ⟨by rfl, ?_⟩) (by assumption) ?_
                rotate_left
                · intro w hSw; (try dsimp only at hSw); go_simp; first | done | with_reducible rfl
                try simp only [Act.put, List.setIfInBounds_toArray, List.set_cons_zero, List.set_cons_succ]
                refine wpAnyH_take (i := 15) (oi := { dst := some 100, op := Op.load 50 (Operand.tmp 99), type := 50, pos := "right.go:116", after := #[{ on := 14, ground := Ground.data }, { on := 13, ground := Ground.guard }], guard := some (13, false) }) (v := ?_) rfl (by kernel_rfl) (by kernel_rfl) (by kernel_rfl) (fun _ _ _ h => h) (Or.inl ⟨by rfl, ?_⟩) (by assumption) ?_
                rotate_left
                · intro w hSw; (try dsimp only at hSw); go_simp; first | done | with_reducible rfl
                try simp only [Act.put, List.setIfInBounds_toArray, List.set_cons_zero, List.set_cons_succ]
                refine wpAnyH_take (i := 16) (oi := { dst := some 101, op := Op.move (Operand.tmp 8), type := 3, pos := "right.go:116", after := #[{ on := 13, ground := Ground.guard }], guard := some (13, false) }) (v := ?_) rfl (by kernel_rfl) (by kernel_rfl) (by kernel_rfl) (fun _ _ _ h => h) (Or.inl ⟨by rfl, ?_⟩) (by assumption) ?_
                rotate_left
                · intro w hSw; (try dsimp only at hSw); go_simp; first | done | with_reducible rfl
                try simp only [Act.put, List.setIfInBounds_toArray, List.set_cons_zero, List.set_cons_succ]
                refine wpAnyH_take (i := 17) (oi := { dst := some 102, op := Op.indexAddr 50 (Operand.tmp 100) (Operand.tmp 101), type := 0, pos := "right.go:116", after := #[{ on := 15, ground := Ground.data }, { on := 16, ground := Ground.data }, { on := 13, ground := Ground.guard }], guard := some (13, false) }) (v := ?_) rfl (by kernel_rfl) (by kernel_rfl) (by kernel_rfl) (fun _ _ _ h => h) (Or.inl ⟨by rfl, ?_⟩) (by assumption) ?_
                rotate_left
                · intro w hSw; (try dsimp only at hSw); go_simp; first | done | with_reducible rfl
                try simp only [Act.put, List.setIfInBounds_toArray, List.set_cons_zero, List.set_cons_succ]
                refine wpAnyH_take (i := 18) (oi := { dst := some 103, op := Op.fieldAddr 79 (Operand.tmp 102) 0, type := 0, pos := "right.go:116", after := #[{ on := 17, ground := Ground.data }, { on := 13, ground := Ground.guard }], guard := some (13, false) }) (v := ?_) rfl (by kernel_rfl) (by kernel_rfl) (by kernel_rfl) (fun _ _ _ h => h) (Or.inl ⟨by rfl, ?_⟩) (by assumption) ?_
                rotate_left
                · intro w hSw; (try dsimp only at hSw); go_simp; first | done | with_reducible rfl
                try simp only [Act.put, List.setIfInBounds_toArray, List.set_cons_zero, List.set_cons_succ]
                refine wpAnyH_take (i := 19) (oi := { dst := some 104, op := Op.load 77 (Operand.tmp 103), type := 77, pos := "right.go:116", after := #[{ on := 18, ground := Ground.data }, { on := 13, ground := Ground.guard }], guard := some (13, false) }) (v := ?_) rfl (by kernel_rfl) (by kernel_rfl) (by kernel_rfl) (fun _ _ _ h => h) (Or.inl ⟨by rfl, ?_⟩) (by assumption) ?_
                rotate_left
                · intro w hSw; (try dsimp only at hSw); go_simp; first | done | with_reducible rfl
                try simp only [Act.put, List.setIfInBounds_toArray, List.set_cons_zero, List.set_cons_succ]
                refine wpAnyH_take (i := 20) (oi := { dst := some 105, op := Op.binOp BinOp.eql 77 (Operand.tmp 104) (Operand.const (Value.int IntKind.u8 31)) 77, type := 4, pos := "right.go:116", after := #[{ on := 19, ground := Ground.data }, { on := 13, ground := Ground.guard }], guard := some (13, false) }) (v := .bool true) rfl (by kernel_rfl) (by kernel_rfl) (by kernel_rfl) (fun _ _ _ h => h) (Or.inl ⟨by rfl, ?_⟩) (by assumption) ?_
                · intro w hSw; (try dsimp only at hSw); first | (go_simp; done) | (go_simp; simp_all; done) | (go_simp; omega)
                try simp only [Act.put, List.setIfInBounds_toArray, List.set_cons_zero, List.set_cons_succ]
                refine wpAnyH_take (i := 21) (oi := { dst := some 106, op := Op.move (Operand.tmp 105), type := 4, pos := "right.go:116", after := #[{ on := 20, ground := Ground.data }, { on := 13, ground := Ground.chain }, { on := 13, ground := Ground.guard }], guard := some (13, false) }) (v := ?_) rfl (by kernel_rfl) (by kernel_rfl) (by kernel_rfl) (fun _ _ _ h => h) (Or.inl ⟨by rfl, ?_⟩) (by assumption) ?_
                rotate_left
                · intro w hSw; (try dsimp only at hSw); go_simp; first | done | with_reducible rfl
                try simp only [Act.put, List.setIfInBounds_toArray, List.set_cons_zero, List.set_cons_succ]
                refine wpAnyH_take (i := 22) (oi := { dst := some 107, op := Op.fieldAddr 52 (Operand.tmp 2) 1, type := 0, pos := "right.go:116", after := #[{ on := 21, ground := Ground.guard }], guard := some (21, true) }) (v := ?_) rfl (by kernel_rfl) (by kernel_rfl) (by kernel_rfl) (fun _ _ _ h => h) (Or.inl ⟨by rfl, ?_⟩) (by assumption) ?_
                rotate_left
                · intro w hSw; (try dsimp only at hSw); go_simp; first | done | with_reducible rfl
                try simp only [Act.put, List.setIfInBounds_toArray, List.set_cons_zero, List.set_cons_succ]
                refine wpAnyH_take (i := 23) (oi := { dst := some 108, op := Op.load 50 (Operand.tmp 107), type := 50, pos := "right.go:116", after := #[{ on := 22, ground := Ground.data }, { on := 21, ground := Ground.guard }], guard := some (21, true) }) (v := ?_) rfl (by kernel_rfl) (by kernel_rfl) (by kernel_rfl) (fun _ _ _ h => h) (Or.inl ⟨by rfl, ?_⟩) (by assumption) ?_
                rotate_left
                · intro w hSw; (try dsimp only at hSw); go_simp; first | done | with_reducible rfl
                try simp only [Act.put, List.setIfInBounds_toArray, List.set_cons_zero, List.set_cons_succ]
                refine wpAnyH_take (i := 24) (oi := { dst := some 109, op := Op.move (Operand.tmp 8), type := 3, pos := "right.go:116", after := #[{ on := 21, ground := Ground.guard }], guard := some (21, true) }) (v := ?_) rfl (by kernel_rfl) (by kernel_rfl) (by kernel_rfl) (fun _ _ _ h => h) (Or.inl ⟨by rfl, ?_⟩) (by assumption) ?_
                rotate_left
                · intro w hSw; (try dsimp only at hSw); go_simp; first | done | with_reducible rfl
                try simp only [Act.put, List.setIfInBounds_toArray, List.set_cons_zero, List.set_cons_succ]
                refine wpAnyH_take (i := 25) (oi := { dst := some 110, op := Op.indexAddr 50 (Operand.tmp 108) (Operand.tmp 109), type := 0, pos := "right.go:116", after := #[{ on := 23, ground := Ground.data }, { on := 24, ground := Ground.data }, { on := 21, ground := Ground.guard }], guard := some (21, true) }) (v := ?_) rfl (by kernel_rfl) (by kernel_rfl) (by kernel_rfl) (fun _ _ _ h => h) (Or.inl ⟨by rfl, ?_⟩) (by assumption) ?_
                rotate_left
                · intro w hSw; (try dsimp only at hSw); go_simp; first | done | with_reducible rfl
                try simp only [Act.put, List.setIfInBounds_toArray, List.set_cons_zero, List.set_cons_succ]
                refine wpAnyH_take (i := 26) (oi := { dst := some 111, op := Op.fieldAddr 79 (Operand.tmp 110) 4, type := 0, pos := "right.go:116", after := #[{ on := 25, ground := Ground.data }, { on := 21, ground := Ground.guard }], guard := some (21, true) }) (v := ?_) rfl (by kernel_rfl) (by kernel_rfl) (by kernel_rfl) (fun _ _ _ h => h) (Or.inl ⟨by rfl, ?_⟩) (by assumption) ?_
                rotate_left
                · intro w hSw; (try dsimp only at hSw); go_simp; first | done | with_reducible rfl
                try simp only [Act.put, List.setIfInBounds_toArray, List.set_cons_zero, List.set_cons_succ]
                refine wpAnyH_take (i := 27) (oi := { dst := some 112, op := Op.load 3 (Operand.tmp 111), type := 3, pos := "right.go:116", after := #[{ on := 26, ground := Ground.data }, { on := 21, ground := Ground.guard }], guard := some (21, true) }) (v := ?_) rfl (by kernel_rfl) (by kernel_rfl) (by kernel_rfl) (fun _ _ _ h => h) (Or.inl ⟨by rfl, ?_⟩) (by assumption) ?_
                rotate_left
                · intro w hSw; (try dsimp only at hSw); go_simp; first | done | with_reducible rfl
                try simp only [Act.put, List.setIfInBounds_toArray, List.set_cons_zero, List.set_cons_succ]
                refine wpAnyH_take (i := 28) (oi := { dst := some 113, op := Op.move (Operand.tmp 1), type := 3, pos := "right.go:116", after := #[{ on := 21, ground := Ground.guard }], guard := some (21, true) }) (v := ?_) rfl (by kernel_rfl) (by kernel_rfl) (by kernel_rfl) (fun _ _ _ h => h) (Or.inl ⟨by rfl, ?_⟩) (by assumption) ?_
                rotate_left
                · intro w hSw; (try dsimp only at hSw); go_simp; first | done | with_reducible rfl
                try simp only [Act.put, List.setIfInBounds_toArray, List.set_cons_zero, List.set_cons_succ]
                refine wpAnyH_take (i := 29) (oi := { dst := some 114, op := Op.binOp BinOp.geq 3 (Operand.tmp 112) (Operand.tmp 113) 3, type := 4, pos := "right.go:116", after := #[{ on := 27, ground := Ground.data }, { on := 28, ground := Ground.data }, { on := 21, ground := Ground.guard }], guard := some (21, true) }) (v := .bool true) rfl (by kernel_rfl) (by kernel_rfl) (by kernel_rfl) (fun _ _ _ h => h) (Or.inl ⟨by rfl, ?_⟩) (by assumption) ?_
                · intro w hSw; (try dsimp only at hSw); first | (go_simp; done) | (go_simp; simp_all; done) | (go_simp; omega)
                try simp only [Act.put, List.setIfInBounds_toArray, List.set_cons_zero, List.set_cons_succ]
                refine wpAnyH_take (i := 30) (oi := { dst := some 115, op := Op.pick (Operand.tmp 106) (Operand.tmp 114) (Operand.const (Value.bool false)), type := 4, pos := "right.go:116", after := #[{ on := 21, ground := Ground.data }, { on := 29, ground := Ground.data }, { on := 13, ground := Ground.guard }], guard := some (13, false) }) (v := ?_) rfl (by kernel_rfl) (by kernel_rfl) (by kernel_rfl) (fun _ _ _ h => h) (Or.inl ⟨by rfl, ?_⟩) (by assumption) ?_
                rotate_left
                · intro w hSw; (try dsimp only at hSw); go_simp; first | done | with_reducible rfl
                try simp only [Act.put, List.setIfInBounds_toArray, List.set_cons_zero, List.set_cons_succ]
                refine wpAnyH_take (i := 31) (oi := { dst := some 116, op := Op.pick (Operand.tmp 98) (Operand.const (Value.bool true)) (Operand.tmp 115), type := 4, pos := "right.go:116", after := #[{ on := 13, ground := Ground.data }, { on := 30, ground := Ground.data }], guard := none }) (v := ?_) rfl (by kernel_rfl) (by kernel_rfl) (by kernel_rfl) (fun _ _ _ h => h) (Or.inl ⟨by rfl, ?_⟩) (by assumption) ?_
                rotate_left
                · intro w hSw; (try dsimp only at hSw); go_simp; first | done | with_reducible rfl
                try simp only [Act.put, List.setIfInBounds_toArray, List.set_cons_zero, List.set_cons_succ]
                refine wpAnyH_done (by kernel_rfl) ?_ _
                clear KS hHeld
                go_wp2_with fail
                replace hG := Hid.mk (hG.out.trans hG0)
                go_ret
                exact ⟨retI (by rw [hq.out, ← hsf.out]), hGR.out.trans hG.out⟩
            · have o31 : (t.op == 31) = false := beq_false_of_ne j3
              have htg : tgtB t.op t.m c.code.length g = true := by unfold tgtB; rw [if_neg j1, if_neg j3]
              rw [htg, if_pos rfl] at hsf
              clear htg
              replace j1 := Hid.mk j1
              replace j3 := Hid.mk j3
              replace hG := Hid.mk hG
              replace hsf := Hid.mk hsf
              go_wp2_with fail
              refine (hT _).mono ?_
              rintro x w2 ⟨rfl, hG2⟩
              have X2 := X1.out.gr hG2
              have c0' := (hG2.cell hb4 _).trans c0
              have c4' := (hG2.cell hb4 _).trans c4
              have hb5 : b2 < w2.heap.size := Nat.lt_of_lt_of_le hb4 (gr_size hG2)
              replace hG := Hid.mk (hG.out.trans hG2)
              clear z0 p0 f0 hG2 hT c0 c1 c2 c3 c4 hb4 X1
              have ⟨z1, p1, f1⟩ := X2.at
              replace X2 := Hid.mk X2
              go_wp2_with fail
              refine (hJ _).mono ?_
              rintro x w3 ⟨rfl, rfl⟩
              go_wp2_with fail
              have KS : ∀ W, Gr w2 W → W.cell? ⟨w.heap.size, 1, none⟩ = some (.slice (some ⟨b2, off2, none⟩) c.code.length kc) ∧ W.cell? ⟨b2, off2 + k2 * 5, none⟩ = some (.int .u8 t.op) ∧ W.cell? ⟨b2, off2 + k2 * 5 + 1 + 1 + 1 + 1, none⟩ = some (.int .i64 t.m) := fun W hW => ⟨(hW.cell z1 1).trans (p1 1), (hW.cell hb5 _).trans c0', (hW.cell hb5 _).trans c4'⟩
              replace KS := Hid.mk KS
              have hG0 : Gr w2 w2.drew := (Gr.refl _).drew
              refine wp_region_held_drew (S := fun W => W.cell? ⟨w.heap.size, 1, none⟩ = some (.slice (some ⟨b2, off2, none⟩) c.code.length kc) ∧ W.cell? ⟨b2, off2 + k2 * 5, none⟩ = some (.int .u8 t.op) ∧ W.cell? ⟨b2, off2 + k2 * 5 + 1 + 1 + 1 + 1, none⟩ = some (.int .i64 t.m)) (by kernel_rfl) (KS.out _ hG0) (fun hHeld => ?_)
              refine wpAnyH_take (i := 0) (oi := { dst := some 85, op := Op.move (Operand.tmp 10), type := 4, pos := "right.go:116", after := #[], guard := none }) (v := ?_) rfl (by kernel_rfl) (by kernel_rfl) (by kernel_rfl) (fun _ _ _ h => h) (Or.inl ⟨by rfl, ?_⟩) (by assumption) ?_
              rotate_left
              · intro w hSw; (try dsimp only at hSw); go_simp; first | done | with_reducible rfl
              try simp only [Act.put, List.setIfInBounds_toArray, List.set_cons_zero, List.set_cons_succ]
              refine wpAnyH_take (i := 1) (oi := { dst := some 86, op := Op.move (Operand.tmp 85), type := 4, pos := "right.go:116", after := #[{ on := 0, ground := Ground.data }], guard := none }) (v := ?_) rfl (by kernel_rfl) (by kernel_rfl) (by kernel_rfl) (fun _ _ _ h => h) (Or.inl ⟨by rfl, ?_⟩) (by assumption) ?_
              rotate_left
              · intro w hSw; (try dsimp only at hSw); go_simp; first | done | with_reducible rfl
              try simp only [Act.put, List.setIfInBounds_toArray, List.set_cons_zero, List.set_cons_succ]
              refine wpAnyH_take (i := 2) (oi := { dst := some 87, op := Op.fieldAddr 52 (Operand.tmp 2) 1, type := 0, pos := "right.go:116", after := #[{ on := 1, ground := Ground.guard }], guard := some (1, true) }) (v := undef) rfl (by kernel_rfl) (by kernel_rfl) (by kernel_rfl) (fun _ _ _ h => h) (Or.inr ⟨by rfl, rfl⟩) (by assumption) ?_
              try simp only [Act.put, List.setIfInBounds_toArray, List.set_cons_zero, List.set_cons_succ]
              refine wpAnyH_take (i := 3) (oi := { dst := some 88, op := Op.load 50 (Operand.tmp 87), type := 50, pos := "right.go:116", after := #[{ on := 2, ground := Ground.data }, { on := 1, ground := Ground.guard }], guard := some (1, true) }) (v := undef) rfl (by kernel_rfl) (by kernel_rfl) (by kernel_rfl) (fun _ _ _ h => h) (Or.inr ⟨by rfl, rfl⟩) (by assumption) ?_
              try simp only [Act.put, List.setIfInBounds_toArray, List.set_cons_zero, List.set_cons_succ]
              refine wpAnyH_take (i := 4) (oi := { dst := some 89, op := Op.move (Operand.tmp 8), type := 3, pos := "right.go:116", after := #[{ on := 1, ground := Ground.guard }], guard := some (1, true) }) (v := undef) rfl (by kernel_rfl) (by kernel_rfl) (by kernel_rfl) (fun _ _ _ h => h) (Or.inr ⟨by rfl, rfl⟩) (by assumption) ?_
              try simp only [Act.put, List.setIfInBounds_toArray, List.set_cons_zero, List.set_cons_succ]
              refine wpAnyH_take (i := 5) (oi := { dst := some 90, op := Op.indexAddr 50 (Operand.tmp 88) (Operand.tmp 89), type := 0, pos := "right.go:116", after := #[{ on := 3, ground := Ground.data }, { on := 4, ground := Ground.data }, { on := 1, ground := Ground.guard }], guard := some (1, true) }) (v := undef) rfl (by kernel_rfl) (by kernel_rfl) (by kernel_rfl) (fun _ _ _ h => h) (Or.inr ⟨by rfl, rfl⟩) (by assumption) ?_
              try simp only [Act.put, List.setIfInBounds_toArray, List.set_cons_zero, List.set_cons_succ]
              refine wpAnyH_take (i := 6) (oi := { dst := some 91, op := Op.fieldAddr 79 (Operand.tmp 90) 4, type := 0, pos := "right.go:116", after := #[{ on := 5, ground := Ground.data }, { on := 1, ground := Ground.guard }], guard := some (1, true) }) (v := undef) rfl (by kernel_rfl) (by kernel_rfl) (by kernel_rfl) (fun _ _ _ h => h) (Or.inr ⟨by rfl, rfl⟩) (by assumption) ?_
              try simp only [Act.put, List.setIfInBounds_toArray, List.set_cons_zero, List.set_cons_succ]
              refine wpAnyH_take (i := 7) (oi := { dst := some 92, op := Op.load 3 (Operand.tmp 91), type := 3, pos := "right.go:116", after := #[{ on := 6, ground := Ground.data }, { on := 1, ground := Ground.guard }], guard := some (1, true) }) (v := undef) rfl (by kernel_rfl) (by kernel_rfl) (by kernel_rfl) (fun _ _ _ h => h) (Or.inr ⟨by rfl, rfl⟩) (by assumption) ?_
              try simp only [Act.put, List.setIfInBounds_toArray, List.set_cons_zero, List.set_cons_succ]
              refine wpAnyH_take (i := 8) (oi := { dst := some 93, op := Op.fieldAddr 52 (Operand.tmp 2) 1, type := 0, pos := "right.go:116", after := #[{ on := 1, ground := Ground.guard }], guard := some (1, true) }) (v := undef) rfl (by kernel_rfl) (by kernel_rfl) (by kernel_rfl) (fun _ _ _ h => h) (Or.inr ⟨by rfl, rfl⟩) (by assumption) ?_
              try simp only [Act.put, List.setIfInBounds_toArray, List.set_cons_zero, List.set_cons_succ]
              refine wpAnyH_take (i := 9) (oi := { dst := some 94, op := Op.load 50 (Operand.tmp 93), type := 50, pos := "right.go:116", after := #[{ on := 8, ground := Ground.data }, { on := 1, ground := Ground.guard }], guard := some (1, true) }) (v := undef) rfl (by kernel_rfl) (by kernel_rfl) (by kernel_rfl) (fun _ _ _ h => h) (Or.inr ⟨by rfl, rfl⟩) (by assumption) ?_
              try simp only [Act.put, List.setIfInBounds_toArray, List.set_cons_zero, List.set_cons_succ]
              refine wpAnyH_take (i := 10) (oi := { dst := some 95, op := Op.call { callee := Callee.builtin Builtin.len, args := #[Operand.tmp 94], argTypes := #[50] }, type := 3, pos := "right.go:116", after := #[{ on := 9, ground := Ground.data }, { on := 1, ground := Ground.guard }], guard := some (1, true) }) (v := undef) rfl (by kernel_rfl) (by kernel_rfl) (by kernel_rfl) (fun _ _ _ h => h) (Or.inr ⟨by rfl, rfl⟩) (by assumption) ?_
              try simp only [Act.put, List.setIfInBounds_toArray, List.set_cons_zero, List.set_cons_succ]
              refine wpAnyH_take (i := 11) (oi := { dst := some 96, op := Op.binOp BinOp.geq 3 (Operand.tmp 92) (Operand.tmp 95) 3, type := 4, pos := "right.go:116", after := #[{ on := 7, ground := Ground.data }, { on := 10, ground := Ground.data }, { on := 1, ground := Ground.guard }], guard := some (1, true) }) (v := undef) rfl (by kernel_rfl) (by kernel_rfl) (by kernel_rfl) (fun _ _ _ h => h) (Or.inr ⟨by rfl, rfl⟩) (by assumption) ?_
              try simp only [Act.put, List.setIfInBounds_toArray, List.set_cons_zero, List.set_cons_succ]
              refine wpAnyH_take (i := 12) (oi := { dst := some 97, op := Op.pick (Operand.tmp 86) (Operand.tmp 96) (Operand.const (Value.bool false)), type := 4, pos := "right.go:116", after := #[{ on := 1, ground := Ground.data }, { on := 11, ground := Ground.data }], guard := none }) (v := ?_) rfl (by kernel_rfl) (by kernel_rfl) (by kernel_rfl) (fun _ _ _ h => h) (Or.inl ⟨by rfl, ?_⟩) (by assumption) ?_
              rotate_left
              · intro w hSw; (try dsimp only at hSw); go_simp; first | done | with_reducible rfl
              try simp only [Act.put, List.setIfInBounds_toArray, List.set_cons_zero, List.set_cons_succ]
              refine wpAnyH_take (i := 13) (oi := { dst := some 98, op := Op.move (Operand.tmp 97), type := 4, pos := "right.go:116", after := #[{ on := 12, ground := Ground.data }, { on := 1, ground := Ground.chain }], guard := none }) (v := ?_) rfl (by kernel_rfl) (by kernel_rfl) (by kernel_rfl) (fun _ _ _ h => h) (Or.inl ⟨by rfl, ?_⟩) (by assumption) ?_
              rotate_left
              · intro w hSw; (try dsimp only at hSw); go_simp; first | done | with_reducible rfl
              try simp only [Act.put, List.setIfInBounds_toArray, List.set_cons_zero, List.set_cons_succ]
              refine wpAnyH_take (i := 14) (oi := { dst := some 99, op := Op.fieldAddr 52 (Operand.tmp 2) 1, type := 0, pos := "right.go:116", after := #[{ on := 13, ground := Ground.guard }], guard := some (13, false) }) (v := ?_) rfl (by kernel_rfl) (by kernel_rfl) (by kernel_rfl) (fun _ _ _ h => h) (Or.inl ⟨by rfl, ?_⟩) (by assumption) ?_
              rotate_left
              · intro w hSw; (try dsimp only at hSw); go_simp; first | done | with_reducible rfl
              try simp only [Act.put, List.setIfInBounds_toArray, List.set_cons_zero, List.set_cons_succ]
              refine wpAnyH_take (i := 15) (oi := { dst := some 100, op := Op.load 50 (Operand.tmp 99), type := 50, pos := "right.go:116", after := #[{ on := 14, ground := Ground.data }, { on := 13, ground := Ground.guard }], guard := some (13, false) }) (v := ?_) rfl (by kernel_rfl) (by kernel_rfl) (by kernel_rfl) (fun _ _ _ h => h) (Or.inl ⟨by rfl, ?_⟩) (by assumption) ?_
              rotate_left
              · intro w hSw; (try dsimp only at hSw); go_simp; first | done | with_reducible rfl
              try simp only [Act.put, List.setIfInBounds_toArray, List.set_cons_zero, List.set_cons_succ]
              refine wpAnyH_take (i := 16) (oi := { dst := some 101, op := Op.move (Operand.tmp 8), type := 3, pos := "right.go:116", after := #[{ on := 13, ground := Ground.guard }], guard := some (13, false) }) (v := ?_) rfl (by kernel_rfl) (by kernel_rfl) (by kernel_rfl) (fun _ _ _ h => h) (Or.inl ⟨by rfl, ?_⟩) (by assumption) ?_
              rotate_left
              · intro w hSw; (try dsimp only at hSw); go_simp; first | done | with_reducible rfl
              try simp only [Act.put, List.setIfInBounds_toArray, List.set_cons_zero, List.set_cons_succ]
              refine wpAnyH_take (i := 17) (oi := { dst := some 102, op := Op.indexAddr 50 (Operand.tmp 100) (Operand.tmp 101), type := 0, pos := "right.go:116", after := #[{ on := 15, ground := Ground.data }, { on := 16, ground := Ground.data }, { on := 13, ground := Ground.guard }], guard := some (13, false) }) (v := ?_) rfl (by kernel_rfl) (by kernel_rfl) (by kernel_rfl) (fun _ _ _ h => h) (Or.inl ⟨by rfl, ?_⟩) (by assumption) ?_
              rotate_left
              · intro w hSw; (try dsimp only at hSw); go_simp; first | done | with_reducible rfl
              try simp only [Act.put, List.setIfInBounds_toArray, List.set_cons_zero, List.set_cons_succ]
              refine wpAnyH_take (i := 18) (oi := { dst := some 103, op := Op.fieldAddr 79 (Operand.tmp 102) 0, type := 0, pos := "right.go:116", after := #[{ on := 17, ground := Ground.data }, { on := 13, ground := Ground.guard }], guard := some (13, false) }) (v := ?_) rfl (by kernel_rfl) (by kernel_rfl) (by kernel_rfl) (fun _ _ _ h => h) (Or.inl ⟨by rfl, ?_⟩) (by assumption) ?_
              rotate_left
              · intro w hSw; (try dsimp only at hSw); go_simp; first | done | with_reducible rfl
              try simp only [Act.put, List.setIfInBounds_toArray, List.set_cons_zero, List.set_cons_succ]
              refine wpAnyH_take (i := 19) (oi := { dst := some 104, op := Op.load 77 (Operand.tmp 103), type := 77, pos := "right.go:116", after := #[{ on := 18, ground := Ground.data }, { on := 13, ground := Ground.guard }], guard := some (13, false) }) (v := ?_) rfl (by kernel_rfl) (by kernel_rfl) (by kernel_rfl) (fun _ _ _ h => h) (Or.inl ⟨by rfl, ?_⟩) (by assumption) ?_
              rotate_left
              · intro w hSw; (try dsimp only at hSw); go_simp; first | done | with_reducible rfl
              try simp only [Act.put, List.setIfInBounds_toArray, List.set_cons_zero, List.set_cons_succ]
              refine wpAnyH_take (i := 20) (oi := { dst := some 105, op := Op.binOp BinOp.eql 77 (Operand.tmp 104) (Operand.const (Value.int IntKind.u8 31)) 77, type := 4, pos := "right.go:116", after := #[{ on := 19, ground := Ground.data }, { on := 13, ground := Ground.guard }], guard := some (13, false) }) (v := .bool false) rfl (by kernel_rfl) (by kernel_rfl) (by kernel_rfl) (fun _ _ _ h => h) (Or.inl ⟨by rfl, ?_⟩) (by assumption) ?_
              · intro w hSw; (try dsimp only at hSw); first | (go_simp; done) | (go_simp; simp_all; done) | (go_simp; omega)
              try simp only [Act.put, List.setIfInBounds_toArray, List.set_cons_zero, List.set_cons_succ]
              refine wpAnyH_take (i := 21) (oi := { dst := some 106, op := Op.move (Operand.tmp 105), type := 4, pos := "right.go:116", after := #[{ on := 20, ground := Ground.data }, { on := 13, ground := Ground.chain }, { on := 13, ground := Ground.guard }], guard := some (13, false) }) (v := ?_) rfl (by kernel_rfl) (by kernel_rfl) (by kernel_rfl) (fun _ _ _ h => h) (Or.inl ⟨by rfl, ?_⟩) (by assumption) ?_
              rotate_left
              · intro w hSw; (try dsimp only at hSw); go_simp; first | done | with_reducible rfl
              try simp only [Act.put, List.setIfInBounds_toArray, List.set_cons_zero, List.set_cons_succ]
              refine wpAnyH_take (i := 22) (oi := { dst := some 107, op := Op.fieldAddr 52 (Operand.tmp 2) 1, type := 0, pos := "right.go:116", after := #[{ on := 21, ground := Ground.guard }], guard := some (21, true) }) (v := undef) rfl (by kernel_rfl) (by kernel_rfl) (by kernel_rfl) (fun _ _ _ h => h) (Or.inr ⟨by rfl, rfl⟩) (by assumption) ?_
              try simp only [Act.put, List.setIfInBounds_toArray, List.set_cons_zero, List.set_cons_succ]
              refine wpAnyH_take (i := 23) (oi := { dst := some 108, op := Op.load 50 (Operand.tmp 107), type := 50, pos := "right.go:116", after := #[{ on := 22, ground := Ground.data }, { on := 21, ground := Ground.guard }], guard := some (21, true) }) (v := undef) rfl (by kernel_rfl) (by kernel_rfl) (by kernel_rfl) (fun _ _ _ h => h) (Or.inr ⟨by rfl, rfl⟩) (by assumption) ?_
              try simp only [Act.put, List.setIfInBounds_toArray, List.set_cons_zero, List.set_cons_succ]
              refine wpAnyH_take (i := 24) (oi := { dst := some 109, op := Op.move (Operand.tmp 8), type := 3, pos := "right.go:116", after := #[{ on := 21, ground := Ground.guard }], guard := some (21, true) }) (v := undef) rfl (by kernel_rfl) (by kernel_rfl) (by kernel_rfl) (fun _ _ _ h => h) (Or.inr ⟨by rfl, rfl⟩) (by assumption) ?_
              try simp only [Act.put, List.setIfInBounds_toArray, List.set_cons_zero, List.set_cons_succ]
              refine wpAnyH_take (i := 25) (oi := { dst := some 110, op := Op.indexAddr 50 (Operand.tmp 108) (Operand.tmp 109), type := 0, pos := "right.go:116", after := #[{ on := 23, ground := Ground.data }, { on := 24, ground := Ground.data }, { on := 21, ground := Ground.guard }], guard := some (21, true) }) (v := undef) rfl (by kernel_rfl) (by kernel_rfl) (by kernel_rfl) (fun _ _ _ h => h) (Or.inr ⟨by rfl, rfl⟩) (by assumption) ?_
              try simp only [Act.put, List.setIfInBounds_toArray, List.set_cons_zero, List.set_cons_succ]
              refine wpAnyH_take (i := 26) (oi := { dst := some 111, op := Op.fieldAddr 79 (Operand.tmp 110) 4, type := 0, pos := "right.go:116", after := #[{ on := 25, ground := Ground.data }, { on := 21, ground := Ground.guard }], guard := some (21, true) }) (v := undef) rfl (by kernel_rfl) (by kernel_rfl) (by kernel_rfl) (fun _ _ _ h => h) (Or.inr ⟨by rfl, rfl⟩) (by assumption) ?_
              try simp only [Act.put, List.setIfInBounds_toArray, List.set_cons_zero, List.set_cons_succ]
              refine wpAnyH_take (i := 27) (oi := { dst := some 112, op := Op.load 3 (Operand.tmp 111), type := 3, pos := "right.go:116", after := #[{ on := 26, ground := Ground.data }, { on := 21, ground := Ground.guard }], guard := some (21, true) }) (v := undef) rfl (by kernel_rfl) (by kernel_rfl) (by kernel_rfl) (fun _ _ _ h => h) (Or.inr ⟨by rfl, rfl⟩) (by assumption) ?_
              try simp only [Act.put, List.setIfInBounds_toArray, List.set_cons_zero, List.set_cons_succ]
              refine wpAnyH_take (i := 28) (oi := { dst := some 113, op := Op.move (Operand.tmp 1), type := 3, pos := "right.go:116", after := #[{ on := 21, ground := Ground.guard }], guard := some (21, true) }) (v := undef) rfl (by kernel_rfl) (by kernel_rfl) (by kernel_rfl) (fun _ _ _ h => h) (Or.inr ⟨by rfl, rfl⟩) (by assumption) ?_
              try simp only [Act.put, List.setIfInBounds_toArray, List.set_cons_zero, List.set_cons_succ]
              refine wpAnyH_take (i := 29) (oi := { dst := some 114, op := Op.binOp BinOp.geq 3 (Operand.tmp 112) (Operand.tmp 113) 3, type := 4, pos := "right.go:116", after := #[{ on := 27, ground := Ground.data }, { on := 28, ground := Ground.data }, { on := 21, ground := Ground.guard }], guard := some (21, true) }) (v := undef) rfl (by kernel_rfl) (by kernel_rfl) (by kernel_rfl) (fun _ _ _ h => h) (Or.inr ⟨by rfl, rfl⟩) (by assumption) ?_
              try simp only [Act.put, List.setIfInBounds_toArray, List.set_cons_zero, List.set_cons_succ]
              refine wpAnyH_take (i := 30) (oi := { dst := some 115, op := Op.pick (Operand.tmp 106) (Operand.tmp 114) (Operand.const (Value.bool false)), type := 4, pos := "right.go:116", after := #[{ on := 21, ground := Ground.data }, { on := 29, ground := Ground.data }, { on := 13, ground := Ground.guard }], guard := some (13, false) }) (v := ?_) rfl (by kernel_rfl) (by kernel_rfl) (by kernel_rfl) (fun _ _ _ h => h) (Or.inl ⟨by rfl, ?_⟩) (by assumption) ?_
              rotate_left
              · intro w hSw; (try dsimp only at hSw); go_simp; first | done | with_reducible rfl
              try simp only [Act.put, List.setIfInBounds_toArray, List.set_cons_zero, List.set_cons_succ]
              refine wpAnyH_take (i := 31) (oi := { dst := some 116, op := Op.pick (Operand.tmp 98) (Operand.const (Value.bool true)) (Operand.tmp 115), type := 4, pos := "right.go:116", after := #[{ on := 13, ground := Ground.data }, { on := 30, ground := Ground.data }], guard := none }) (v := ?_) rfl (by kernel_rfl) (by kernel_rfl) (by kernel_rfl) (fun _ _ _ h => h) (Or.inl ⟨by rfl, ?_⟩) (by assumption) ?_
              rotate_left
              · intro w hSw; (try dsimp only at hSw); go_simp; first | done | with_reducible rfl
              try simp only [Act.put, List.setIfInBounds_toArray, List.set_cons_zero, List.set_cons_succ]
              refine wpAnyH_done (by kernel_rfl) ?_ _
              clear KS hHeld
              go_wp2_with fail
              replace hG := Hid.mk (hG.out.trans hG0)
              go_roundw
              case rel => exact ⟨k2 + 1, by simp, by omega, ⟨hsf.out, hG.out⟩⟩
              case measure => simp [intOf]; omega
        · have kl : ¬ (k2 : Int) < c.code.length := by omega
          rw [drop_end hkl] at hsf
          have hz : codeF c.code.length g c.code = 0 := by rw [← hsf]; rfl
          replace hz := Hid.mk hz
          replace hG := Hid.mk hG
          clear hsf
          go_wp2_with fail
          go_ret
          exact ⟨retI (by rw [hq.out, hz.out]), hGR.out.trans hG.out⟩
end Go.Proofs.YtmmakknhaacplaaGreatDoor
