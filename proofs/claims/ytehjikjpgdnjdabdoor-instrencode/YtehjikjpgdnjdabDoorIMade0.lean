/-
  Stage 3, instr: 'fields': an instruction of raw numbers.
-/
import Derived.Test.YtehjikjpgdnjdabDoorIPick
namespace Go.Proofs.YtehjikjpgdnjdabDoor
open Go.RowKit

/-- Raw numbers are in their ranges. -/
def InRaw (r : Ins) : Prop := R64 r.op ∧ R64 r.a ∧ R64 r.b ∧ R64 r.c ∧ R64 r.m
theorem fF_step (op : Int) (r : Ins) (l : UInt8) (s : List UInt8) (n n' : Int) (i i' : Ins) (hn : (if (l.toNat : Int) = 114 then n + 1 else n) = n') (hi : stepM op r l.toNat n i = i') :
    fF op r (l :: s) n i = fF op r s n' i' := by
  subst hn hi; rfl
set_option maxRecDepth 100000 in
set_option maxHeartbeats 8000000 in
theorem fields_any (r : Ins) (op : Int) (w : World) (hr : InRaw r) (h1 : op < 256) :
    Calls Tryd.prog 17 #[.agg #[.int .i64 r.op, .int .i64 r.a, .int .i64 r.b, .int .i64 r.c, .int .i64 r.m], .int .u8 op, .string (str (shapeOf op))] w fun x w' => x = .returned (madeF r op).agg ∧ Gr w w' := by
  obtain ⟨ro, ra, rb, rc, rm⟩ := hr
  unfold madeF
  obtain ⟨hl3, -⟩ := letters_small _ (shape_in op h1)
  generalize shapeOf op = s at hl3
  have ss := str_size s
  go_enter Tryd.func17, Tryd.ntmps17
  go_upto_region 2 with fail
  go_region_held3 (fun w' => w'.cell? ⟨w.heap.size, 1, none⟩ = some (.int .i64 r.a) ∧ w'.cell? ⟨w.heap.size, 2, none⟩ = some (.int .i64 r.b) ∧ w'.cell? ⟨w.heap.size, 3, none⟩ = some (.int .i64 r.c)) (simp [go_sem, *]) (first | (go_at_call 9; refine (pick_any _ _ _ (by assumption) (by omega) (by omega)).mono ?_; rintro x w' ⟨rfl, rfl⟩))
  rename_i hHeld
  clear hHeld
  go_wp2_with fail
  go_loopw [9, 10] (fun n k wr => ∃ (n0 : Int) (k0 : Nat) (i : Ins), n = .int .i64 n0 ∧ k = .int .i64 k0 ∧ 0 ≤ n0 ∧ n0 ≤ k0 ∧ k0 ≤ s.length ∧ Hid ((At wr w.heap.size #[.int .i64 r.op, .int .i64 r.a, .int .i64 r.b, .int .i64 r.c, .int .i64 r.m] ∧ At wr (w.heap.size + 1) #[.int .u8 0, .int .i64 0, .int .i64 0, .int .i64 0, .int .i64 0] ∧ At wr (w.heap.size + 1 + 1) #[.int .u8 i.op, .int .i64 i.a, .int .i64 i.b, .int .i64 i.c, .int .i64 i.m] ∧ At wr (w.heap.size + 1 + 1 + 1) #[.int .i64 (pickF r.a 16), .int .i64 (pickF r.b 16), .int .i64 (pickF r.c 16)] ∧ Gr w wr) ∧ fF op r (s.drop k0) n0 i = fF op r s 0 ⟨op, 0, 0, 0, 0⟩)) (fun _ k _ => s.length - (intOf k).toNat)
  case atStart =>
    refine ⟨0, 0, ⟨op, 0, 0, 0, 0⟩, rfl, rfl, by omega, by omega, by omega, ⟨⟨?_, ?_, ?_, ?_, ?_⟩, rfl⟩⟩
    · exact ((((At.new w _ _).alloc _).alloc _).alloc _).drew
    · exact (((At.next w _ _ _).alloc _).alloc _).drew
    · exact (((by have := At.new ((w.alloc (.cells #[.int .i64 r.op, .int .i64 r.a, .int .i64 r.b, .int .i64 r.c, .int .i64 r.m] 46)).alloc (.cells #[.int .u8 0, .int .i64 0, .int .i64 0, .int .i64 0, .int .i64 0] 40)) #[.int .u8 op, .int .i64 0, .int .i64 0, .int .i64 0, .int .i64 0] 40; rwa [World.size_alloc, World.size_alloc] at this) : At (((w.alloc (.cells #[.int .i64 r.op, .int .i64 r.a, .int .i64 r.b, .int .i64 r.c, .int .i64 r.m] 46)).alloc (.cells #[.int .u8 0, .int .i64 0, .int .i64 0, .int .i64 0, .int .i64 0] 40)).alloc (.cells #[.int .u8 op, .int .i64 0, .int .i64 0, .int .i64 0, .int .i64 0] 40)) (w.heap.size + 1 + 1) #[.int .u8 op, .int .i64 0, .int .i64 0, .int .i64 0, .int .i64 0]).alloc _).drew
    · exact At.drew (by have := At.new (((w.alloc (.cells #[.int .i64 r.op, .int .i64 r.a, .int .i64 r.b, .int .i64 r.c, .int .i64 r.m] 46)).alloc (.cells #[.int .u8 0, .int .i64 0, .int .i64 0, .int .i64 0, .int .i64 0] 40)).alloc (.cells #[.int .u8 op, .int .i64 0, .int .i64 0, .int .i64 0, .int .i64 0] 40)) #[.int .i64 (pickF r.a 16), .int .i64 (pickF r.b 16), .int .i64 (pickF r.c 16)] 3; rwa [World.size_alloc, World.size_alloc, World.size_alloc] at this)
    · exact (((((Gr.refl w).alloc _).alloc _).alloc _).alloc _).drew
  case round =>
    obtain ⟨n0, k0, i, rfl, rfl, hn0, hnk, hkl, ⟨⟨A0, A1, A2, A3, hG⟩, hf⟩⟩ := hrel
    have q0 := A0.2.1
    have q2 := A2.2.1
    have f2 := A2.2.2
    have z2 := A2.1
    by_cases hlt : k0 < s.length
    · have q3 := A3.2.1
      obtain ⟨l, hl⟩ : ∃ l, s[k0] = l := ⟨_, rfl⟩
      obtain ⟨L, hL⟩ : ∃ L, (l.toNat : Int) = L := ⟨_, rfl⟩
      have ix : ∀ h, ((((str s)[k0]'h).toNat : Nat) : Int) = L := fun h => by rw [str_at s k0 h hlt, hl, hL]
      obtain ⟨r', hr', hr2⟩ := drop_cons (s := s) (pos := k0) rfl hlt
      rw [hl] at hr'
      rw [hr'] at hf
      clear hr' hl
      have hr3 := Hid.mk hr2
      clear hr2
      have n3 : n0 < 3 := by omega
      have lt1 : (k0 : Int) < s.length := by omega
      by_cases e114 : (l.toNat : Int) = 114
      · by_cases hz : n0 = 0
        · have st := fF_step op r l r' n0 (n0 + 1) i { i with a := pickF r.a 16 } (by rw [if_pos e114]) (by simp [stepM, e114, hz])
          rw [st] at hf
          clear st
          have b114 : ((l.toNat : Int) == 114) = true := by simpa using e114
          have nz : (n0 == 0) = true := by simpa using hz
          rw [hL] at b114 e114
          replace hL := Hid.mk hL
          replace e114 := Hid.mk e114
          replace hz := Hid.mk hz
          replace hf := Hid.mk hf
          go_wp2_with (go_at_call 9; refine (pick_any _ _ _ (by assumption) (by omega) (by omega)).mono ?_; rintro x w' ⟨rfl, rfl⟩)
          go_roundw
          case rel => exact ⟨(n0 + 1), k0 + 1, { i with a := pickF r.a 16 }, rfl, by simp, by omega, by omega, by omega, ⟨⟨A0.set_other _ (by omega), A1.set_other _ (by omega), A2.set 1 _ (by simp), A3.set_other _ (by omega), hG.setCell _ _ _ (by omega)⟩, by rw [hr3.out]; exact hf.out⟩⟩
          case measure => simp [intOf]; omega
        · by_cases ho : n0 = 1
          · have st := fF_step op r l r' n0 (n0 + 1) i { i with b := pickF r.b 16 } (by rw [if_pos e114]) (by simp [stepM, e114, ho])
            rw [st] at hf
            clear st
            have b114 : ((l.toNat : Int) == 114) = true := by simpa using e114
            have nz : (n0 == 0) = false := by simpa using hz
            have no : (n0 == 1) = true := by simpa using ho
            rw [hL] at b114 e114
            replace hL := Hid.mk hL
            replace e114 := Hid.mk e114
            replace hz := Hid.mk hz
            replace ho := Hid.mk ho
            replace hf := Hid.mk hf
            go_wp2_with (go_at_call 9; refine (pick_any _ _ _ (by assumption) (by omega) (by omega)).mono ?_; rintro x w' ⟨rfl, rfl⟩)
            go_roundw
            case rel => exact ⟨(n0 + 1), k0 + 1, { i with b := pickF r.b 16 }, rfl, by simp, by omega, by omega, by omega, ⟨⟨A0.set_other _ (by omega), A1.set_other _ (by omega), A2.set 2 _ (by simp), A3.set_other _ (by omega), hG.setCell _ _ _ (by omega)⟩, by rw [hr3.out]; exact hf.out⟩⟩
            case measure => simp [intOf]; omega
          · have st := fF_step op r l r' n0 (n0 + 1) i { i with c := pickF r.c 16 } (by rw [if_pos e114]) (by simp [stepM, e114, hz, ho])
            rw [st] at hf
            clear st
            have b114 : ((l.toNat : Int) == 114) = true := by simpa using e114
            have nz : (n0 == 0) = false := by simpa using hz
            have no : (n0 == 1) = false := by simpa using ho
            rw [hL] at b114 e114
            replace hL := Hid.mk hL
            replace e114 := Hid.mk e114
            replace hz := Hid.mk hz
            replace ho := Hid.mk ho
            replace hf := Hid.mk hf
            go_wp2_with (go_at_call 9; refine (pick_any _ _ _ (by assumption) (by omega) (by omega)).mono ?_; rintro x w' ⟨rfl, rfl⟩)
            go_roundw
            case rel => exact ⟨(n0 + 1), k0 + 1, { i with c := pickF r.c 16 }, rfl, by simp, by omega, by omega, by omega, ⟨⟨A0.set_other _ (by omega), A1.set_other _ (by omega), A2.set 3 _ (by simp), A3.set_other _ (by omega), hG.setCell _ _ _ (by omega)⟩, by rw [hr3.out]; exact hf.out⟩⟩
            case measure => simp [intOf]; omega
      · skip
        by_cases e105 : (l.toNat : Int) = 105
        · by_cases hm : r.m < 0
          · by_cases p70 : op = 70
            · have st := fF_step op r l r' n0 n0 i { i with m := pickF r.m 2147483648 } (by rw [if_neg e114]) (by simp [stepM, e105, p70])
              rw [st] at hf
              clear st
              have b114 : ((l.toNat : Int) == 114) = false := by simpa using e114
              have b105 : ((l.toNat : Int) == 105) = true := by simpa using e105
              have dm : decide (r.m < 0) = true := by simpa using hm
              have c70 : (op != 70) = false := by simpa using p70
              rw [hL] at b114 b105 e114 e105
              replace hL := Hid.mk hL
              replace e114 := Hid.mk e114
              replace e105 := Hid.mk e105
              replace hm := Hid.mk hm
              replace p70 := Hid.mk p70
              replace hf := Hid.mk hf
              go_wp2_with (go_at_call 9; refine (pick_any _ _ _ (by assumption) (by omega) (by omega)).mono ?_; rintro x w' ⟨rfl, rfl⟩)
              go_roundw
              case rel => exact ⟨n0, k0 + 1, { i with m := pickF r.m 2147483648 }, rfl, by simp, by omega, by omega, by omega, ⟨⟨A0.set_other _ (by omega), A1.set_other _ (by omega), A2.set 4 _ (by simp), A3.set_other _ (by omega), hG.setCell _ _ _ (by omega)⟩, by rw [hr3.out]; exact hf.out⟩⟩
              case measure => simp [intOf]; omega
            · by_cases p71 : op = 71
              · have st := fF_step op r l r' n0 n0 i { i with m := pickF r.m 2147483648 } (by rw [if_neg e114]) (by simp [stepM, e105, p71])
                rw [st] at hf
                clear st
                have b114 : ((l.toNat : Int) == 114) = false := by simpa using e114
                have b105 : ((l.toNat : Int) == 105) = true := by simpa using e105
                have dm : decide (r.m < 0) = true := by simpa using hm
                have c70 : (op != 70) = true := by simpa using p70
                have c71 : (op != 71) = false := by simpa using p71
                rw [hL] at b114 b105 e114 e105
                replace hL := Hid.mk hL
                replace e114 := Hid.mk e114
                replace e105 := Hid.mk e105
                replace hm := Hid.mk hm
                replace p70 := Hid.mk p70
                replace p71 := Hid.mk p71
                replace hf := Hid.mk hf
                go_wp2_with (go_at_call 9; refine (pick_any _ _ _ (by assumption) (by omega) (by omega)).mono ?_; rintro x w' ⟨rfl, rfl⟩)
                go_roundw
                case rel => exact ⟨n0, k0 + 1, { i with m := pickF r.m 2147483648 }, rfl, by simp, by omega, by omega, by omega, ⟨⟨A0.set_other _ (by omega), A1.set_other _ (by omega), A2.set 4 _ (by simp), A3.set_other _ (by omega), hG.setCell _ _ _ (by omega)⟩, by rw [hr3.out]; exact hf.out⟩⟩
                case measure => simp [intOf]; omega
              · have st := fF_step op r l r' n0 n0 i { i with m := -1 - pickF r.m 2147483648 } (by rw [if_neg e114]) (by simp [stepM, e105, p70, p71, hm])
                rw [st] at hf
                clear st
                have b114 : ((l.toNat : Int) == 114) = false := by simpa using e114
                have b105 : ((l.toNat : Int) == 105) = true := by simpa using e105
                have dm : decide (r.m < 0) = true := by simpa using hm
                have c70 : (op != 70) = true := by simpa using p70
                have c71 : (op != 71) = true := by simpa using p71
                rw [hL] at b114 b105 e114 e105
                replace hL := Hid.mk hL
                replace e114 := Hid.mk e114
                replace e105 := Hid.mk e105
                replace hm := Hid.mk hm
                replace p70 := Hid.mk p70
                replace p71 := Hid.mk p71
                replace hf := Hid.mk hf
                go_upto_region 18 with (go_at_call 9; refine (pick_any _ _ _ (by assumption) (by omega) (by omega)).mono ?_; rintro x w' ⟨rfl, rfl⟩)
                refine wp_world (fun V => At V w.heap.size #[.int .i64 r.op, .int .i64 r.a, .int .i64 r.b, .int .i64 r.c, .int .i64 r.m] ∧ At V (w.heap.size + 1) #[.int .u8 0, .int .i64 0, .int .i64 0, .int .i64 0, .int .i64 0] ∧ At V (w.heap.size + 1 + 1) #[.int .u8 (({ i with m := pickF r.m 2147483648 } : Ins)).op, .int .i64 (({ i with m := pickF r.m 2147483648 } : Ins)).a, .int .i64 (({ i with m := pickF r.m 2147483648 } : Ins)).b, .int .i64 (({ i with m := pickF r.m 2147483648 } : Ins)).c, .int .i64 (({ i with m := pickF r.m 2147483648 } : Ins)).m] ∧ At V (w.heap.size + 1 + 1 + 1) #[.int .i64 (pickF r.a 16), .int .i64 (pickF r.b 16), .int .i64 (pickF r.c 16)] ∧ Gr w V) ⟨A0.set_other _ (by omega), A1.set_other _ (by omega), A2.set 4 _ (by simp), A3.set_other _ (by omega), hG.setCell _ _ _ (by omega)⟩ ?_
                clear q0 q2 q3 f2 z2 A0 A1 A2 A3 hG
                rintro V ⟨A0, A1, A2, A3, hG⟩
                have q0 := A0.2.1
                have q2 := A2.2.1
                have f2 := A2.2.2
                have z2 := A2.1
                have pm := pickF_range r.m 2147483648 (by omega)
                obtain ⟨pm0, pm1⟩ := pm
                go_wp2_with (go_at_call 9; refine (pick_any _ _ _ (by assumption) (by omega) (by omega)).mono ?_; rintro x w' ⟨rfl, rfl⟩)
                go_roundw
                case rel => exact ⟨n0, k0 + 1, { i with m := -1 - pickF r.m 2147483648 }, rfl, by simp, by omega, by omega, by omega, ⟨⟨A0.set_other _ (by omega), A1.set_other _ (by omega), A2.set 4 _ (by simp), A3.set_other _ (by omega), hG.setCell _ _ _ (by omega)⟩, by rw [hr3.out]; exact hf.out⟩⟩
                case measure => simp [intOf]; omega
          · have st := fF_step op r l r' n0 n0 i { i with m := pickF r.m 2147483648 } (by rw [if_neg e114]) (by simp [stepM, e105, hm])
            rw [st] at hf
            clear st
            have b114 : ((l.toNat : Int) == 114) = false := by simpa using e114
            have b105 : ((l.toNat : Int) == 105) = true := by simpa using e105
            have dm : decide (r.m < 0) = false := by simpa using hm
            rw [hL] at b114 b105 e114 e105
            replace hL := Hid.mk hL
            replace e114 := Hid.mk e114
            replace e105 := Hid.mk e105
            replace hm := Hid.mk hm
            replace hf := Hid.mk hf
            go_wp2_with (go_at_call 9; refine (pick_any _ _ _ (by assumption) (by omega) (by omega)).mono ?_; rintro x w' ⟨rfl, rfl⟩)
            go_roundw
            case rel => exact ⟨n0, k0 + 1, { i with m := pickF r.m 2147483648 }, rfl, by simp, by omega, by omega, by omega, ⟨⟨A0.set_other _ (by omega), A1.set_other _ (by omega), A2.set 4 _ (by simp), A3.set_other _ (by omega), hG.setCell _ _ _ (by omega)⟩, by rw [hr3.out]; exact hf.out⟩⟩
            case measure => simp [intOf]; omega
        · skip
          by_cases e110 : (l.toNat : Int) = 110
          · have st := fF_step op r l r' n0 n0 i { i with m := pickF r.m 65537 } (by rw [if_neg e114]) (by simp [stepM, e110])
            rw [st] at hf
            clear st
            have b114 : ((l.toNat : Int) == 114) = false := by simpa using e114
            have b105 : ((l.toNat : Int) == 105) = false := by simpa using e105
            have b110 : ((l.toNat : Int) == 110) = true := by simpa using e110
            rw [hL] at b114 b105 b110 e114 e105 e110
            replace hL := Hid.mk hL
            replace e114 := Hid.mk e114
            replace e105 := Hid.mk e105
            replace e110 := Hid.mk e110
            replace hf := Hid.mk hf
            go_wp2_with (go_at_call 9; refine (pick_any _ _ _ (by assumption) (by omega) (by omega)).mono ?_; rintro x w' ⟨rfl, rfl⟩)
            go_roundw
            case rel => exact ⟨n0, k0 + 1, { i with m := pickF r.m 65537 }, rfl, by simp, by omega, by omega, by omega, ⟨⟨A0.set_other _ (by omega), A1.set_other _ (by omega), A2.set 4 _ (by simp), A3.set_other _ (by omega), hG.setCell _ _ _ (by omega)⟩, by rw [hr3.out]; exact hf.out⟩⟩
            case measure => simp [intOf]; omega
          · skip
            by_cases e112 : (l.toNat : Int) = 112
            · have st := fF_step op r l r' n0 n0 i { i with m := pickF r.m 128 } (by rw [if_neg e114]) (by simp [stepM, e112])
              rw [st] at hf
              clear st
              have b114 : ((l.toNat : Int) == 114) = false := by simpa using e114
              have b105 : ((l.toNat : Int) == 105) = false := by simpa using e105
              have b110 : ((l.toNat : Int) == 110) = false := by simpa using e110
              have b112 : ((l.toNat : Int) == 112) = true := by simpa using e112
              rw [hL] at b114 b105 b110 b112 e114 e105 e110 e112
              replace hL := Hid.mk hL
              replace e114 := Hid.mk e114
              replace e105 := Hid.mk e105
              replace e110 := Hid.mk e110
              replace e112 := Hid.mk e112
              replace hf := Hid.mk hf
              go_wp2_with (go_at_call 9; refine (pick_any _ _ _ (by assumption) (by omega) (by omega)).mono ?_; rintro x w' ⟨rfl, rfl⟩)
              go_roundw
              case rel => exact ⟨n0, k0 + 1, { i with m := pickF r.m 128 }, rfl, by simp, by omega, by omega, by omega, ⟨⟨A0.set_other _ (by omega), A1.set_other _ (by omega), A2.set 4 _ (by simp), A3.set_other _ (by omega), hG.setCell _ _ _ (by omega)⟩, by rw [hr3.out]; exact hf.out⟩⟩
              case measure => simp [intOf]; omega
            · skip
              by_cases e115 : (l.toNat : Int) = 115
              · have st := fF_step op r l r' n0 n0 i { i with m := pickF r.m 16 } (by rw [if_neg e114]) (by simp [stepM, e115])
                rw [st] at hf
                clear st
                have b114 : ((l.toNat : Int) == 114) = false := by simpa using e114
                have b105 : ((l.toNat : Int) == 105) = false := by simpa using e105
                have b110 : ((l.toNat : Int) == 110) = false := by simpa using e110
                have b112 : ((l.toNat : Int) == 112) = false := by simpa using e112
                have b115 : ((l.toNat : Int) == 115) = true := by simpa using e115
                rw [hL] at b114 b105 b110 b112 b115 e114 e105 e110 e112 e115
                replace hL := Hid.mk hL
                replace e114 := Hid.mk e114
                replace e105 := Hid.mk e105
                replace e110 := Hid.mk e110
                replace e112 := Hid.mk e112
                replace e115 := Hid.mk e115
                replace hf := Hid.mk hf
                go_wp2_with (go_at_call 9; refine (pick_any _ _ _ (by assumption) (by omega) (by omega)).mono ?_; rintro x w' ⟨rfl, rfl⟩)
                go_roundw
                case rel => exact ⟨n0, k0 + 1, { i with m := pickF r.m 16 }, rfl, by simp, by omega, by omega, by omega, ⟨⟨A0.set_other _ (by omega), A1.set_other _ (by omega), A2.set 4 _ (by simp), A3.set_other _ (by omega), hG.setCell _ _ _ (by omega)⟩, by rw [hr3.out]; exact hf.out⟩⟩
                case measure => simp [intOf]; omega
              · skip
                by_cases e116 : (l.toNat : Int) = 116
                · have st := fF_step op r l r' n0 n0 i { i with m := pickF r.m 2147483648 } (by rw [if_neg e114]) (by simp [stepM, e116])
                  rw [st] at hf
                  clear st
                  have b114 : ((l.toNat : Int) == 114) = false := by simpa using e114
                  have b105 : ((l.toNat : Int) == 105) = false := by simpa using e105
                  have b110 : ((l.toNat : Int) == 110) = false := by simpa using e110
                  have b112 : ((l.toNat : Int) == 112) = false := by simpa using e112
                  have b115 : ((l.toNat : Int) == 115) = false := by simpa using e115
                  have b116 : ((l.toNat : Int) == 116) = true := by simpa using e116
                  rw [hL] at b114 b105 b110 b112 b115 b116 e114 e105 e110 e112 e115 e116
                  replace hL := Hid.mk hL
                  replace e114 := Hid.mk e114
                  replace e105 := Hid.mk e105
                  replace e110 := Hid.mk e110
                  replace e112 := Hid.mk e112
                  replace e115 := Hid.mk e115
                  replace e116 := Hid.mk e116
                  replace hf := Hid.mk hf
                  go_wp2_with (go_at_call 9; refine (pick_any _ _ _ (by assumption) (by omega) (by omega)).mono ?_; rintro x w' ⟨rfl, rfl⟩)
                  go_roundw
                  case rel => exact ⟨n0, k0 + 1, { i with m := pickF r.m 2147483648 }, rfl, by simp, by omega, by omega, by omega, ⟨⟨A0.set_other _ (by omega), A1.set_other _ (by omega), A2.set 4 _ (by simp), A3.set_other _ (by omega), hG.setCell _ _ _ (by omega)⟩, by rw [hr3.out]; exact hf.out⟩⟩
                  case measure => simp [intOf]; omega
                · skip
                  by_cases e103 : (l.toNat : Int) = 103
                  · have st := fF_step op r l r' n0 n0 i { i with m := pickF r.m 2147483648 } (by rw [if_neg e114]) (by simp [stepM, e103])
                    rw [st] at hf
                    clear st
                    have b114 : ((l.toNat : Int) == 114) = false := by simpa using e114
                    have b105 : ((l.toNat : Int) == 105) = false := by simpa using e105
                    have b110 : ((l.toNat : Int) == 110) = false := by simpa using e110
                    have b112 : ((l.toNat : Int) == 112) = false := by simpa using e112
                    have b115 : ((l.toNat : Int) == 115) = false := by simpa using e115
                    have b116 : ((l.toNat : Int) == 116) = false := by simpa using e116
                    have b103 : ((l.toNat : Int) == 103) = true := by simpa using e103
                    rw [hL] at b114 b105 b110 b112 b115 b116 b103 e114 e105 e110 e112 e115 e116 e103
                    replace hL := Hid.mk hL
                    replace e114 := Hid.mk e114
                    replace e105 := Hid.mk e105
                    replace e110 := Hid.mk e110
                    replace e112 := Hid.mk e112
                    replace e115 := Hid.mk e115
                    replace e116 := Hid.mk e116
                    replace e103 := Hid.mk e103
                    replace hf := Hid.mk hf
                    go_wp2_with (go_at_call 9; refine (pick_any _ _ _ (by assumption) (by omega) (by omega)).mono ?_; rintro x w' ⟨rfl, rfl⟩)
                    go_roundw
                    case rel => exact ⟨n0, k0 + 1, { i with m := pickF r.m 2147483648 }, rfl, by simp, by omega, by omega, by omega, ⟨⟨A0.set_other _ (by omega), A1.set_other _ (by omega), A2.set 4 _ (by simp), A3.set_other _ (by omega), hG.setCell _ _ _ (by omega)⟩, by rw [hr3.out]; exact hf.out⟩⟩
                    case measure => simp [intOf]; omega
                  · skip
                    by_cases e99 : (l.toNat : Int) = 99
                    · by_cases p28 : op = 28
                      · have st := fF_step op r l r' n0 n0 i { i with m := pickF r.m 256 } (by rw [if_neg e114]) (by simp [stepM, e99, p28])
                        rw [st] at hf
                        clear st
                        have b114 : ((l.toNat : Int) == 114) = false := by simpa using e114
                        have b105 : ((l.toNat : Int) == 105) = false := by simpa using e105
                        have b110 : ((l.toNat : Int) == 110) = false := by simpa using e110
                        have b112 : ((l.toNat : Int) == 112) = false := by simpa using e112
                        have b115 : ((l.toNat : Int) == 115) = false := by simpa using e115
                        have b116 : ((l.toNat : Int) == 116) = false := by simpa using e116
                        have b103 : ((l.toNat : Int) == 103) = false := by simpa using e103
                        have b99 : ((l.toNat : Int) == 99) = true := by simpa using e99
                        have c28 : (op == 28) = true := by simpa using p28
                        rw [hL] at b114 b105 b110 b112 b115 b116 b103 b99 e114 e105 e110 e112 e115 e116 e103 e99
                        replace hL := Hid.mk hL
                        replace e114 := Hid.mk e114
                        replace e105 := Hid.mk e105
                        replace e110 := Hid.mk e110
                        replace e112 := Hid.mk e112
                        replace e115 := Hid.mk e115
                        replace e116 := Hid.mk e116
                        replace e103 := Hid.mk e103
                        replace e99 := Hid.mk e99
                        replace p28 := Hid.mk p28
                        replace hf := Hid.mk hf
                        go_wp2_with (go_at_call 9; refine (pick_any _ _ _ (by assumption) (by omega) (by omega)).mono ?_; rintro x w' ⟨rfl, rfl⟩)
                        go_roundw
                        case rel => exact ⟨n0, k0 + 1, { i with m := pickF r.m 256 }, rfl, by simp, by omega, by omega, by omega, ⟨⟨A0.set_other _ (by omega), A1.set_other _ (by omega), A2.set 4 _ (by simp), A3.set_other _ (by omega), hG.setCell _ _ _ (by omega)⟩, by rw [hr3.out]; exact hf.out⟩⟩
                        case measure => simp [intOf]; omega
                      · have st := fF_step op r l r' n0 n0 i { i with c := pickF r.c 256 } (by rw [if_neg e114]) (by simp [stepM, e99, p28])
                        rw [st] at hf
                        clear st
                        have b114 : ((l.toNat : Int) == 114) = false := by simpa using e114
                        have b105 : ((l.toNat : Int) == 105) = false := by simpa using e105
                        have b110 : ((l.toNat : Int) == 110) = false := by simpa using e110
                        have b112 : ((l.toNat : Int) == 112) = false := by simpa using e112
                        have b115 : ((l.toNat : Int) == 115) = false := by simpa using e115
                        have b116 : ((l.toNat : Int) == 116) = false := by simpa using e116
                        have b103 : ((l.toNat : Int) == 103) = false := by simpa using e103
                        have b99 : ((l.toNat : Int) == 99) = true := by simpa using e99
                        have c28 : (op == 28) = false := by simpa using p28
                        rw [hL] at b114 b105 b110 b112 b115 b116 b103 b99 e114 e105 e110 e112 e115 e116 e103 e99
                        replace hL := Hid.mk hL
                        replace e114 := Hid.mk e114
                        replace e105 := Hid.mk e105
                        replace e110 := Hid.mk e110
                        replace e112 := Hid.mk e112
                        replace e115 := Hid.mk e115
                        replace e116 := Hid.mk e116
                        replace e103 := Hid.mk e103
                        replace e99 := Hid.mk e99
                        replace p28 := Hid.mk p28
                        replace hf := Hid.mk hf
                        go_wp2_with (go_at_call 9; refine (pick_any _ _ _ (by assumption) (by omega) (by omega)).mono ?_; rintro x w' ⟨rfl, rfl⟩)
                        go_roundw
                        case rel => exact ⟨n0, k0 + 1, { i with c := pickF r.c 256 }, rfl, by simp, by omega, by omega, by omega, ⟨⟨A0.set_other _ (by omega), A1.set_other _ (by omega), A2.set 3 _ (by simp), A3.set_other _ (by omega), hG.setCell _ _ _ (by omega)⟩, by rw [hr3.out]; exact hf.out⟩⟩
                        case measure => simp [intOf]; omega
                    · skip
                      have st := fF_step op r l r' n0 n0 i i (by rw [if_neg e114]) (by simp [stepM, e114, e105, e110, e112, e115, e116, e103, e99])
                      rw [st] at hf
                      clear st
                      have b114 : ((l.toNat : Int) == 114) = false := by simpa using e114
                      have b105 : ((l.toNat : Int) == 105) = false := by simpa using e105
                      have b110 : ((l.toNat : Int) == 110) = false := by simpa using e110
                      have b112 : ((l.toNat : Int) == 112) = false := by simpa using e112
                      have b115 : ((l.toNat : Int) == 115) = false := by simpa using e115
                      have b116 : ((l.toNat : Int) == 116) = false := by simpa using e116
                      have b103 : ((l.toNat : Int) == 103) = false := by simpa using e103
                      have b99 : ((l.toNat : Int) == 99) = false := by simpa using e99
                      rw [hL] at b114 b105 b110 b112 b115 b116 b103 b99 e114 e105 e110 e112 e115 e116 e103 e99
                      replace hL := Hid.mk hL
                      replace e114 := Hid.mk e114
                      replace e105 := Hid.mk e105
                      replace e110 := Hid.mk e110
                      replace e112 := Hid.mk e112
                      replace e115 := Hid.mk e115
                      replace e116 := Hid.mk e116
                      replace e103 := Hid.mk e103
                      replace e99 := Hid.mk e99
                      replace hf := Hid.mk hf
                      go_wp2_with (go_at_call 9; refine (pick_any _ _ _ (by assumption) (by omega) (by omega)).mono ?_; rintro x w' ⟨rfl, rfl⟩)
                      go_roundw
                      case rel => exact ⟨n0, k0 + 1, i, rfl, by simp, by omega, by omega, by omega, ⟨⟨A0, A1, A2, A3, hG⟩, by rw [hr3.out]; exact hf.out⟩⟩
                      case measure => simp [intOf]; omega
    · have q1 := A1.2.1
      have f1 := A1.2.2
      have ge1 : decide ((k0 : Int) < s.length) = false := by simp; omega
      have hd : s.drop k0 = [] := by rw [List.drop_eq_nil_iff]; omega
      rw [hd] at hf
      clear hd
      replace hf := Hid.mk hf
      have ne1 : w.heap.size + 1 ≠ w.heap.size + 1 + 1 := by omega
      go_wp2_with fail
      simp [bodyPost, results, Tryd.results17, go_sem, *]
      rw [← hf.out]
      refine ⟨rfl, ?_⟩
      repeat (refine Gr.setCell ?_ _ _ _ (by omega))
      exact hG
end Go.Proofs.YtehjikjpgdnjdabDoor
