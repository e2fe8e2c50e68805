import Derived.Test.YthblllanofnmmaaP40
import Derived.Test.YthblllanofnmmaaTNewA
/-
  Stage 6, tagmem: the document's memory: New.
-/
namespace Go.Proofs.Ythblllanofnmmaa
namespace T
open Go.RowKit

def dBk (b : Nat → UInt8) (base : Nat) (d : List UInt8) (k : Nat) : Nat → UInt8 := layB b base (inMem base d) (min k (inMem base d).length)
def dTk (t : Nat → Option Cp) (base : Nat) (d : List UInt8) (k : Nat) : Nat → Option Cp := offT t base (base + min k (inMem base d).length)
theorem inMem_length (base : Nat) (d : List UInt8) : (inMem base d).length = min (65536 - base) d.length := by unfold inMem; rw [List.length_take]
theorem dBk_zero (b : Nat → UInt8) (base : Nat) (d : List UInt8) : dBk b base d 0 = b := by unfold dBk; rw [Nat.zero_min]; rfl
theorem dTk_zero (t : Nat → Option Cp) (base : Nat) (d : List UInt8) : dTk t base d 0 = t := by unfold dTk; rw [Nat.zero_min]; exact offT_done _ _ _ (by omega)
theorem dBk_all (b : Nat → UInt8) (base : Nat) (d : List UInt8) : dBk b base d d.length = dataB b base d := by
  unfold dBk dataB
  rw [show min d.length (inMem base d).length = (inMem base d).length by rw [inMem_length]; omega]
theorem dTk_all (t : Nat → Option Cp) (base : Nat) (d : List UInt8) : dTk t base d d.length = dataT t base d := by
  unfold dTk dataT
  rw [show min d.length (inMem base d).length = (inMem base d).length by rw [inMem_length]; omega]
theorem dBk_in (b : Nat → UInt8) (base : Nat) (d : List UInt8) (k : Nat) (h : base + k < 65536) (hk : k < d.length) : dBk b base d (k + 1) = stB (dBk b base d k) (base + k) 1 d[k].toNat := by
  have hl := inMem_length base d
  have e1 : min (k + 1) (inMem base d).length = k + 1 := by omega
  have e2 : min k (inMem base d).length = k := by omega
  have e3 : wordB (base + k) 1 = true := by simp [wordB]; omega
  have e4 : (inMem base d).getD k 0 = d[k] := by
    have : (inMem base d)[k]? = some d[k] := by
      unfold inMem
      rw [List.getElem?_take_of_lt (by omega), List.getElem?_eq_getElem hk]
    simp [List.getD, this]
  unfold dBk
  rw [e1, e2, layB, e4, stB, e3, if_pos rfl, putB, putB]
  have e5 : UInt8.ofNat (d[k].toNat / 2 ^ (8 * 0) % 256) = d[k] := by
    have := d[k].toNat_lt
    rw [Nat.mul_zero, Nat.pow_zero, Nat.div_one, Nat.mod_eq_of_lt (by omega)]
    simp
  rw [e5]; rfl
theorem dBk_out (b : Nat → UInt8) (base : Nat) (d : List UInt8) (k : Nat) (h : ¬ base + k < 65536) : dBk b base d (k + 1) = dBk b base d k := by
  have hl := inMem_length base d
  unfold dBk
  rw [show min (k + 1) (inMem base d).length = min k (inMem base d).length by omega]
theorem dTk_out (t : Nat → Option Cp) (base : Nat) (d : List UInt8) (k : Nat) (h : ¬ base + k < 65536) : dTk t base d (k + 1) = dTk t base d k := by
  have hl := inMem_length base d
  unfold dTk
  rw [show min (k + 1) (inMem base d).length = min k (inMem base d).length by omega]
theorem dTk_in (t : Nat → Option Cp) (base : Nat) (d : List UInt8) (k : Nat) (h : base + k < 65536) (hk : k < d.length) {tg : Nat → Bool} {cp : Nat → Cp} (hr : Rel (dTk t base d k) tg cp) : Rel (dTk t base d (k + 1)) (stG tg (base + k) 1) cp := by
  have hl := inMem_length base d
  have e1 : min (k + 1) (inMem base d).length = k + 1 := by omega
  have e2 : min k (inMem base d).length = k := by omega
  have e3 : wordB (base + k) 1 = true := by simp [wordB]; omega
  intro g
  have hg := hr g
  unfold dTk at hg ⊢
  rw [e2] at hg
  rw [e1, stG, e3, if_pos rfl]
  unfold offT offG at *
  by_cases q : g = (base + k) / 16
  · have c2 : (if base + k < base + k + 1 ∧ (base + k) / 16 ≤ g ∧ g * 16 < base + k + 1 then false else tg g) = false := if_pos ⟨by omega, by omega, by omega⟩
    rw [if_pos ⟨by omega, by omega, by omega⟩, c2]; rfl
  · have c2 : (if base + k < base + k + 1 ∧ (base + k) / 16 ≤ g ∧ g * 16 < base + k + 1 then false else tg g) = tg g := if_neg (by omega)
    rw [c2, ← hg]
    by_cases p : base / 16 ≤ g ∧ g * 16 < base + (k + 1)
    · rw [if_pos ⟨by omega, p⟩]
      by_cases z : base < base + k
      · rw [if_pos ⟨z, by omega, by omega⟩]
      · exfalso; omega
    · rw [if_neg (fun z => p z.2), if_neg (fun z => p ⟨z.2.1, by omega⟩)]
/-- How far a region is laid. -/
structure DtAt (d : Nat) (b : Nat → UInt8) (t : Nat → Option Cp) (W0 : World) (S0 : Nat → Prop) (W : World) : Prop where
  mem : ∃ tg cp, DIn S0 W d b tg cp ∧ Rel t tg cp
  kept : Kp S0 W0 W
/-- How many regions are laid. -/
structure DrAt (w : World) (d : Nat) (S0 : Nat → Prop) (L : List Rg) (A : Array Value) (j : Nat) (W : World) : Prop where
  mem : ∃ tg cp, DIn S0 W d (rgB L j) tg cp ∧ Rel (rgT L j) tg cp
  kept : Below w.heap.size w W
  box : At W w.heap.size A
set_option maxRecDepth 100000 in
set_option maxHeartbeats 4000000 in
theorem dNew_any (L : List Rg) (ra : Option Addr) (rc : Nat) (v1 v2 v3 : Value) (w : World) (hL : RgIn w ra L) (hok : ∀ r ∈ L, r.Ok) (hsl : ∀ r ∈ L, ∀ x ∈ r.slots, x.c < 18446744073709551616) (hl : L.length ≤ 140737488355328) :
    Calls Try.prog 7 #[.agg #[.slice ra L.length rc, v1, v2, v3]] w fun x w' => ∃ d S tg cp, x = .returned (.pointer (some ⟨d, 0, none⟩)) ∧ DIn S w' d (rgB L L.length) tg cp ∧ Rel (rgT L L.length) tg cp ∧ (∀ k, S k → w.heap.size < k) ∧ Below w.heap.size w w' := by
  have hE := Empty_any
  have A0 := At.new w #[.slice ra L.length rc, v1, v2, v3] 30
  replace hL := Hid.mk hL
  replace hok := Hid.mk hok
  replace hsl := Hid.mk hsl
  replace A0 := Hid.mk A0
  go_enter Try.func7, Try.ntmps7
  go_wp2_with fail
  refine (hE _).mono ?_
  rintro x W ⟨d, S0, rfl, hD, hn, hB⟩
  have st0 : DrAt w d S0 L #[.slice ra L.length rc, v1, v2, v3] 0 W := ⟨⟨_, _, hD, fun _ => rfl⟩, ((Below.refl _ w).alloc (Nat.le_refl _) _).trans (hB.mono (by simp)), at_below A0.out hB (by simp)⟩
  have hn' : ∀ k, S0 k → w.heap.size < k := fun k q => by have := hn k q; simp at this; omega
  replace st0 := Hid.mk st0
  replace hn' := Hid.mk hn'
  clear hD hn hB
  go_wp2_with fail
  go_loopw [4] (fun i wr => ∃ j : Nat, i = .int .i64 j ∧ j ≤ L.length ∧ DrAt w d S0 L #[.slice ra L.length rc, v1, v2, v3] j wr) (fun i _ => L.length - (intOf i).toNat)
  case atStart => exact ⟨0, rfl, by omega, st0.out⟩
  case round =>
    clear st0
    obtain ⟨j, rfl, hj, ⟨⟨tg, cp, hD, hR⟩, hK, hA⟩⟩ := hrel
    have z0 : wr.cell? ⟨w.heap.size, 0, none⟩ = some (.slice ra L.length rc) := hA.2.1 0
    have zl := hA.1
    by_cases hlt : j < L.length
    · have jl : (j : Int) < L.length := by omega
      obtain ⟨kb, off, sa, sc, rfl, hkb, c0, c1, c2, c3, hs⟩ := hL.out j hlt
      have hr := hok.out L[j] (List.getElem_mem hlt)
      have hx := hsl.out L[j] (List.getElem_mem hlt)
      have e1 : L[j]? = some L[j] := List.getElem?_eq_getElem hlt
      have eB : rgB L (j + 1) = L[j].toB (rgB L j) := by rw [rgB, e1]
      have eT : rgT L (j + 1) = L[j].toT (rgT L j) := by rw [rgT, e1]
      replace c0 := (hK.cell (p := ⟨kb, _, none⟩) hkb).trans c0
      replace c1 := (hK.cell (p := ⟨kb, _, none⟩) hkb).trans c1
      replace c2 := (hK.cell (p := ⟨kb, _, none⟩) hkb).trans c2
      replace c3 := (hK.cell (p := ⟨kb, _, none⟩) hkb).trans c3
      have hkb' : kb < wr.heap.size := Nat.lt_of_lt_of_le hkb hK.size
      have hj1 : Hid (j + 1 ≤ L.length) := ⟨hlt⟩
      generalize rgB L j = bj at *
      generalize rgT L j = tj at *
      generalize hbj1 : rgB L (j + 1) = bj1 at *
      generalize htj1 : rgT L (j + 1) = tj1 at *
      generalize L[j] = x at *
      rename World => wo
      have st1 : DtAt d (dBk bj x.b x.data 0) (dTk tj x.b x.data 0) (wo.alloc (.cells #[.int .u64 x.b, .int .u64 x.n, .string (str x.data), .slice sa x.slots.length sc] 66)) S0 (wo.alloc (.cells #[.int .u64 x.b, .int .u64 x.n, .string (str x.data), .slice sa x.slots.length sc] 66)) := by
        rw [dBk_zero, dTk_zero]
        exact ⟨⟨tg, cp, hD.gr ((Below.refl _ wo).alloc (Nat.le_refl _) _), hR⟩, Kp.refl _ _⟩
      have nS : ¬ S0 wo.heap.size := fun q => by have := hD.lt _ q; omega
      have KB : ∀ W, Kp S0 (wo.alloc (.cells #[.int .u64 x.b, .int .u64 x.n, .string (str x.data), .slice sa x.slots.length sc] 66)) W → At W wo.heap.size #[.int .u64 x.b, .int .u64 x.n, .string (str x.data), .slice sa x.slots.length sc] := fun W q => at_kp (At.new wo _ _) q nS
      have ss := str_size x.data
      replace hD := Hid.mk hD
      replace hR := Hid.mk hR
      replace hK := Hid.mk hK
      replace hA := Hid.mk hA
      replace hs := Hid.mk hs
      replace hr := Hid.mk hr
      replace hx := Hid.mk hx
      replace e1 := Hid.mk e1
      replace eB := Hid.mk eB
      replace eT := Hid.mk eT
      replace hbj1 := Hid.mk hbj1
      replace htj1 := Hid.mk htj1
      replace st1 := Hid.mk st1
      replace KB := Hid.mk KB
      replace nS := Hid.mk nS
      go_wp2_with fail
      go_loopw [6] (fun i wr => ∃ k : Nat, i = .int .i64 k ∧ k ≤ x.data.length ∧ DtAt d (dBk bj x.b x.data k) (dTk tj x.b x.data k) (wo.alloc (.cells #[.int .u64 x.b, .int .u64 x.n, .string (str x.data), .slice sa x.slots.length sc] 66)) S0 wr) (fun i _ => x.data.length - (intOf i).toNat)
      case atStart => exact ⟨0, rfl, by omega, st1.out⟩
      case round =>
        clear st1
        obtain ⟨k, rfl, hk, ⟨⟨tg2, cp2, hD2, hR2⟩, hK2⟩⟩ := hrel
        have A2 := KB.out _ hK2
        have y0 : wr.cell? ⟨wo.heap.size, 0, none⟩ = some (.int .u64 x.b) := A2.2.1 0
        have y2 : wr.cell? ⟨wo.heap.size, 2, none⟩ = some (.string (str x.data)) := A2.2.1 2
        have y3 : wr.cell? ⟨wo.heap.size, 3, none⟩ = some (.slice sa x.slots.length sc) := A2.2.1 3
        have yl := A2.1
        by_cases hk2 : k < x.data.length
        · have kl : (k : Int) < x.data.length := by omega
          have hk3 : Hid (k + 1 ≤ x.data.length) := ⟨hk2⟩
          have hbl := hr.out.rb
          have hdl := hr.out.rd
          have m0 : IntKind.u64.wrap (k : Int) = k := by rw [IntKind.wrap_u64]; omega
          by_cases hin : x.b + k < 65536
          · have p1 : (x.b : Int) < 65536 := by omega
            have m1 : IntKind.u64.wrap (65536 - (x.b : Int)) = 65536 - (x.b : Int) := by rw [IntKind.wrap_u64]; omega
            have p2 : (k : Int) < 65536 - (x.b : Int) := by omega
            have m2 : IntKind.u64.wrap ((x.b : Int) + k) = (x.b : Int) + k := by rw [IntKind.wrap_u64]; omega
            have js : k < (str x.data).size := by rw [str_size]; exact hk2
            have ha := str_at x.data k js hk2
            have hu := x.data[k].toNat_lt
            have m3 : IntKind.u64.wrap (x.data[k].toNat : Int) = x.data[k].toNat := by rw [IntKind.wrap_u64]; omega
            have hS := dStore_any S0 d (x.b + k) 1 x.data[k].toNat _ tg2 cp2 wr hD2 (by omega)
            have hB3 := dBk_in bj x.b x.data k hin hk2
            have hT3 := dTk_in tj x.b x.data k hin hk2 hR2
            have hS : Calls Try.prog 17 #[.pointer (some ⟨d, 0, none⟩), .int .u64 ((x.b + k : Nat) : Int), .int .u64 1, .int .u64 x.data[k].toNat] wr fun y w' => y = .returned (.int .i64 (ldE (x.b + k) 1)) ∧ DIn S0 w' d (dBk bj x.b x.data (k + 1)) (stG tg2 (x.b + k) 1) cp2 ∧ Kp S0 wr w' := by rw [hB3]; exact hS
            generalize hb5 : dBk bj x.b x.data (k + 1) = b5 at *
            generalize ht5 : dTk tj x.b x.data (k + 1) = t5 at *
            replace hb5 := Hid.mk hb5
            replace ht5 := Hid.mk ht5
            rw [Int.natCast_add] at hS
            generalize x.data[k] = u at *
            replace hS := Hid.mk hS
            replace hT3 := Hid.mk hT3
            replace hB3 := Hid.mk hB3
            replace hD2 := Hid.mk hD2
            replace hR2 := Hid.mk hR2
            replace hK2 := Hid.mk hK2
            replace A2 := Hid.mk A2
            have hS' := hS.out.mono (R' := fun y w' => y = .returned (.int .i64 (ldE (x.b + k) 1)) ∧ DtAt d b5 t5 (wo.alloc (.cells #[.int .u64 x.b, .int .u64 x.n, .string (str x.data), .slice sa x.slots.length sc] 66)) S0 w') (fun y w' q => ⟨q.1, ⟨⟨_, _, q.2.1, hT3.out⟩, hK2.out.trans q.2.2 (fun _ z => .inl z)⟩⟩)
            have hG : ∀ W, W = wr.drew → Calls Try.prog 17 #[.pointer (some ⟨d, 0, none⟩), .int .u64 ((x.b : Int) + k), .int .u64 1, .int .u64 u.toNat] W fun y w' => y = .returned (.int .i64 (ldE (x.b + k) 1)) ∧ DtAt d b5 t5 (wo.alloc (.cells #[.int .u64 x.b, .int .u64 x.n, .string (str x.data), .slice sa x.slots.length sc] 66)) S0 w' := by
              intro W e
              subst e
              have := dStore_any S0 d (x.b + k) 1 u.toNat _ tg2 cp2 wr.drew (hD2.out.gr (Below.drew (Below.refl _ _))) (by omega)
              rw [Int.natCast_add, ← hB3.out] at this
              exact this.mono (fun y w' q => ⟨q.1, ⟨⟨_, _, q.2.1, hT3.out⟩, (hK2.out.trans (Kp.drew S0 wr) (fun _ z => .inl z)).trans q.2.2 (fun _ z => .inl z)⟩⟩)
            replace hG := Hid.mk hG
            clear hS' hS
            go_wp2_with fail
            go_region_with (go_at_call 17; refine (hG.out _ rfl).mono ?_; rintro y w5 ⟨rfl, h5⟩; replace h5 := Hid.mk h5)
            all_goals
              go_wp2_with fail
              exact ⟨⟨k + 1, by go_num, hk3.out, by rw [hb5.out, ht5.out]; exact h5.out⟩, by have := hk3.out; simp [intOf]; omega⟩
          · have hB3 := dBk_out bj x.b x.data k hin
            have hT3 := dTk_out tj x.b x.data k hin
            have hd5 : DtAt d (dBk bj x.b x.data (k + 1)) (dTk tj x.b x.data (k + 1)) (wo.alloc (.cells #[.int .u64 x.b, .int .u64 x.n, .string (str x.data), .slice sa x.slots.length sc] 66)) S0 wr := by
              rw [hB3, hT3]; exact ⟨⟨tg2, cp2, hD2, hR2⟩, hK2⟩
            clear hB3 hT3
            generalize hb5 : dBk bj x.b x.data (k + 1) = b5 at *
            generalize ht5 : dTk tj x.b x.data (k + 1) = t5 at *
            replace hb5 := Hid.mk hb5
            replace ht5 := Hid.mk ht5
            replace hd5 := Hid.mk hd5
            replace hD2 := Hid.mk hD2
            replace hR2 := Hid.mk hR2
            replace hK2 := Hid.mk hK2
            replace A2 := Hid.mk A2
            by_cases hb6 : x.b < 65536
            · have p1 : (x.b : Int) < 65536 := by omega
              have m1 : IntKind.u64.wrap (65536 - (x.b : Int)) = 65536 - (x.b : Int) := by rw [IntKind.wrap_u64]; omega
              have p2 : decide ((k : Int) < 65536 - (x.b : Int)) = false := by simp; omega
              clear hin hb6
              go_wp2_with fail
              exact ⟨⟨k + 1, by go_num, hk3.out, by rw [hb5.out, ht5.out]; exact hd5.out⟩, by have := hk3.out; simp [intOf]; omega⟩
            · have p1 : decide ((x.b : Int) < 65536) = false := by simp; omega
              clear hin hb6
              obtain ⟨Y, hY⟩ : ∃ Y, IntKind.u64.wrap (65536 - (x.b : Int)) = Y := ⟨_, rfl⟩
              go_wp2_with fail
              exact ⟨⟨k + 1, by go_num, hk3.out, by rw [hb5.out, ht5.out]; exact hd5.out⟩, by have := hk3.out; simp [intOf]; omega⟩
        · have kl : ¬ (k : Int) < x.data.length := by omega
          have : k = x.data.length := by omega
          subst this
          rw [dBk_all] at hD2
          rw [dTk_all] at hR2
          have hBz : x.toB bj = slB (dataB bj x.b x.data) x.b x.slots x.slots.length := rfl
          have hTz : x.toT tj = slT (dataT tj x.b x.data) x.b x.slots x.slots.length := rfl
          generalize dataB bj x.b x.data = bd at *
          generalize dataT tj x.b x.data = td at *
          have st2 : DtAt d (slB bd x.b x.slots 0) (slT td x.b x.slots 0) (wo.alloc (.cells #[.int .u64 x.b, .int .u64 x.n, .string (str x.data), .slice sa x.slots.length sc] 66)) S0 wr := ⟨⟨tg2, cp2, hD2, hR2⟩, hK2⟩
          replace st2 := Hid.mk st2
          replace hBz := Hid.mk hBz
          replace hTz := Hid.mk hTz
          replace hD2 := Hid.mk hD2
          replace hR2 := Hid.mk hR2
          replace hK2 := Hid.mk hK2
          replace A2 := Hid.mk A2
          go_wp2_with fail
          go_loopw [7] (fun i wq => ∃ k : Nat, i = .int .i64 k ∧ k ≤ x.slots.length ∧ DtAt d (slB bd x.b x.slots k) (slT td x.b x.slots k) (wo.alloc (.cells #[.int .u64 x.b, .int .u64 x.n, .string (str x.data), .slice sa x.slots.length sc] 66)) S0 wq) (fun i _ => x.slots.length - (intOf i).toNat)
          case atStart => exact ⟨0, rfl, by omega, st2.out⟩
          case round =>
            clear st2 hD2 hR2 hK2 A2 y0 y2 y3 yl
            obtain ⟨k, rfl, hk, ⟨⟨tg3, cp3, hD3, hR3⟩, hK3⟩⟩ := hrel
            have A3 := KB.out _ hK3
            have y0 : wr.cell? ⟨wo.heap.size, 0, none⟩ = some (.int .u64 x.b) := A3.2.1 0
            have y3 : wr.cell? ⟨wo.heap.size, 3, none⟩ = some (.slice sa x.slots.length sc) := A3.2.1 3
            have yl := A3.1
            by_cases hk2 : k < x.slots.length
            · have kl2 : (k : Int) < x.slots.length := by omega
              have hk4 : Hid (k + 1 ≤ x.slots.length) := ⟨hk2⟩
              have hsl2 := hr.out.rs
              have hbl := hr.out.rb
              have KW : Below w.heap.size w wr := (hK.out.alloc hK.out.size _).trans (hK3.below (by simp; have := hK.out.size; omega) (fun k q => Nat.le_of_lt (hn'.out k q)))
              obtain ⟨b7, off7, rfl, hb7, hc7⟩ := hs.out k hk2
              have hc := fun q v r => (KW.cell (p := ⟨b7, _, none⟩) hb7).trans (hc7 q v r)
              have hb7' : b7 < wr.heap.size := Nat.lt_of_lt_of_le hb7 KW.size
              have hxc := hx.out x.slots[k] (List.getElem_mem hk2)
              have e7 : x.slots[k]? = some x.slots[k] := List.getElem?_eq_getElem hk2
              have eB7 : slB bd x.b x.slots (k + 1) = scB (slB bd x.b x.slots k) (x.b + k * 16) x.slots[k].v := by rw [slB, e7]; rfl
              have eT7 : slT td x.b x.slots (k + 1) = scT (slT td x.b x.slots k) (x.b + k * 16) x.slots[k].v := by rw [slT, e7]; rfl
              have q0 := hc 0 _ rfl
              have q1 := hc 1 _ rfl
              have q2 := hc 2 _ rfl
              have q3 := hc 3 _ rfl
              have q4 := hc 4 _ rfl
              have q5 := hc 5 _ rfl
              have q6 := hc 6 _ rfl
              have q7 := hc 7 _ rfl
              rw [Nat.add_zero] at q0
              have m4 : IntKind.i64.wrap (16 * (k : Int)) = 16 * (k : Int) := by rw [IntKind.wrap_i64]; omega
              have m5 : IntKind.u64.wrap (16 * (k : Int)) = 16 * (k : Int) := by rw [IntKind.wrap_u64]; omega
              by_cases hin : x.b < 65536 ∧ 16 * k < 65536
              · have p1 : decide (65536 ≤ (x.b : Int)) = false := by simp; omega
                have p2 : decide (65536 ≤ 16 * (k : Int)) = false := by simp; omega
                have m6 : IntKind.u64.wrap ((x.b : Int) + 16 * (k : Int)) = (x.b : Int) + 16 * (k : Int) := by rw [IntKind.wrap_u64]; omega
                have hvn : x.slots[k].v.n < 18446744073709551616 := by unfold Sl.v; split <;> simp <;> omega
                have hvc : 0 ≤ x.slots[k].v.c.c ∧ x.slots[k].v.c.c < 18446744073709551616 := by unfold Sl.v; split <;> simp [Cp.zero] <;> omega
                have hG : ∀ W, Below wr.heap.size wr W → Calls Try.prog 18 #[.pointer (some ⟨d, 0, none⟩), .int .u64 ((x.b : Int) + 16 * (k : Int)), x.slots[k].v.agg] W fun y w' => y = .returned (.int .i64 (lcE (x.b + k * 16))) ∧ DtAt d (slB bd x.b x.slots (k + 1)) (slT td x.b x.slots (k + 1)) (wo.alloc (.cells #[.int .u64 x.b, .int .u64 x.n, .string (str x.data), .slice (some ⟨b7, off7, none⟩) x.slots.length sc] 66)) S0 w' := by
                  intro W q
                  have := dStoreCap_any S0 d (x.b + k * 16) _ tg3 cp3 x.slots[k].v W (hD3.gr q) hvn hvc (by omega)
                  rw [show ((x.b + k * 16 : Nat) : Int) = (x.b : Int) + 16 * (k : Int) by omega] at this
                  rw [eB7, eT7]
                  exact this.mono (fun y w' z => ⟨z.1, ⟨⟨_, _, z.2.1, ds_rel hR3 _ _⟩, (hK3.trans (Kp.of_below (S := S0) q) (fun _ z => .inl z)).trans z.2.2 (fun _ z => .inl z)⟩⟩)
                generalize hb5 : slB bd x.b x.slots (k + 1) = b5 at *
                generalize ht5 : slT td x.b x.slots (k + 1) = t5 at *
                generalize x.slots[k] = y at *
                replace hb5 := Hid.mk hb5
                replace ht5 := Hid.mk ht5
                replace hD3 := Hid.mk hD3
                replace hR3 := Hid.mk hR3
                replace hK3 := Hid.mk hK3
                replace KW := Hid.mk KW
                replace A3 := Hid.mk A3
                replace hc := Hid.mk hc
                replace hc7 := Hid.mk hc7
                replace e7 := Hid.mk e7
                replace eB7 := Hid.mk eB7
                replace eT7 := Hid.mk eT7
                clear hin hvn hvc
                cases hcap : y.cap
                all_goals
                  rw [hcap] at q0
                  simp only [Sl.v, hcap, Bool.false_eq_true, if_false, if_true, Vl.agg, Cp.zero] at hG
                  replace hG := Hid.mk hG
                  go_wp2_with fail
                  refine (hG.out _ (by (repeat (first | assumption | with_reducible exact Below.refl _ _ | with_reducible refine Below.drew ?_ | with_reducible refine Below.alloc ?_ (by simp <;> omega) _ | with_reducible refine Below.setCell ?_ (by simp <;> omega) _)))).mono ?_
                  rintro z w5 ⟨rfl, h5⟩
                  replace h5 := Hid.mk h5
                  go_wp2_with fail
                  exact ⟨⟨k + 1, by go_num, hk4.out, by rw [hb5.out, ht5.out]; exact h5.out⟩, by have := hk4.out; simp [intOf]; omega⟩
              · have hgr : granB (x.b + k * 16) = false := by simp [granB]; omega
                have hd5 : DtAt d (slB bd x.b x.slots (k + 1)) (slT td x.b x.slots (k + 1)) (wo.alloc (.cells #[.int .u64 x.b, .int .u64 x.n, .string (str x.data), .slice (some ⟨b7, off7, none⟩) x.slots.length sc] 66)) S0 wr := by
                  rw [eB7, eT7]
                  simp only [scB, scT, hgr, Bool.false_eq_true, if_false]
                  exact ⟨⟨tg3, cp3, hD3, hR3⟩, hK3⟩
                have hd6 : ∀ W, Below wr.heap.size wr W → DtAt d (slB bd x.b x.slots (k + 1)) (slT td x.b x.slots (k + 1)) (wo.alloc (.cells #[.int .u64 x.b, .int .u64 x.n, .string (str x.data), .slice (some ⟨b7, off7, none⟩) x.slots.length sc] 66)) S0 W := fun W q => by
                  obtain ⟨⟨t9, c9, h9, r9⟩, k9⟩ := hd5
                  exact ⟨⟨t9, c9, h9.gr q, r9⟩, k9.trans (Kp.of_below (S := S0) q) (fun _ z => .inl z)⟩
                generalize hb5 : slB bd x.b x.slots (k + 1) = b5 at *
                generalize ht5 : slT td x.b x.slots (k + 1) = t5 at *
                generalize x.slots[k] = y at *
                replace hb5 := Hid.mk hb5
                replace ht5 := Hid.mk ht5
                replace hd6 := Hid.mk hd6
                replace hD3 := Hid.mk hD3
                replace hR3 := Hid.mk hR3
                replace hK3 := Hid.mk hK3
                replace KW := Hid.mk KW
                replace A3 := Hid.mk A3
                replace hc := Hid.mk hc
                replace hc7 := Hid.mk hc7
                replace e7 := Hid.mk e7
                replace eB7 := Hid.mk eB7
                replace eT7 := Hid.mk eT7
                clear hd5 hgr
                by_cases hb6 : x.b < 65536
                · have p1 : decide (65536 ≤ (x.b : Int)) = false := by simp; omega
                  have p2 : decide (65536 ≤ 16 * (k : Int)) = true := by simp; omega
                  clear hin hb6
                  go_wp2_with fail
                  exact ⟨⟨k + 1, by go_num, hk4.out, by rw [hb5.out, ht5.out]; exact hd6.out _ (by (repeat (first | assumption | with_reducible exact Below.refl _ _ | with_reducible refine Below.drew ?_ | with_reducible refine Below.alloc ?_ (by simp <;> omega) _ | with_reducible refine Below.setCell ?_ (by simp <;> omega) _)))⟩, by have := hk4.out; simp [intOf]; omega⟩
                · have p1 : decide (65536 ≤ (x.b : Int)) = true := by simp; omega
                  clear hin hb6
                  go_wp2_with fail
                  exact ⟨⟨k + 1, by go_num, hk4.out, by rw [hb5.out, ht5.out]; exact hd6.out _ (by (repeat (first | assumption | with_reducible exact Below.refl _ _ | with_reducible refine Below.drew ?_ | with_reducible refine Below.alloc ?_ (by simp <;> omega) _ | with_reducible refine Below.setCell ?_ (by simp <;> omega) _)))⟩, by have := hk4.out; simp [intOf]; omega⟩
            · have kl2 : ¬ (k : Int) < x.slots.length := by omega
              have : k = x.slots.length := by omega
              subst this
              rw [← hBz.out, ← eB.out] at hD3
              rw [← hTz.out, ← eT.out] at hR3
              have KW : Below w.heap.size w wr := (hK.out.alloc hK.out.size _).trans (hK3.below (by simp; have := hK.out.size; omega) (fun k q => Nat.le_of_lt (hn'.out k q)))
              have AW : At wr w.heap.size #[.slice (some ⟨kb, off, none⟩) L.length rc, v1, v2, v3] := at_kp (hA.out.alloc _) hK3 (fun q => by have := hn'.out _ q; omega)
              replace hD3 := Hid.mk hD3
              replace hR3 := Hid.mk hR3
              replace hK3 := Hid.mk hK3
              replace KW := Hid.mk KW
              replace AW := Hid.mk AW
              replace A3 := Hid.mk A3
              go_wp2_with fail
              exact ⟨⟨j + 1, by go_num, hj1.out, ⟨⟨tg3, cp3, by rw [hbj1.out]; exact hD3.out, by rw [htj1.out]; exact hR3.out⟩, KW.out, AW.out⟩⟩, by have := hj1.out; simp [intOf]; omega⟩
    · have jl : ¬ (j : Int) < L.length := by omega
      have : j = L.length := by omega
      subst this
      replace hD := Hid.mk hD
      replace hR := Hid.mk hR
      replace hK := Hid.mk hK
      replace hA := Hid.mk hA
      go_wp2_with fail
      go_ret
      exact ⟨d, rfl, S0, tg, cp, hD.out, hR.out, hn'.out, hK.out⟩
end T
end Go.Proofs.Ythblllanofnmmaa
