/-
  Stage 3, instr: 'made': instructions of raw numbers.
-/
import Derived.Test.YtehjikjpgdnjdabDoorIMade0
namespace Go.Proofs.YtehjikjpgdnjdabDoor
open Go.RowKit

theorem infoOp : (Tryd.prog.info? 38).map (fun i => (i.zero, i.size, i.bytes)) = some (some (.int .u8 0), 1, 1) := by kernel_rfl
def OOwn (w : World) (base : Nat) (v : Value) (O : List Int) : Prop := w.ownsRow base 38 1 v O.length (O.map (Value.int .u8))
theorem wpList_append_op {ops : Array Oper} {rest : List Oper} {o : Oper} {a : Act} {Q : Exit → Act → World → Prop} {w : World} (hgd : o.guard = none) (s x : Operand)
    (ho : o.op = .call { callee := .builtin .append, args := #[s, x], argTypes := #[43, 43] })
    (base : Nat) (v : Value) (O : List Int) (k : Int) (hs : a.eval s = v) (hO : OOwn w base v O)
    (X : Nat) (hx : a.eval x = .slice (some ⟨X, 0, none⟩) 1 1) (hX : At w X #[.int .u8 k]) (hlen : O.length ≤ 1000) (hbase : base ≤ w.heap.size)
    (h : ∀ g cap w', OOwn w' base (.slice (some ⟨g, 0, none⟩) (O.length + 1) cap) (O ++ [k]) → w.grownBy w' v.ownBlock → wpList Tryd.prog ops Q rest (a.put o.dst (.slice (some ⟨g, 0, none⟩) (O.length + 1) cap)) w') :
    wpList Tryd.prog ops Q (o :: rest) a w := by
  obtain ⟨i0, hi, hz0, hz1, hz2⟩ := info_parts infoOp
  refine wpList_append_lies _ hgd s x 43 ho base 38 i0 (.int .u8 0) 1 1 Tryd.underlying43 hi hz0 hz1 hz2 rfl (by decide)
    v O.length (O.map (Value.int .u8)) hs hO ⟨X, 0, none⟩ 1 1 [.int .u8 k] hx (by simp) (news_at hX) (fun u hu => by rw [List.mem_singleton] at hu; rw [hu]; rfl) (by decide) (by unfold maxLen; omega) (by omega) hbase _ rfl ?_
  intro g cap w' h1 h2 _ _
  refine h g cap w' ?_ h2
  unfold OOwn
  rw [List.length_append, List.map_append]
  exact h1
/-- The operations below a number. -/
def opsL (n : Nat) : List Int := ((List.range n).filter fun k : Nat => !(nameOf (k : Int)).isEmpty).map fun k : Nat => (k : Int)
theorem opsL_next (n : Nat) (h : (nameOf n).isEmpty = false) : opsL (n + 1) = opsL n ++ [(n : Int)] := by
  simp [opsL, List.range_succ, List.filter_append, h]
theorem opsL_same (n : Nat) (h : (nameOf n).isEmpty = true) : opsL (n + 1) = opsL n := by
  simp [opsL, List.range_succ, List.filter_append, h]
theorem opsL_len (n : Nat) : (opsL n).length ≤ n := by
  unfold opsL
  rw [List.length_map]
  exact Nat.le_trans (List.length_filter_le _ _) (by simp)
theorem opsL_all : (opsL 256).length = 52 := by kernel_rfl
/-- The operation that a raw number picks. -/
def opK (k : Int) : Int := (opsL 256).getD (pickF k 52).toNat 0
theorem opK_in (k : Int) : (0 ≤ opK k ∧ opK k < 256) ∧ nameOf (opK k) ≠ [] := by
  have h : (opsL 256).all (fun o => decide (0 ≤ o) && decide (o < 256) && !(nameOf o).isEmpty) = true := by kernel_rfl
  have r := pickF_range k 52 (by omega)
  have hl : (pickF k 52).toNat < (opsL 256).length := by rw [opsL_all]; omega
  have hm : opK k ∈ opsL 256 := by
    unfold opK
    rw [List.getD_eq_getElem?_getD, List.getElem?_eq_getElem hl]
    exact List.getElem_mem hl
  have := List.all_eq_true.1 h _ hm
  simp only [Bool.and_eq_true, decide_eq_true_eq, Bool.not_eq_true'] at this
  exact ⟨this.1, by simpa using this.2⟩
def madeR (r : Ins) : Ins := madeF r (opK r.op)
theorem madeR_right (r : Ins) : (madeR r).right = 0 := made_right r _ (opK_in r.op).1.2 (opK_in r.op).2
theorem madeR_op (r : Ins) : 0 ≤ (madeR r).op ∧ (madeR r).op < 256 := by unfold madeR; rw [made_op]; exact (opK_in r.op).1
theorem made_allR (R : List Ins) : AllR (R.map madeR) := fun k hk => by
  obtain ⟨r, _, rfl⟩ := List.mem_map.1 hk; exact madeR_right r
theorem made_ops (R : List Ins) : OpsIn (R.map madeR) := fun k hk => by
  obtain ⟨r, _, rfl⟩ := List.mem_map.1 hk; exact madeR_op r
/-- Raw numbers that came in. -/
def FiveR (w : World) (b off : Nat) (k : Ins) : Prop :=
  w.cell? ⟨b, off, none⟩ = some (.int .i64 k.op) ∧ w.cell? ⟨b, off + 1, none⟩ = some (.int .i64 k.a) ∧ w.cell? ⟨b, off + 1 + 1, none⟩ = some (.int .i64 k.b) ∧ w.cell? ⟨b, off + 1 + 1 + 1, none⟩ = some (.int .i64 k.c) ∧ w.cell? ⟨b, off + 1 + 1 + 1 + 1, none⟩ = some (.int .i64 k.m)
def RIn (B : Nat) (w : World) (a : Option Addr) (R : List Ins) : Prop := ∀ i (h : i < R.length), ∃ b off : Nat, a = some ⟨b, off, none⟩ ∧ b < B ∧ b < w.heap.size ∧ FiveR w b (off + i * 5) R[i] ∧ InRaw R[i]
theorem RIn.below {B : Nat} {w w1 : World} {a : Option Addr} {R : List Ins} (h : RIn B w a R) (hb : Below B w w1) : RIn B w1 a R := fun i hi => by
  obtain ⟨b, off, ha, h1, h2, h3, h4⟩ := h i hi
  exact ⟨b, off, ha, h1, Nat.lt_of_lt_of_le h2 hb.size, ⟨(hb.cell (p := ⟨b, _, none⟩) h1).trans h3.1, (hb.cell (p := ⟨b, _, none⟩) h1).trans h3.2.1, (hb.cell (p := ⟨b, _, none⟩) h1).trans h3.2.2.1, (hb.cell (p := ⟨b, _, none⟩) h1).trans h3.2.2.2.1, (hb.cell (p := ⟨b, _, none⟩) h1).trans h3.2.2.2.2⟩, h4⟩
theorem OOwn.cell {w : World} {base g cap : Nat} {O : List Int} (h : OOwn w base (.slice (some ⟨g, 0, none⟩) O.length cap) O) (i : Nat) (hi : i < O.length) : w.cell? ⟨g, i, none⟩ = some (.int .u8 O[i]) := by
  have hc := World.ownsRow.cells h (g := g) rfl i (.int .u8 O[i]) (by simp [hi])
  have ea : (⟨g, 0, none⟩ : Addr).add i = ⟨g, i, none⟩ := by by_cases h0 : i = 0 <;> simp [Addr.add, h0]
  rwa [ea] at hc
set_option maxHeartbeats 2000000 in
theorem made_any (R : List Ins) (cap : Nat) (a : Option Addr) (w : World) (ht : TabIn w) (hR : RIn w.heap.size w a R) (hlen : R.length ≤ maxI) :
    Calls Tryd.prog 7 #[.slice a R.length cap] w fun x w' => ∃ v, x = .returned (.tuple #[v, .bool true]) ∧ LOwn w' w.heap.size v (R.map madeR) ∧ Below w.heap.size w w' := by
  have sl := str_list
  have hl1 : (R.length : Int) ≤ 3518437208883 := by unfold maxI at hlen; omega
  replace hR := Hid.mk hR
  go_enter Tryd.func7, Tryd.ntmps7
  go_wp2_with fail
  go_loopw [4, 5] (fun v n wr => ∃ k : Nat, n = .int .i64 k ∧ k ≤ 256 ∧ Hid (OOwn wr w.heap.size v (opsL k) ∧ Below w.heap.size w wr)) (fun _ n _ => 256 - (intOf n).toNat)
  case atStart => exact ⟨0, rfl, by omega, ⟨⟨rfl, .inl ⟨rfl, rfl⟩⟩, Below.refl _ _⟩⟩
  case round =>
    obtain ⟨k, rfl, hk, ⟨hO, hW⟩⟩ := hrel
    have hws := hW.size
    by_cases hlt : k < 256
    · have kl : (k : Int) < 256 := by omega
      have k0 : (0 : Int) ≤ k := by omega
      have e1 := Name_any (k : Int) wr (ht.below hW ht.size) k0 kl
      by_cases hn : (nameOf (k : Int)).isEmpty = true
      · have hs := opsL_same k hn
        rw [← hs] at hO
        clear hs
        replace hO := Hid.mk hO
        replace hW := Hid.mk hW
        generalize nameOf (k : Int) = z at *
        go_wp2_with (go_at_call 16; refine e1.mono ?_; rintro x w' ⟨rfl, rfl⟩)
        go_roundw
        case rel => exact ⟨k + 1, by simp, by omega, ⟨hO.out, hW.out⟩⟩
        case measure => simp [intOf]; omega
      · have hn' : (nameOf (k : Int)).isEmpty = false := by simpa using hn
        have hs := opsL_next k hn'
        have hob := own_block hO
        have hO2 : ∀ o, OOwn (wr.alloc o) w.heap.size u4 (opsL k) := fun o => own_below hO ((Gr.refl wr).alloc o).below
        have hW2 : ∀ o, Below w.heap.size w (wr.alloc o) := fun o => hW.trans (((Gr.refl wr).alloc o).below.mono hws)
        have hol := opsL_len k
        replace hs := Hid.mk hs
        replace hob := Hid.mk hob
        replace hO := Hid.mk hO
        replace hO2 := Hid.mk hO2
        replace hW := Hid.mk hW
        replace hW2 := Hid.mk hW2
        replace hol := Hid.mk hol
        clear hn
        generalize nameOf (k : Int) = z at *
        go_wp2_with (first | (go_at_call 16; refine e1.mono ?_; rintro x w' ⟨rfl, rfl⟩) | (at_builtin; refine wpList_append_op rfl (.tmp 18) (.tmp 21) rfl w.heap.size u4 (opsL k) (k : Int) rfl (hO2.out _) wr.heap.size rfl (by exact At.new wr _ _) (by have := hol.out; omega) (by simp; omega) ?_))
        intro g c w3 hO3 hg3
        replace hO3 := Hid.mk hO3
        replace hg3 := Hid.mk hg3
        go_wp2_with fail
        go_roundw
        case rel =>
          refine ⟨k + 1, by simp, by omega, ⟨?_, (hW2.out _).trans (Below.of_grown hg3.out (by simp; omega) (fun q hq => (hob.out q hq).1))⟩⟩
          rw [hs.out]
          exact hO3.out
        case measure => simp [intOf]; omega
    · have kl : ¬ (k : Int) < 256 := by omega
      obtain rfl : k = 256 := by omega
      have hlo := opsL_all
      obtain ⟨g, cg, rfl, hbg, hgl⟩ := World.ownsRow.form hO (by rw [opsL_all]; omega)
      rw [hlo]
      have hO52 : OOwn wr w.heap.size (.slice (some ⟨g, 0, none⟩) 52 cg) (opsL 256) := by rw [hlo] at hO; exact hO
      clear hlo
      replace hO := Hid.mk hO52
      clear hO52
      replace hW := Hid.mk hW
      go_wp2_with fail
      go_loopw [6, 7] (fun vo n wr2 => ∃ j : Nat, n = .int .i64 j ∧ j ≤ R.length ∧ Hid (OOwn wr2 w.heap.size (.slice (some ⟨g, 0, none⟩) 52 cg) (opsL 256) ∧ LOwn wr2 w.heap.size vo ((R.take j).map madeR) ∧ (∀ q, vo.ownBlock = some q → q ≠ g) ∧ Below w.heap.size w wr2)) (fun _ n _ => R.length - (intOf n).toNat)
      case atStart => exact ⟨0, rfl, by omega, ⟨hO.out, LOwn.nil _ _, (fun q hq => by cases hq), hW.out⟩⟩
      case round =>
        clear hO hW hws hgl
        obtain ⟨j, rfl, hj, ⟨hO, hL, hq, hW⟩⟩ := hrel
        have hws := hW.size
        by_cases hlt : j < R.length
        · obtain ⟨b, off, rfl, hb, hb2, ⟨c0, c1, c2, c3, c4⟩, hin⟩ := hR.out.below hW j hlt
          have jl : (j : Int) < R.length := by omega
          have hgb := (own_block hO g rfl).2
          have tk : R.take (j + 1) = R.take j ++ [R[j]] := List.take_succ_eq_append_getElem hlt
          have tkm : (R.take (j + 1)).map madeR = (R.take j).map madeR ++ [madeR R[j]] := by rw [tk, List.map_append]; rfl
          have hLl : ((R.take j).map madeR).length = j := by rw [List.length_map, List.length_take]; omega
          clear tk
          generalize R[j] = r at *
          obtain ⟨p0, p1⟩ := pickF_range r.op 52 (by omega)
          have hco : wr.cell? ⟨g, (pickF r.op 52).toNat, none⟩ = some (.int .u8 (opK r.op)) := by
            have hi : (pickF r.op 52).toNat < (opsL 256).length := by rw [opsL_all]; omega
            have := OOwn.cell (by rw [opsL_all]; exact hO) _ hi
            rw [this]
            unfold opK
            rw [List.getD_eq_getElem?_getD, List.getElem?_eq_getElem hi]
            rfl
          have hpk := fun W => pick_any r.op 52 W hin.1 (by omega) (by omega)
          obtain ⟨⟨o0, o1⟩, -⟩ := opK_in r.op
          have hsh := fun W tab => Shape_any (opK r.op) W tab o0 o1
          have hfi := fun W => fields_any r (opK r.op) W hin o1
          have hmr : madeR r = madeF r (opK r.op) := rfl
          rw [← hmr] at hfi
          clear hmr hin
          unfold Ins.agg at hfi
          generalize madeR r = k at *
          generalize (R.take j).map madeR = L at *
          replace tkm := Hid.mk tkm
          replace hLl := Hid.mk hLl
          generalize opK r.op = op at *
          generalize pickF r.op 52 = pk at *
          generalize shapeOf op = sh at *
          have T0 := (ht.below hW ht.size)
          have T1 : TabIn wr.drew := T0.gr (Gr.refl wr).drew
          have T2 : ∀ o, TabIn (wr.alloc o).drew := fun o => T0.gr ((Gr.refl wr).alloc o).drew
          replace hO := Hid.mk hO
          replace hL := Hid.mk hL
          replace hq := Hid.mk hq
          replace hW := Hid.mk hW
          replace T1 := Hid.mk T1
          replace T2 := Hid.mk T2
          have E1 : ∀ l o, (grow wr.drew l).cell? ⟨b, o, none⟩ = wr.cell? ⟨b, o, none⟩ := fun l o => grow_cell wr.drew l b o hb2
          have E2 : ∀ o' l o, (grow (wr.alloc o').drew l).cell? ⟨b, o, none⟩ = wr.cell? ⟨b, o, none⟩ := fun o' l o => (grow_cell (wr.alloc o').drew l b o (by simp; omega)).trans (World.cell?_alloc_past o' b _ hb2)
          have E3 : ∀ l o' o, ((grow wr.drew l).alloc o').cell? ⟨b, o, none⟩ = wr.cell? ⟨b, o, none⟩ := fun l o' o => (World.cell?_alloc_past o' b _ (grow_lt wr.drew l b hb2)).trans (grow_cell wr.drew l b o hb2)
          have L1 := grow_cell
          have L2 := grow_frozen
          have L3 := grow_set
          have L4 := lt1
          go_upto_region 14 with (go_at_call 9; refine (hpk _).mono ?_; rintro x w' ⟨rfl, rfl⟩)
          go_region_held3 (fun w' => w'.cell? ⟨b, off + j * 5, none⟩ = some (.int .i64 r.op) ∧ w'.cell? ⟨b, off + j * 5 + 1, none⟩ = some (.int .i64 r.a) ∧ w'.cell? ⟨b, off + j * 5 + 1 + 1, none⟩ = some (.int .i64 r.b) ∧ w'.cell? ⟨b, off + j * 5 + 1 + 1 + 1, none⟩ = some (.int .i64 r.c) ∧ w'.cell? ⟨b, off + j * 5 + 1 + 1 + 1 + 1, none⟩ = some (.int .i64 r.m)) (simp [go_sem, *]) (first | (go_at_call 18; refine (hsh _ (by first | exact T1.out | exact T2.out _)).mono ?_; rintro x w' ⟨rfl, rfl⟩) | (go_at_call 17; refine (hfi _).mono ?_; rintro x w' ⟨rfl, l, rfl⟩))
          · clear L1 L2 L3 L4 E1 E2 E3 c0 c1 c2 c3 c4 hco hpk hsh hfi T1 T2 T0
            go_upto_region 15 with fail
            refine wp_world (fun V => ∃ X, X = (grow wr.drew l).heap.size ∧ Gr wr V ∧ At V X #[.int .u8 k.op, .int .i64 k.a, .int .i64 k.b, .int .i64 k.c, .int .i64 k.m]) ⟨_, rfl, ((((Gr.refl wr).drew).grow l).alloc _), At.new _ _ _⟩ ?_
            rintro V ⟨X, hX, hGV, AX⟩
            rw [← hX]
            clear hX
            have hvs := hGV.below.size
            have qX := AX.2.1
            have zX := AX.1
            have hob := own_block hL.out
            have hBV := hGV.below
            have hLV : LOwn (V.alloc (.cells k.vals.toArray 40)) w.heap.size u6 L := own_below hL.out (hBV.trans (((Gr.refl V).alloc _).below.mono hvs))
            have hOV : OOwn (V.alloc (.cells k.vals.toArray 40)) w.heap.size (.slice (some ⟨g, 0, none⟩) 52 cg) (opsL 256) := own_below hO.out (hBV.trans (((Gr.refl V).alloc _).below.mono hvs))
            have hWV : Below w.heap.size w (V.alloc (.cells k.vals.toArray 40)) := hW.out.trans ((hBV.trans (((Gr.refl V).alloc _).below.mono hvs)).mono hws)
            replace hob := Hid.mk hob
            replace hLV := Hid.mk hLV
            replace hOV := Hid.mk hOV
            replace hWV := Hid.mk hWV
            clear hGV hBV
            go_wp2_with (at_builtin; refine wpList_append_ins rfl (.tmp 51) (.tmp 53) rfl w.heap.size u6 L k rfl hLV.out V.heap.size rfl (by exact At.new V _ _) (by have := hLl.out; unfold maxI; omega) (by simp; omega) ?_)
            intro g3 c3 w3 hL3 hg3 hat
            replace hL3 := Hid.mk hL3
            replace hg3 := Hid.mk hg3
            replace hat := Hid.mk hat
            go_wp2_with fail
            go_roundw
            case rel =>
              refine ⟨j + 1, by simp, by omega, ⟨?_, ?_, ?_, ?_⟩⟩
              · exact own_grown hOV.out hg3.out (fun q hq1 hq2 => by
                  obtain rfl : g = q := by simpa [Value.ownBlock] using hq1
                  exact hq.out g hq2 rfl)
              · rw [tkm.out]; exact hL3.out
              · intro q hq1
                obtain rfl : g3 = q := by simpa [Value.ownBlock] using hq1
                rcases hat.out with h | h
                · exact hq.out _ h
                · omega
              · exact hWV.out.trans (Below.of_grown hg3.out (by simp; omega) (fun q hq1 => (hob.out q hq1).1))
            case measure => simp [intOf]; omega
          · clear L1 L2 L3 L4 E1 E2 E3 c0 c1 c2 c3 c4 hco hpk hsh hfi T1 T2 T0
            go_upto_region 15 with fail
            refine wp_world (fun V => ∃ X, X = wr.heap.size ∧ Gr wr V ∧ At V X #[.int .u8 k.op, .int .i64 k.a, .int .i64 k.b, .int .i64 k.c, .int .i64 k.m]) ⟨_, rfl, ((((Gr.refl wr).alloc _).drew).grow l), ((At.new wr _ _).drew.gr ⟨l, rfl⟩)⟩ ?_
            rintro V ⟨X, hX, hGV, AX⟩
            rw [← hX]
            clear hX
            have hvs := hGV.below.size
            have qX := AX.2.1
            have zX := AX.1
            have hob := own_block hL.out
            have hBV := hGV.below
            have hLV : LOwn (V.alloc (.cells k.vals.toArray 40)) w.heap.size u6 L := own_below hL.out (hBV.trans (((Gr.refl V).alloc _).below.mono hvs))
            have hOV : OOwn (V.alloc (.cells k.vals.toArray 40)) w.heap.size (.slice (some ⟨g, 0, none⟩) 52 cg) (opsL 256) := own_below hO.out (hBV.trans (((Gr.refl V).alloc _).below.mono hvs))
            have hWV : Below w.heap.size w (V.alloc (.cells k.vals.toArray 40)) := hW.out.trans ((hBV.trans (((Gr.refl V).alloc _).below.mono hvs)).mono hws)
            replace hob := Hid.mk hob
            replace hLV := Hid.mk hLV
            replace hOV := Hid.mk hOV
            replace hWV := Hid.mk hWV
            clear hGV hBV
            go_wp2_with (at_builtin; refine wpList_append_ins rfl (.tmp 51) (.tmp 53) rfl w.heap.size u6 L k rfl hLV.out V.heap.size rfl (by exact At.new V _ _) (by have := hLl.out; unfold maxI; omega) (by simp; omega) ?_)
            intro g3 c3 w3 hL3 hg3 hat
            replace hL3 := Hid.mk hL3
            replace hg3 := Hid.mk hg3
            replace hat := Hid.mk hat
            go_wp2_with fail
            go_roundw
            case rel =>
              refine ⟨j + 1, by simp, by omega, ⟨?_, ?_, ?_, ?_⟩⟩
              · exact own_grown hOV.out hg3.out (fun q hq1 hq2 => by
                  obtain rfl : g = q := by simpa [Value.ownBlock] using hq1
                  exact hq.out g hq2 rfl)
              · rw [tkm.out]; exact hL3.out
              · intro q hq1
                obtain rfl : g3 = q := by simpa [Value.ownBlock] using hq1
                rcases hat.out with h | h
                · exact hq.out _ h
                · omega
              · exact hWV.out.trans (Below.of_grown hg3.out (by simp; omega) (fun q hq1 => (hob.out q hq1).1))
            case measure => simp [intOf]; omega
          · clear L1 L2 L3 L4 E1 E2 E3 c0 c1 c2 c3 c4 hco hpk hsh hfi T1 T2 T0
            go_upto_region 15 with fail
            refine wp_world (fun V => ∃ X, X = wr.heap.size ∧ Gr wr V ∧ At V X #[.int .u8 k.op, .int .i64 k.a, .int .i64 k.b, .int .i64 k.c, .int .i64 k.m]) ⟨_, rfl, ((((Gr.refl wr).alloc _).drew).grow l), ((At.new wr _ _).drew.gr ⟨l, rfl⟩)⟩ ?_
            rintro V ⟨X, hX, hGV, AX⟩
            rw [← hX]
            clear hX
            have hvs := hGV.below.size
            have qX := AX.2.1
            have zX := AX.1
            have hob := own_block hL.out
            have hBV := hGV.below
            have hLV : LOwn (V.alloc (.cells k.vals.toArray 40)) w.heap.size u6 L := own_below hL.out (hBV.trans (((Gr.refl V).alloc _).below.mono hvs))
            have hOV : OOwn (V.alloc (.cells k.vals.toArray 40)) w.heap.size (.slice (some ⟨g, 0, none⟩) 52 cg) (opsL 256) := own_below hO.out (hBV.trans (((Gr.refl V).alloc _).below.mono hvs))
            have hWV : Below w.heap.size w (V.alloc (.cells k.vals.toArray 40)) := hW.out.trans ((hBV.trans (((Gr.refl V).alloc _).below.mono hvs)).mono hws)
            replace hob := Hid.mk hob
            replace hLV := Hid.mk hLV
            replace hOV := Hid.mk hOV
            replace hWV := Hid.mk hWV
            clear hGV hBV
            go_wp2_with (at_builtin; refine wpList_append_ins rfl (.tmp 51) (.tmp 53) rfl w.heap.size u6 L k rfl hLV.out V.heap.size rfl (by exact At.new V _ _) (by have := hLl.out; unfold maxI; omega) (by simp; omega) ?_)
            intro g3 c3 w3 hL3 hg3 hat
            replace hL3 := Hid.mk hL3
            replace hg3 := Hid.mk hg3
            replace hat := Hid.mk hat
            go_wp2_with fail
            go_roundw
            case rel =>
              refine ⟨j + 1, by simp, by omega, ⟨?_, ?_, ?_, ?_⟩⟩
              · exact own_grown hOV.out hg3.out (fun q hq1 hq2 => by
                  obtain rfl : g = q := by simpa [Value.ownBlock] using hq1
                  exact hq.out g hq2 rfl)
              · rw [tkm.out]; exact hL3.out
              · intro q hq1
                obtain rfl : g3 = q := by simpa [Value.ownBlock] using hq1
                rcases hat.out with h | h
                · exact hq.out _ h
                · omega
              · exact hWV.out.trans (Below.of_grown hg3.out (by simp; omega) (fun q hq1 => (hob.out q hq1).1))
            case measure => simp [intOf]; omega
        · have jl : ¬ (j : Int) < R.length := by omega
          have tk : R.take j = R := List.take_of_length_le (by omega)
          rw [tk] at hL
          replace hO := Hid.mk hO
          replace hL := Hid.mk hL
          replace hq := Hid.mk hq
          replace hW := Hid.mk hW
          clear tk
          go_wp2_with fail
          go_ret2
          exact ⟨_, rfl, hL.out, hW.out⟩
end Go.Proofs.YtehjikjpgdnjdabDoor
