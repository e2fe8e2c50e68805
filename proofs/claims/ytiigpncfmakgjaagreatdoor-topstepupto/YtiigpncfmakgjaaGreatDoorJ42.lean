import Derived.Test.YtiigpncfmakgjaaGreatDoorJ41
namespace Go.Proofs.YtiigpncfmakgjaaGreatDoor
set_option maxRecDepth 100000
set_option maxHeartbeats 40000000
namespace C
open Go.RowKit
open T (Sep Ob Kp Mf TgIn boxOb Fm Tc Ed Vl Cp Bx tgOb mRow mRow_idx mRow_tail mRow_at updV flt Vl.row_len regRow regRow_at regRow_len)

def tl (s : Ms) : List Value := [.int .i64 s.over.e, .int .u64 s.over.v, .int .i64 s.over.f, .int .i64 s.at_.gate, .int .i64 s.at_.pc]
theorem tl_one (s : Ms) : (tl s).toArray.all (fun x => x.oneCell') = true := by simp [tl, Value.oneCell']
theorem stands_any (B : Nat) (a : Nat) (P : PImg) (s : Ms) (l : List Ob) (w : World) (h : MIn B w a P s l) :
   Calls Tryz.prog 20 #[.pointer (some ⟨a, 0, none⟩)] w fun x w' => x = .returned (.agg (tl s).toArray) ∧ Bl w w' := by
 have hlt := h.alt
 have gV : Bl w (w.alloc (.cells #[.int .i64 0, .int .u64 0, .int .i64 0, .int .i64 0, .int .i64 0] 47)) := (Bl.refl w).alloc _
 have KS : Hz (∀ X, Bl w X → X.cell? ⟨a, 123, none⟩ = some (.int .i64 s.over.e) ∧ X.cell? ⟨a, 124, none⟩ = some (.int .u64 s.over.v) ∧ X.cell? ⟨a, 125, none⟩ = some (.int .i64 s.over.f) ∧ X.cell? ⟨a, 5, none⟩ = some (.int .i64 s.at_.gate) ∧ X.cell? ⟨a, 6, none⟩ = some (.int .i64 s.at_.pc)) := Hz.mk (fun X q => by
   obtain ⟨k1, k2, k3, k4, k5, _⟩ := (h.gr q).cell
   exact ⟨k3, k4, k5, k1, k2⟩)
 have hR0 : At (w.alloc (.cells #[.int .i64 0, .int .u64 0, .int .i64 0, .int .i64 0, .int .i64 0] 47)) w.heap.size (List.toArray [Value.int .i64 0, .int .u64 0, .int .i64 0, .int .i64 0, .int .i64 0]) := At.new w _ _
 replace h := Hz.mk h
 go_enter Tryz.func20, Tryz.ntmps20
 go_upto_region 1 with fail
 generalize w.alloc (.cells #[.int .i64 0, .int .u64 0, .int .i64 0, .int .i64 0, .int .i64 0] 47) = V at *
 have gD : Bl w V.drew := gV.drew
 have hR1 : At V.drew w.heap.size (List.toArray [Value.int .i64 0, .int .u64 0, .int .i64 0, .int .i64 0, .int .i64 0]) := hR0.drew
 have hth := Hz.mk (At.there hR1 0 5 (by decide))
 have hA8 := Hz.mk (At.setAll hR1 (tl s) rfl)
 have g9 := gD.sets w.heap.size (Nat.le_refl _) (tl s) 0
 have gD2 := g9
 replace hR1 := Hz.mk hR1
 replace hR0 := Hz.mk hR0
 refine wp_region_held_drew (S := (fun X => X.cell? ⟨a, 123, none⟩ = some (.int .i64 s.over.e) ∧ X.cell? ⟨a, 124, none⟩ = some (.int .u64 s.over.v) ∧ X.cell? ⟨a, 125, none⟩ = some (.int .i64 s.over.f) ∧ X.cell? ⟨a, 5, none⟩ = some (.int .i64 s.at_.gate) ∧ X.cell? ⟨a, 6, none⟩ = some (.int .i64 s.at_.pc))) (by kernel_rfl) (KS.out _ gD) (fun hHeld => ?_)
 refine xso 0 ?_ rfl ?_ (xso 1 ?_ rfl ?_ (xso 2 ?_ rfl ?_ (xso 3 ?_ rfl ?_ (xso 4 ?_ rfl ?_ (xso 5 ?_ rfl ?_ (xso 6 ?_ rfl ?_ (xso 7 ?_ rfl ?_ (xso 8 ?_ rfl ?_ (xso 9 ?_ rfl ?_ (xso 10 ?_ rfl ?_ (xso 11 ?_ rfl ?_ (xso 12 ?_ rfl ?_ (xso 13 ?_ rfl ?_ (xso 14 ?_ rfl ?_ (xso 15 ?_ rfl ?_ (xso 16 ?_ rfl ?_ (xso 17 ?_ rfl ?_ (xso 18 ?_ rfl ?_ (xso 19 ?_ rfl ?_ (xso 20 ?_ rfl ?_ (xso 21 ?_ rfl ?_ (xso 22 ?_ rfl ?_ (xso 23 ?_ rfl ?_ (xso 24 ?_ rfl ?_ (xso 25 ?_ rfl ?_ ?_)))))))))))))))))))))))))
 iterate 26 (rotate_left; focus ((try simp only [xap]); intro w hSw; (try dsimp only at hSw); go_simp; first | done | with_reducible rfl))
 try simp only [xap]
 refine xrd 26 rfl (fun K hK => ?_)
 rw [if_pos (by rfl)]
 refine wp_store_mid _ _ _ rfl _ _ (List.toArray (tl s)) rfl rfl (show World.there _ _ _ _ from hth.out) (by kernel_rfl) (tl_one s) ?_
 clear hHeld
 refine hK.out _ _ (KS.out _ gD2) (fun hHeld => ?_)
 clear hK K
 try simp only [Act.put]
 refine xdn ?_ _
 clear hHeld
 generalize World.setCells _ _ _ _ = Y9 at *
 have hrun := run_loadVar_mid (P := Tryz.prog) Y9 w.heap.size 0 47 (tl s) _ hA8.out.range Tryz.underlying47 rfl (by kernel_rfl)
 replace g9 := Hz.mk g9
 go_wp2_with fail
 refine bodyPost_ret (v := .agg (tl s).toArray) ?_ rfl ⟨rfl, g9.out⟩
 exact results_cellE Tryz.results20 _ _ rfl hrun
theorem steps_all (B : Nat) (W0 : World) (a : Nat) (P : PImg) (s : Ms) (l : List Ob) (n k : Nat) (most : Int) (hmk : most.toNat = k) (hP : POk P) (h : MIn B W0 a P s l) (ok : Okm P n s) (hn : n + k ≤ 1000000) :
   Calls Tryz.prog 19 #[.pointer (some ⟨a, 0, none⟩), .int .i64 most] W0 fun x w' => x = .returned (.tuple #[]) ∧ MIn B w' a P (stepsM P k s) l ∧ Below B W0 w' := by
 by_cases h0 : s.over.e = 0
 · exact steps_any B W0 a P s l n k most hmk hP h ok hn h0
 · rw [stepsM_end h0 k]
   exact steps_over B W0 a P s l most h h0
theorem step_any (B : Nat) (W0 : World) (a : Nat) (P : PImg) (s : Ms) (l : List Ob) (n : Nat) (hP : POk P) (h : MIn B W0 a P s l) (ok : Okm P n s) (hn : n + 1 ≤ 1000000) :
   Calls Tryz.prog 8 #[.pointer (some ⟨a, 0, none⟩)] W0 fun x w' => x = .returned (.agg (tl (stepsM P 1 s)).toArray) ∧ MIn B w' a P (stepsM P 1 s) l ∧ Below B W0 w' := by
 have hS := Hz.mk (fun X l' (q : MIn B X a P s l') => steps_all B X a P s l' n 1 1 rfl hP q ok hn)
 generalize stepsM P 1 s = s1 at *
 have hSt := Hz.mk (fun X l' (q : MIn B X a P s1 l') => stands_any B a P s1 l' X q)
 have h2 := Hz.mk (h.new #[.int .i64 0, .int .u64 0, .int .i64 0, .int .i64 0, .int .i64 0] 47)
 clear h
 go_enter Tryz.func8, Tryz.ntmps8
 go_upto_region 1 with fail
 refine wp_world (fun W => MIn B W a P s (boxOb W0.heap.size #[.int .i64 0, .int .u64 0, .int .i64 0, .int .i64 0, .int .i64 0] :: l) ∧ Below B W0 W) h2.out ?_
 clear h2
 rintro W ⟨h, hB⟩
 generalize W0.heap.size = kr at *
 replace h := Hz.mk h
 replace hB := Hz.mk hB
 go_wp2_with fail
 refine (hS.out _ _ h.out).mono ?_
 rintro r X1 ⟨rfl, h1, hB1⟩
 replace hB := Hz.mk (hB.out.trans hB1)
 replace h := Hz.mk h1
 clear h1 hB1 hS
 go_upto_region 4 with fail
 refine wp_region_lit ?_
 refine wpList_plain rfl (fun K hK => ?_)
 go_simp
 with_reducible refine hK _ _ ?_
 clear hK K
 try simp only [xap]
 refine wpList_plain rfl (fun K hK => ?_)
 go_simp
 refine (hSt.out _ _ h.out).mono ?_
 rintro r X2 ⟨rfl, e1⟩
 replace hB := Hz.mk (hB.out.trans (h.out.bl e1).2)
 replace h := Hz.mk (h.out.bl e1).1
 clear e1
 with_reducible refine hK _ _ ?_
 clear hK K
 try simp only [xap]
 have hA := h.out.there (boxOb kr #[.int .i64 0, .int .u64 0, .int .i64 0, .int .i64 0, .int .i64 0]) (.head _)
 replace hA : At X2 kr (List.toArray [Value.int .i64 0, .int .u64 0, .int .i64 0, .int .i64 0, .int .i64 0]) := hA
 have hth := Hz.mk (At.there hA 0 5 (by decide))
 have hA8 := Hz.mk (At.setAll hA (tl s1) rfl)
 have hsd := h.out.side (o := boxOb kr #[.int .i64 0, .int .u64 0, .int .i64 0, .int .i64 0, .int .i64 0]) (o' := boxOb kr (tl s1).toArray) (W' := X2.setCells kr 0 (tl s1)) hA8.out (T.kp_setCells (fun k => k = kr) kr rfl _ _ X2) (fun k q => .inl q)
 replace hA := Hz.mk hA
 replace hsd := Hz.mk hsd
 refine wpList_store_mid rfl _ _ _ rfl _ _ (List.toArray (tl s1)) rfl rfl (show World.there _ _ _ _ from hth.out) (by kernel_rfl) (tl_one _) ?_
 try simp only [Act.put]
 generalize World.setCells _ _ _ _ = Y9 at *
 have hrun := run_loadVar_mid (P := Tryz.prog) Y9 kr 0 47 (tl s1) _ hA8.out.range Tryz.underlying47 rfl (by kernel_rfl)
 go_wp2_with fail
 refine bodyPost_ret (v := .agg (tl s1).toArray) ?_ rfl ⟨rfl, hsd.out.1.drop, hB.out.trans hsd.out.2⟩
 exact results_cellE Tryz.results8 _ _ rfl hrun
def spent (s : Ms) : Ms := if s.over.e = 0 then s.ended ⟨4, 0, 0⟩ else s
def runM (P : PImg) (fuel : Int) (s : Ms) : Ms := spent (stepsM P (min fuel 100000).toNat s)
theorem run_any (B : Nat) (W0 : World) (a : Nat) (P : PImg) (s : Ms) (l : List Ob) (n : Nat) (fuel : Int) (hP : POk P) (h : MIn B W0 a P s l) (ok : Okm P n s) (hn : n + (min fuel 100000).toNat ≤ 1000000) :
   Calls Tryz.prog 15 #[.pointer (some ⟨a, 0, none⟩), .int .i64 fuel] W0 fun x w' => x = .returned (.agg (tl (runM P fuel s)).toArray) ∧ MIn B w' a P (runM P fuel s) l ∧ Below B W0 w' := by
 have hS := Hz.mk (fun X l' (q : MIn B X a P s l') => steps_all B X a P s l' n (min fuel 100000).toNat (min fuel 100000) rfl hP q ok hn)
 unfold runM
 generalize stepsM P (min fuel 100000).toNat s = s1 at *
 generalize hmn : min fuel 100000 = mn at *
 unfold spent
 by_cases h0 : s1.over.e = 0
 · rw [if_pos h0]
   generalize hs2 : s1.ended ⟨4, 0, 0⟩ = s2
   have hSt := Hz.mk (fun X l' (q : MIn B X a P s2 l') => stands_any B a P s2 l' X q)
   replace h0 := Hz.mk h0
   replace hs2 := Hz.mk hs2
   have h2 := Hz.mk (h.new #[.int .i64 0, .int .u64 0, .int .i64 0, .int .i64 0, .int .i64 0] 47)
   clear h
   go_enter Tryz.func15, Tryz.ntmps15
   go_upto_region 1 with fail
   refine wp_world (fun W => MIn B W a P s (boxOb W0.heap.size #[.int .i64 0, .int .u64 0, .int .i64 0, .int .i64 0, .int .i64 0] :: l) ∧ Below B W0 W) h2.out ?_
   clear h2
   rintro W ⟨h, hB⟩
   generalize W0.heap.size = kr at *
   replace h := Hz.mk h
   replace hB := Hz.mk hB
   go_wp2_with fail
   refine (hS.out _ _ h.out).mono ?_
   rintro r X1 ⟨rfl, h1, hB1⟩
   replace hB := Hz.mk (hB.out.trans hB1)
   obtain ⟨_, _, c3, c4, c5, fr⟩ := h1.cell
   rw [h0.out] at c3
   have hlt := h1.alt
   have hov := h1.setOver ⟨4, 0, 0⟩
   rw [hs2.out] at hov
   replace hov := Hz.mk hov
   clear h1 hB1 hS h
   go_upto_region 6 with fail
   replace hB := Hz.mk (hB.out.trans hov.out.2)
   have h := Hz.mk hov.out.1
   clear hov c3 c4 c5 fr hlt
   generalize World.setCell (World.setCell (World.setCell _ _ _) _ _) _ _ = X3 at *
   refine wp_region_lit ?_
   refine wpList_plain rfl (fun K hK => ?_)
   go_simp
   with_reducible refine hK _ _ ?_
   clear hK K
   try simp only [xap]
   refine wpList_plain rfl (fun K hK => ?_)
   go_simp
   refine (hSt.out _ _ h.out).mono ?_
   rintro r X2 ⟨rfl, e1⟩
   replace hB := Hz.mk (hB.out.trans (h.out.bl e1).2)
   replace h := Hz.mk (h.out.bl e1).1
   clear e1
   with_reducible refine hK _ _ ?_
   clear hK K
   try simp only [xap]
   have hA := h.out.there (boxOb kr #[.int .i64 0, .int .u64 0, .int .i64 0, .int .i64 0, .int .i64 0]) (.head _)
   replace hA : At X2 kr (List.toArray [Value.int .i64 0, .int .u64 0, .int .i64 0, .int .i64 0, .int .i64 0]) := hA
   have hth := Hz.mk (At.there hA 0 5 (by decide))
   have hA8 := Hz.mk (At.setAll hA (tl s2) rfl)
   have hsd := h.out.side (o := boxOb kr #[.int .i64 0, .int .u64 0, .int .i64 0, .int .i64 0, .int .i64 0]) (o' := boxOb kr (tl s2).toArray) (W' := X2.setCells kr 0 (tl s2)) hA8.out (T.kp_setCells (fun k => k = kr) kr rfl _ _ X2) (fun k q => .inl q)
   replace hA := Hz.mk hA
   replace hsd := Hz.mk hsd
   refine wpList_store_mid rfl _ _ _ rfl _ _ (List.toArray (tl s2)) rfl rfl (show World.there _ _ _ _ from hth.out) (by kernel_rfl) (tl_one _) ?_
   try simp only [Act.put]
   generalize World.setCells _ _ _ _ = Y9 at *
   have hrun := run_loadVar_mid (P := Tryz.prog) Y9 kr 0 47 (tl s2) _ hA8.out.range Tryz.underlying47 rfl (by kernel_rfl)
   go_wp2_with fail
   refine bodyPost_ret (v := .agg (tl s2).toArray) ?_ rfl ⟨rfl, hsd.out.1.drop, hB.out.trans hsd.out.2⟩
   exact results_cellE Tryz.results15 _ _ rfl hrun
 · rw [if_neg h0]
   have hSt := Hz.mk (fun X l' (q : MIn B X a P s1 l') => stands_any B a P s1 l' X q)
   have h0' : (s1.over.e == 0) = false := by simpa using h0
   have h2 := Hz.mk (h.new #[.int .i64 0, .int .u64 0, .int .i64 0, .int .i64 0, .int .i64 0] 47)
   clear h
   go_enter Tryz.func15, Tryz.ntmps15
   go_upto_region 1 with fail
   refine wp_world (fun W => MIn B W a P s (boxOb W0.heap.size #[.int .i64 0, .int .u64 0, .int .i64 0, .int .i64 0, .int .i64 0] :: l) ∧ Below B W0 W) h2.out ?_
   clear h2
   rintro W ⟨h, hB⟩
   generalize W0.heap.size = kr at *
   replace h := Hz.mk h
   replace hB := Hz.mk hB
   go_wp2_with fail
   refine (hS.out _ _ h.out).mono ?_
   rintro r X1 ⟨rfl, h1, hB1⟩
   replace hB := Hz.mk (hB.out.trans hB1)
   have c3 := h1.cell.2.2.1
   have hlt := h1.alt
   replace h := Hz.mk h1
   clear h1 hB1 hS
   generalize s1.over.e = e9 at h0' c3 h0
   go_upto_region 6 with fail
   clear c3 h0' h0 hlt
   refine wp_region_lit ?_
   refine wpList_plain rfl (fun K hK => ?_)
   go_simp
   with_reducible refine hK _ _ ?_
   clear hK K
   try simp only [xap]
   refine wpList_plain rfl (fun K hK => ?_)
   go_simp
   refine (hSt.out _ _ h.out).mono ?_
   rintro r X2 ⟨rfl, e1⟩
   replace hB := Hz.mk (hB.out.trans (h.out.bl e1).2)
   replace h := Hz.mk (h.out.bl e1).1
   clear e1
   with_reducible refine hK _ _ ?_
   clear hK K
   try simp only [xap]
   have hA := h.out.there (boxOb kr #[.int .i64 0, .int .u64 0, .int .i64 0, .int .i64 0, .int .i64 0]) (.head _)
   replace hA : At X2 kr (List.toArray [Value.int .i64 0, .int .u64 0, .int .i64 0, .int .i64 0, .int .i64 0]) := hA
   have hth := Hz.mk (At.there hA 0 5 (by decide))
   have hA8 := Hz.mk (At.setAll hA (tl s1) rfl)
   have hsd := h.out.side (o := boxOb kr #[.int .i64 0, .int .u64 0, .int .i64 0, .int .i64 0, .int .i64 0]) (o' := boxOb kr (tl s1).toArray) (W' := X2.setCells kr 0 (tl s1)) hA8.out (T.kp_setCells (fun k => k = kr) kr rfl _ _ X2) (fun k q => .inl q)
   replace hA := Hz.mk hA
   replace hsd := Hz.mk hsd
   refine wpList_store_mid rfl _ _ _ rfl _ _ (List.toArray (tl s1)) rfl rfl (show World.there _ _ _ _ from hth.out) (by kernel_rfl) (tl_one _) ?_
   try simp only [Act.put]
   generalize World.setCells _ _ _ _ = Y9 at *
   have hrun := run_loadVar_mid (P := Tryz.prog) Y9 kr 0 47 (tl s1) _ hA8.out.range Tryz.underlying47 rfl (by kernel_rfl)
   go_wp2_with fail
   refine bodyPost_ret (v := .agg (tl s1).toArray) ?_ rfl ⟨rfl, hsd.out.1.drop, hB.out.trans hsd.out.2⟩
   exact results_cellE Tryz.results15 _ _ rfl hrun
end C
end Go.Proofs.YtiigpncfmakgjaaGreatDoor


namespace Go.Proofs.YtiigpncfmakgjaaGreatDoor
set_option maxRecDepth 100000
set_option maxHeartbeats 40000000
namespace C
open Go.RowKit
open T (Sep Ob Kp Mf TgIn boxOb Fm Tc Ed Vl Cp Bx tgOb mRow mRow_idx mRow_tail mRow_at updV flt Vl.row_len regRow regRow_at regRow_len)

def snR (s : Ms) : List Value := .int .i64 s.at_.gate :: .int .i64 s.at_.pc :: .int .i64 s.st.length :: regRow s.at_.regs 16
theorem snR_len (s : Ms) : (snR s).length = 115 := by simp [snR, regRow_len]
theorem snR_one (s : Ms) : (snR s).toArray.all (fun x => x.oneCell') = true := by
 rw [Array.all_eq_true_iff_forall_mem]
 intro u hu
 have hu' : u ∈ snR s := by simpa using hu
 unfold snR at hu'
 rcases List.mem_cons.1 hu' with rfl | hu'
 · rfl
 rcases List.mem_cons.1 hu' with rfl | hu'
 · rfl
 rcases List.mem_cons.1 hu' with rfl | hu'
 · rfl
 · exact oneCell_reg _ _ u hu'
theorem build_sn (g p n : Int) (r : Nat → Vl) (W : World) : (Instr.build 40 #[(0, .int .i64 g), (1, .int .i64 p), (2, .int .i64 n), (3, .agg (regRow r 16).toArray)]).run Tryz.prog W = .ok (.agg (List.toArray (.int .i64 g :: .int .i64 p :: .int .i64 n :: regRow r 16))) W := by kernel_rfl
theorem yields_sn {ops : Array Oper} {S : World → Prop} {op : Oper} {a : Act} (hw : Region.wanted op (yielded ops a.tmps) = true) (x0 x1 x2 x3 : Operand) (ho : op.op = .build 40 #[(0, x0), (1, x1), (2, x2), (3, x3)])
   (s : Ms) (rr r7 : List Value) (hr : snR s = rr) (h7 : regRow s.at_.regs 16 = r7) (h0 : a.eval x0 = .int .i64 s.at_.gate) (h1 : a.eval x1 = .int .i64 s.at_.pc) (h2 : a.eval x2 = .int .i64 s.st.length) (h3 : a.eval x3 = .agg r7.toArray) :
   YieldsIf Tryz.prog ops S op (.agg rr.toArray) a :=
 .inl ⟨hw, fun w _ => by
   subst hr h7
   unfold execOp
   simp only [ho, List.map_toArray, List.map_cons, List.map_nil, h0, h1, h2, h3, build_sn, Sem.run_bind, Sem.run_pure, Result.andThen_ok]
   rfl⟩
def zS : Ms := ⟨⟨0, 0, fun _ => zV⟩, [], [], [], [], ⟨0, 0, 0⟩, fun _ => 0, fun _ => none⟩
theorem zero_sn : Tryz.zeroCells40.toList = snR zS := by kernel_rfl
theorem MIn.regsAt {B : Nat} {W : World} {a : Nat} {P : PImg} {s : Ms} {l : List Ob} (h : MIn B W a P s l) : W.rangeAt a 7 (regRow s.at_.regs 16) := fun j v q => by
 have hj : j < 112 := by have := (List.getElem?_eq_some_iff.1 q).1; rw [regRow_len] at this; omega
 have e : s.at_.row[j + 2]? = some v := by
   rw [fmRow_idx, if_neg (by omega), if_neg (by omega), if_pos (by omega), Nat.add_sub_cancel, ← regRow_at s.at_.regs 16 j (by omega)]
   exact q
 have := h.handAt (j + 2) v e
 rwa [show 5 + (j + 2) = 7 + j by omega] at this
theorem snap_any (B : Nat) (a : Nat) (P : PImg) (s : Ms) (l : List Ob) (w : World) (h : MIn B w a P s l) :
   Calls Tryz.prog 6 #[.pointer (some ⟨a, 0, none⟩)] w fun x w' => x = .returned (.agg (snR s).toArray) ∧ Bl w w' := by
 have hrl0 := snR_len s
 have hr10 := snR_one s
 generalize hrr : snR s = rr at *
 generalize hr77 : regRow s.at_.regs 16 = r7
 have hr7 : Hz ((Tryz.prog.info? 38).map (·.size) = some r7.length) := Hz.mk (by rw [← hr77, regRow_len]; kernel_rfl)
 have hrl := Hz.mk hrl0
 have hr1 := Hz.mk hr10
 clear hrl0 hr10
 have hlt := h.alt
 have gV : Bl w (w.alloc (.cells Tryz.zeroCells40 40)) := (Bl.refl w).alloc _
 obtain ⟨_, ta, tk, c119⟩ := h.depAt
 have KS : Hz (∀ X, Bl w X → (X.cell? ⟨a, 5, none⟩ = some (.int .i64 s.at_.gate) ∧ X.cell? ⟨a, 6, none⟩ = some (.int .i64 s.at_.pc) ∧ X.cell? ⟨a, 119, none⟩ = some (.slice ta s.st.length tk)) ∧ X.rangeAt a 7 r7) := Hz.mk (fun X q => by
   obtain ⟨k1, k2, _⟩ := (h.gr q).cell
   exact ⟨⟨k1, k2, (q.cell (p := ⟨a, 119, none⟩) hlt).trans c119⟩, by rw [← hr77]; exact (h.gr q).regsAt⟩)
 replace hrr := Hz.mk hrr
 replace hr77 := Hz.mk hr77
 have hR0 : At (w.alloc (.cells Tryz.zeroCells40 40)) w.heap.size (snR zS).toArray := by
   rw [← zero_sn]
   exact At.new w _ _
 replace h := Hz.mk h
 clear c119
 go_enter Tryz.func6, Tryz.ntmps6
 go_upto_region 3 with fail
 generalize w.alloc (.cells Tryz.zeroCells40 40) = V at *
 have gD : Bl w V.drew := gV.drew
 have hR1 : At V.drew w.heap.size (snR zS).toArray := hR0.drew
 have hth : Hz (V.drew.there w.heap.size 0 rr.toArray.size) := Hz.mk (by rw [show rr.toArray.size = 115 from hrl.out]; exact At.there hR1 0 115 (by rw [snR_len]; decide))
 have hA8 := Hz.mk (At.setAll hR1 rr (by rw [hrl.out, snR_len])).range
 have g9 := gD.sets w.heap.size (Nat.le_refl _) rr 0
 have gD2 := g9
 replace hR1 := Hz.mk hR1
 replace hR0 := Hz.mk hR0
 refine wp_region_held_drew (S := (fun X => (X.cell? ⟨a, 5, none⟩ = some (.int .i64 s.at_.gate) ∧ X.cell? ⟨a, 6, none⟩ = some (.int .i64 s.at_.pc) ∧ X.cell? ⟨a, 119, none⟩ = some (.slice ta s.st.length tk)) ∧ X.rangeAt a 7 r7)) (by kernel_rfl) (KS.out _ gD) (fun hHeld => ?_)
 refine xso 0 ?_ rfl ?_ (xso 1 ?_ rfl ?_ (xso 2 ?_ rfl ?_ (xso 3 ?_ rfl ?_ (xso 4 ?_ rfl ?_ (xso 5 ?_ rfl ?_ (xso 6 ?_ rfl ?_ (xso 7 ?_ rfl ?_ (xso 8 ?_ rfl ?_ (xso 9 ?_ rfl ?_ (xso 10 ?_ rfl ?_ (xso 11 ?_ rfl ?_ (xso 12 ?_ rfl ?_ (xso 13 ?_ rfl ?_ (xso 14 ?_ rfl ?_ (xso 15 ?_ rfl ?_ (xso 16 ?_ rfl ?_ (xso 17 ?_ rfl ?_ (xso 18 ?_ rfl ?_ ?_))))))))))))))))))
 iterate 19 (rotate_left; focus ((try simp only [xap]); intro w hSw; (try dsimp only at hSw); go_simp; first | done | with_reducible rfl))
 try simp only [xap]
 refine xtk 19 rfl (yieldsIf_load_mid (by rfl) _ _ rfl _ _ rfl _ _ (fun _ h => h.2) Tryz.underlying38 rfl hr7.out) ?_
 try simp only [xap]
 refine xtk 20 rfl (yields_sn (by rfl) _ _ _ _ rfl s rr r7 hrr.out hr77.out (by rfl) (by rfl) (by rfl) (by rfl)) ?_
 try simp only [xap]
 refine xrd 21 rfl (fun K hK => ?_)
 rw [if_pos (by rfl)]
 refine wp_store_mid _ _ _ rfl _ _ (List.toArray rr) rfl rfl (show World.there _ _ _ _ from hth.out) (by rw [List.size_toArray, hrl.out]; kernel_rfl) hr1.out ?_
 clear hHeld
 refine hK.out _ _ (KS.out _ gD2) (fun hHeld => ?_)
 clear hK K
 try simp only [Act.put]
 refine xdn ?_ _
 clear hHeld
 generalize World.setCells _ _ _ _ = Y9 at *
 have hrun := run_loadVar_mid (P := Tryz.prog) Y9 w.heap.size 0 40 rr _ hA8.out Tryz.underlying40 rfl (by rw [hrl.out]; kernel_rfl)
 replace g9 := Hz.mk g9
 go_wp2_with fail
 refine bodyPost_ret (v := .agg rr.toArray) ?_ rfl ⟨rfl, g9.out⟩
 exact results_cellE Tryz.results6 _ _ rfl hrun
theorem tou_any (B : Nat) (a : Nat) (P : PImg) (s : Ms) (l : List Ob) (w : World) (h : MIn B w a P s l) (hl : s.tou.length ≤ 1000000) :
   Calls Tryz.prog 7 #[.pointer (some ⟨a, 0, none⟩)] w fun x w' => ∃ v, x = .returned v ∧ w'.ownsRow w.heap.size 61 3 v s.tou.length (s.tou.flatMap Tc.row) ∧ Bl w w' := by
 obtain ⟨⟨q, h1, _⟩, le⟩ := h
 have hb : Bx w a (rowOf P s q) := h1.ins (bx_ a (rowOf P s q)) (by simp [obs])
 have hO : w.ownsRow B 61 3 q.tv s.tou.length (s.tou.flatMap Tc.row) := h1.ins (tcOb B q.tv s.tou) (by simp [obs])
 have hc := hb.at_ 122 _ (mRow_at 3)
 replace hc : w.cell? ⟨a, 122, none⟩ = some q.tv := hc
 have hlt := hb.lt
 have hol := hO.lt
 have hlen := hO.1
 rcases hO.2 with ⟨e1, e2⟩ | ⟨g, cap, cur, e1, hbb, hg, hc1, hc2, hc3, hc4⟩
 · rw [e1] at hc
   have e3 : s.tou.flatMap Tc.row = [] := List.length_eq_zero_iff.1 (by rw [hlen, e2])
   rw [e2, e3]
   have hC := Hz.mk clnil_tcs
   clear h1 hb hO hol hlen
   go_enter Tryz.func7, Tryz.ntmps7
   go_wp2_with fail
   refine (hC.out _).mono ?_
   rintro r X1 ⟨rfl, rfl⟩
   go_wp2_with fail
   go_ret
   exact ⟨_, rfl, World.ownsRow_nil _ _ _ _, Bl.refl _⟩
 · have hgl : g < w.heap.size := (hol g (by rw [e1]; rfl)).2
   rw [e1] at hc
   have hC := Hz.mk (clone_tcs g 0 s.tou.length cap (s.tou.flatMap Tc.row) w hgl hlen (fun j u e => by
     have hj := (List.getElem?_eq_some_iff.1 e).1
     rw [hlen] at hj
     have e9 : w.cell? ⟨g, 0 + j, none⟩ = cur[j]? := by simp [World.cell?, hg]
     rw [e9, ← e, ← hc4, List.getElem?_take_of_lt (by omega)]
     simp) (fun u hu => by
       obtain ⟨x, _, hx⟩ := List.mem_flatMap.1 hu
       simp [Tc.row] at hx
       rcases hx with rfl | rfl | rfl <;> rfl) (by omega))
   generalize s.tou.flatMap Tc.row = xs at *
   generalize s.tou.length = nn at *
   clear h1 hb hO hol hlen hc4
   go_enter Tryz.func7, Tryz.ntmps7
   go_wp2_with fail
   refine hC.out.mono ?_
   rintro r X1 ⟨v, rfl, k1, k2⟩
   replace k1 := Hz.mk k1
   replace k2 := Hz.mk k2
   go_wp2_with fail
   go_ret
   exact ⟨v, rfl, k1.out, k2.out⟩
end C
end Go.Proofs.YtiigpncfmakgjaaGreatDoor


namespace Go.Proofs.YtiigpncfmakgjaaGreatDoor
namespace C
open Go.RowKit
open T (Sep Ob Kp Mf TgIn boxOb Fm Tc Ed Vl Cp Bx tgOb mRow updV flt Sl Rg rgB rgT slT dataT offT scT updT)

def SlOk (x : Sl) : Prop := x.cap = true → COk ⟨x.b, x.e, x.c, x.p, x.s⟩
theorem scT_in' {t : Nat → Option Cp} (ht : ∀ g c, t g = some c → COk c) (a : Nat) {v : Vl} (hv : v.g = true → COk v.c) : ∀ g c, scT t a v g = some c → COk c := fun g c h => by
 unfold scT at h; split at h
 · split at h
   · rename_i hg
     unfold updT at h; split at h
     · injection h with h; subst h; exact hv hg
     · exact off_in ht _ _ g c h
   · exact off_in ht _ _ g c h
 · exact ht g c h
theorem slT_in {t : Nat → Option Cp} (ht : ∀ g c, t g = some c → COk c) (base : Nat) {L : List Sl} (hL : ∀ x ∈ L, SlOk x) : ∀ n g c, slT t base L n g = some c → COk c
 | 0 => ht
 | n + 1 => by
   unfold slT
   refine scT_in' (slT_in ht base hL n) _ (fun hg => ?_)
   cases hx : L[n]? with
   | none => rw [hx] at hg; cases hg
   | some x =>
     rw [hx] at hg
     have h1 := hL x (List.mem_of_getElem? hx)
     simp only [Option.map_some, Option.getD_some] at hg ⊢
     unfold T.Sl.v at hg ⊢
     split at hg
     · rename_i hc
       rw [if_pos hc]
       exact h1 hc
     · cases hg
theorem rgT_in {L : List Rg} (hL : ∀ r ∈ L, ∀ x ∈ r.slots, SlOk x) : ∀ n g c, rgT L n g = some c → COk c
 | 0 => fun g c h => by cases h
 | n + 1 => by
   unfold rgT
   cases hx : L[n]? with
   | none => exact rgT_in hL n
   | some r => exact slT_in (off_in (rgT_in hL n) _ _) _ (hL r (List.mem_of_getElem? hx)) _
theorem slots_mem : ∀ (L : List PSlot), slotsR L = true → ∀ k ∈ L, k.right = true
 | [], _ => fun k hk => by cases hk
 | k :: l, h => by
   unfold slotsR at h
   rw [Bool.and_eq_true] at h
   intro x hx
   rcases List.mem_cons.1 hx with rfl | hx
   · exact h.1
   · exact slots_mem l h.2 x hx
theorem regs_mem : ∀ (L : List PReg) (f : Int), regsR L f = 0 → ∀ r ∈ L, slotsR r.slots = true
 | [], _, _ => fun r hr => by cases hr
 | k :: l, f, h => by
   unfold regsR at h
   split at h
   · split at h
     · rename_i q
       intro r hr
       rcases List.mem_cons.1 hr with rfl | hr
       · exact q
       · exact regs_mem l _ h r hr
     · omega
   · omega
theorem sl_ok {k : PSlot} (h : k.right = true) (hr : k.Rng) : SlOk (slOf k) := fun hc => by
 have hc' : k.t.cap = true := hc
 unfold PSlot.right at h
 rw [Bool.and_eq_true, Bool.and_eq_true] at h
 have h1 := h.1.2
 unfold PTyp.right at h1
 rw [if_pos hc', Bool.and_eq_true] at h1
 have h2 := dataB_s h1.1
 obtain ⟨⟨r1, r2, _, _, r5, _⟩, r7⟩ := hr
 refine ⟨r1, r2, ?_, r5, h2⟩
 show W64 ((k.c.toNat : Nat) : Int)
 rw [Int.toNat_of_nonneg r7.1]
 exact r7
theorem regs_right {m : PImg} (h : m.right = 0) : regsR m.regs 0 = 0 := by
 unfold PImg.right at h
 split at h
 · split at h
   · assumption
   · rename_i q; exact absurd h q
 · omega
theorem ints_vok {A : List Nat} (hA : ∀ x ∈ A, x < 18446744073709551616) (j : Nat) : VOk (intsF A j) := by
 refine vok_nat ?_
 cases hx : A[j - 1]? with
 | none => decide
 | some x => exact hA x (List.mem_of_getElem? hx)
theorem start_ok {m : PImg} (h : m.right = 0) (hr : m.Rng) {g : Nat} (hg : g < m.gates.length) {A I : List Nat} (hA : ∀ x ∈ A, x < 18446744073709551616) (hI : ∀ x ∈ I, x < 18446744073709551616) (hl : I.length ≤ 2000000) : Okm (bare m) 0 (start m g A I) := by
 have hP : POk (bare m) := pok_of m h hr
 refine ⟨ent_ok hP hg (ints_vok hA) _, fun f hf => (by cases hf), by have := hP.dp; show ((0 : Nat) : Int) ≤ (bare m).depth; omega, ⟨?_, fun x hx => ?_⟩, Nat.le_refl _, Nat.le_refl _, ?_⟩
 · show (I.map fun x : Nat => (x : Int)).length ≤ _
   rw [List.length_map]; omega
 · obtain ⟨y, hy, rfl⟩ := List.mem_map.1 hx
   have := hI y hy
   exact ⟨by omega, by omega⟩
 · refine rgT_in (fun r hr1 x hx => ?_) _
   obtain ⟨p, hp, rfl⟩ := List.mem_map.1 hr1
   obtain ⟨k, hk, rfl⟩ := List.mem_map.1 hx
   exact sl_ok (slots_mem _ (regs_mem _ _ (regs_right h) p hp) k hk) ((hr.regs.2 p hp).2.2.2.2 k hk)
end C
end Go.Proofs.YtiigpncfmakgjaaGreatDoor


namespace Go.Proofs.YtiigpncfmakgjaaGreatDoor
namespace C
open Go.RowKit
open T (Sep Ob Kp Mf TgIn boxOb Fm Tc Ed Vl Cp Bx tgOb mRow updV flt)

theorem own_two {w : World} {lo : Nat} {v : Value} {L : List Tc} (h : w.ownsRow lo 61 3 v L.length (L.flatMap Tc.row)) : ∃ va c, v = .slice va L.length c ∧ T.EIn 3 Tc.row w va L := by
 have hlt := h.lt
 rcases h.2 with ⟨rfl, h9⟩ | ⟨g, cap, cur, rfl, hb, hg, hc1, hc2, hc3, hc4⟩
 · exact ⟨none, 0, by rw [h9], fun i hi => by omega⟩
 · refine ⟨_, cap, rfl, fun i hi => ⟨g, 0, rfl, (hlt g rfl).2, fun j u q => ?_⟩⟩
   have hj : j < 3 := by have := (List.getElem?_eq_some_iff.1 q).1; simpa [Tc.row] using this
   have hf := flat_at' (f := Tc.row) (k := 3) (fun _ => rfl) L i hi j hj
   rw [q, ← hc4, List.getElem?_take_of_lt (by
     have : (i + 1) * 3 ≤ L.length * 3 := Nat.mul_le_mul_right 3 hi
     omega)] at hf
   have : w.cell? ⟨g, 0 + i * 3 + j, none⟩ = cur[i * 3 + j]? := by simp [World.cell?, hg]
   rw [this, ← hf]
   simp
end C
end Go.Proofs.YtiigpncfmakgjaaGreatDoor
