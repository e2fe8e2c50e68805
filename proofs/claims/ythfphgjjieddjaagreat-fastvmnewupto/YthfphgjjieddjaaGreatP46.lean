import Derived.Test.YthfphgjjieddjaaGreatP45
import Derived.Test.YthfphgjjieddjaaGreatP29
import Derived.Test.YthfphgjjieddjaaGreatZDNwM
import Derived.Test.YthfphgjjieddjaaGreatP30
import Derived.Test.YthfphgjjieddjaaGreatP42
import Derived.Test.YthfphgjjieddjaaGreatP37
namespace Go.Proofs.YthfphgjjieddjaaGreat
set_option maxRecDepth 100000
set_option maxHeartbeats 40000000
namespace Z
open Go.RowKit
open T (Sep Ob Kp Mf FlIn boxOb)

theorem DPg.code {B : Nat} {W : World} {c : Dc} {P : Pr} (h : DPg B W c P) (k : Nat) (hk : k < P.code.length) : ∃ cb co ra rc, c.ca = some ⟨cb, co, none⟩ ∧ cb < B ∧ ∀ X, Below B W X → X.cell? ⟨cb, co + k, none⟩ = some (.slice ra P.code[k].length rc) ∧ T.EIn 5 Fi.vals X ra P.code[k] := by
 obtain ⟨V, e, h1, h2⟩ := h
 subst e
 obtain ⟨b, off, ra, rc, e1, e2, e3, e4⟩ := h2.code k hk
 exact ⟨b, off, ra, rc, e1, e2, fun X hx => ⟨(T.cell_of_block ((h1.trans hx).block b e2) _).trans e3, e4.below (h1.trans hx)⟩⟩
theorem DIo.codes {B : Nat} {W : World} {b : Nat} {c : Dc} {P : Pr} {s : Fm} {og op : Nat} {l : List Ob} (h : DIo B W b c P s og op l) (cb co : Nat) (hca : c.ca = some ⟨cb, co, none⟩) : W.cell? ⟨b, 0, none⟩ = some (.slice (some ⟨cb, co, none⟩) P.code.length c.cc) ∧ W.cell? ⟨b, 4, none⟩ = some (.int .i64 s.g) ∧ W.cell? ⟨b, 5, none⟩ = some (.int .i64 s.p) := by
 obtain ⟨q, hq⟩ := h.box
 exact ⟨(hq.at_ 0 (by omega)).trans (congrArg some (by show Value.slice c.ca _ _ = _; rw [hca])), hq.at_ 4 (by omega), hq.at_ 5 (by omega)⟩
theorem DIo.row5 {B : Nat} {W : World} {b : Nat} {c : Dc} {P : Pr} {s : Fm} {og op : Nat} {l : List Ob} (h : DIo B W b c P s og op l) : W.rangeAt b 27 [Value.int .i64 s.e, .int .u64 s.v, .int .i64 s.f, .int .i64 og, .int .i64 op] := by
 obtain ⟨q, hq⟩ := h.box
 intro j v e
 match j, e with
 | 0, e => cases e; exact hq.at_ 27 (by omega)
 | 1, e => cases e; exact hq.at_ 28 (by omega)
 | 2, e => cases e; exact hq.at_ 29 (by omega)
 | 3, e => cases e; exact hq.at_ 30 (by omega)
 | 4, e => cases e; exact hq.at_ 31 (by omega)
 | j + 5, e => cases e
theorem dstepE (B : Nat) (W0 : World) (b : Nat) (c : Dc) (P : Pr) (s : Fm) (l : List Ob) (h : DIo B W0 b c P s s.g s.p l) (hE : s.e ≠ 0) :
   Calls Tryz.prog 40 #[.pointer (some ⟨b, 0, none⟩)] W0 fun x w' => x = .returned (s).outc ∧ DIo B w' b c P (s) (s).g (s).p l ∧ Below B W0 w' := by
 have he1 : ¬ s.e = 0 := hE
 have h2 := Hz.mk (h.new (List.toArray [Value.int .i64 0, .int .u64 0, .int .i64 0, .int .i64 0, .int .i64 0]) 51)
 clear h
 go_enter Tryz.func40, Tryz.ntmps40
 go_upto_region 1 with fail
 refine wp_world (fun W => DIo B W b c P s s.g s.p (boxOb W0.heap.size (List.toArray [Value.int .i64 0, .int .u64 0, .int .i64 0, .int .i64 0, .int .i64 0]) :: l) ∧ Below B W0 W) h2.out ?_
 rintro W ⟨h, hB⟩
 replace h := Hz.mk h
 replace hB := Hz.mk hB
 clear h2
 generalize W0.heap.size = kr at *
 have c27 : W.cell? ⟨b, 27, none⟩ = some (.int .i64 s.e) := h.out.row5 0 _ rfl
 have hro := Hz.mk h.out.row5
 have hA9 : At W kr (List.toArray [Value.int .i64 0, .int .u64 0, .int .i64 0, .int .i64 0, .int .i64 0]) := h.out.there (boxOb kr (List.toArray [Value.int .i64 0, .int .u64 0, .int .i64 0, .int .i64 0, .int .i64 0])) (.head _)
 have hth := Hz.mk (At.there hA9 0 5 (by decide))
 have hA10 := Hz.mk (At.setAll (cs := [Value.int .i64 0, .int .u64 0, .int .i64 0, .int .i64 0, .int .i64 0]) hA9 [Value.int .i64 s.e, .int .u64 s.v, .int .i64 s.f, .int .i64 s.g, .int .i64 s.p] rfl)
 have h10 := h.out.side (o' := boxOb kr (List.toArray [Value.int .i64 s.e, .int .u64 s.v, .int .i64 s.f, .int .i64 s.g, .int .i64 s.p])) hA10.out (kp_setsZ W kr [Value.int .i64 s.e, .int .u64 s.v, .int .i64 s.f, .int .i64 s.g, .int .i64 s.p] 0) (fun _ r => .inl r)
 replace hB := Hz.mk (hB.out.trans h10.2)
 replace h10 := Hz.mk h10.1
 clear hA9 h
 go_upto_region 2 with fail
 refine wp_region_lit ?_
 iterate 3 (refine wpList_plain rfl (fun K hK => ?_); go_simp; with_reducible refine hK _ _ ?_; clear hK K; (try simp only [xap]))
 refine wpList_plain rfl (fun K hK => ?_)
 refine wp_load_mid _ _ rfl _ 27 rfl [Value.int .i64 s.e, .int .u64 s.v, .int .i64 s.f, .int .i64 s.g, .int .i64 s.p] _ hro.out Tryz.underlying51 rfl (by kernel_rfl) (hK _ _ ?_)
 clear hK K
 try simp only [xap]
 refine wpList_plain rfl (fun K hK => ?_)
 refine wp_store_mid _ _ _ rfl _ _ (List.toArray [Value.int .i64 s.e, .int .u64 s.v, .int .i64 s.f, .int .i64 s.g, .int .i64 s.p]) rfl rfl hth.out (by kernel_rfl) (by simp [Value.oneCell']) (hK _ _ ?_)
 clear hK K
 try simp only [Act.put]
 generalize World.setCells _ _ _ _ = V11 at *
 have hrun := Hz.mk (run_loadVar_mid (P := Tryz.prog) V11 kr 0 51 [Value.int .i64 s.e, .int .u64 s.v, .int .i64 s.f, .int .i64 s.g, .int .i64 s.p] _ (fun j v q => by rw [Nat.zero_add]; exact (hA10.out.2.1 j).trans (by simpa using q)) Tryz.underlying51 rfl (by kernel_rfl))
 go_wp2_with fail
 refine bodyPost_ret (v := s.outc) ?_ rfl ⟨rfl, h10.out.drop, hB.out⟩
 exact results_rowZ Tryz.results40 _ _ rfl hrun.out
theorem dstepO (B : Nat) (W0 : World) (b : Nat) (c : Dc) (P : Pr) (s : Fm) (l : List Ob) (h : DIo B W0 b c P s s.g s.p l) (he : s.e = 0) (hg : s.g < P.code.length) (hpg : DPg B W0 c P) (hp : P.code[s.g].length ≤ s.p) :
   Calls Tryz.prog 40 #[.pointer (some ⟨b, 0, none⟩)] W0 fun x w' => x = .returned ({ s with e := 7, v := 0, f := 8 } : Fm).outc ∧ DIo B w' b c P ({ s with e := 7, v := 0, f := 8 } : Fm) ({ s with e := 7, v := 0, f := 8 } : Fm).g ({ s with e := 7, v := 0, f := 8 } : Fm).p l ∧ Below B W0 w' := by
 have hgi : (s.g : Int) < (P.code.length : Int) := by omega
 obtain ⟨cb, co, ra, rc, hca, hcb, hco⟩ := hpg.code s.g hg
 replace hco := Hz.mk hco
 replace hca := Hz.mk hca
 obtain ⟨N, hN⟩ : ∃ N, P.code[s.g].length = N := ⟨_, rfl⟩
 rw [hN] at hco hp
 have h2 := Hz.mk (h.new (List.toArray [Value.int .i64 0, .int .u64 0, .int .i64 0, .int .i64 0, .int .i64 0]) 51)
 clear h
 go_enter Tryz.func40, Tryz.ntmps40
 go_upto_region 1 with fail
 refine wp_world (fun W => DIo B W b c P s s.g s.p (boxOb W0.heap.size (List.toArray [Value.int .i64 0, .int .u64 0, .int .i64 0, .int .i64 0, .int .i64 0]) :: l) ∧ Below B W0 W) h2.out ?_
 rintro W ⟨h, hB⟩
 replace h := Hz.mk h
 replace hB := Hz.mk hB
 clear h2
 generalize W0.heap.size = kr at *
 have c27 : W.cell? ⟨b, 27, none⟩ = some (.int .i64 s.e) := h.out.row5 0 _ rfl
 have gd : Gr W W.drew := (Gr.refl W).drew
 go_upto_region 3 with fail
 clear c27
 replace hB := Hz.mk (hB.out.trans (gd.below.mono h.out.le))
 replace h := Hz.mk (h.out.gr gd.below)
 obtain ⟨c0, c4, c5⟩ := h.out.codes cb co hca.out
 obtain ⟨cw, hei⟩ := hco.out _ hB.out
 replace hei := Hz.mk hei
 clear gd
 refine wp_region_held_drew (S := (fun X => X.cell? ⟨b, 0, none⟩ = some (.slice (some ⟨cb, co, none⟩) P.code.length c.cc) ∧ X.cell? ⟨b, 4, none⟩ = some (.int .i64 s.g) ∧ X.cell? ⟨cb, co + s.g, none⟩ = some (.slice ra N rc))) (by kernel_rfl) (⟨c0, c4, cw⟩) (fun hHeld => ?_)
 refine xso 0 ?_ rfl ?_ (xso 1 ?_ rfl ?_ (xso 2 ?_ rfl ?_ (xso 3 ?_ rfl ?_ (xso 4 ?_ rfl ?_ (xso 5 ?_ rfl ?_ (xso 6 ?_ rfl ?_ (xso 7 ?_ rfl ?_ (xso 8 ?_ rfl ?_ (xso 9 ?_ rfl ?_ (xso 10 ?_ rfl ?_ (xso 11 ?_ rfl ?_ ?_)))))))))))
 iterate 12 (rotate_left; focus ((try simp only [xap]); intro w hSw; (try dsimp only at hSw); go_simp; first | done | with_reducible rfl))
 try simp only [xap]
 refine xdn ?_ _
 clear hHeld c0 c4 cw
 generalize W.drew = V at *
 have hpi : (N : Int) ≤ (s.p : Int) := by omega
 have hen := Hz.mk (h.out.onBox (s' := { s with e := 7, v := 0, f := 8 }) (og' := s.g) (op' := s.p) ⟨rfl, rfl, rfl, rfl, rfl⟩ (fun q hb => dend_any b _ 7 0 8 V hb))
 go_upto_region 6 with (refine hen.out.mono ?_; rintro r V9 ⟨rfl, h9, hB9⟩)
 replace hB := Hz.mk (hB.out.trans hB9)
 replace h := Hz.mk h9
 clear hen hB9 h9 c5 hei
 have hro := Hz.mk h.out.row5
 have hA9 : At V9 kr (List.toArray [Value.int .i64 0, .int .u64 0, .int .i64 0, .int .i64 0, .int .i64 0]) := h.out.there (boxOb kr (List.toArray [Value.int .i64 0, .int .u64 0, .int .i64 0, .int .i64 0, .int .i64 0])) (.head _)
 have hth := Hz.mk (At.there hA9 0 5 (by decide))
 have hA10 := Hz.mk (At.setAll (cs := [Value.int .i64 0, .int .u64 0, .int .i64 0, .int .i64 0, .int .i64 0]) hA9 [Value.int .i64 7, .int .u64 0, .int .i64 8, .int .i64 s.g, .int .i64 s.p] rfl)
 have h10 := h.out.side (o' := boxOb kr (List.toArray [Value.int .i64 7, .int .u64 0, .int .i64 8, .int .i64 s.g, .int .i64 s.p])) hA10.out (kp_setsZ V9 kr [Value.int .i64 7, .int .u64 0, .int .i64 8, .int .i64 s.g, .int .i64 s.p] 0) (fun _ r => .inl r)
 replace hB := Hz.mk (hB.out.trans h10.2)
 replace h10 := Hz.mk h10.1
 clear hA9 h
 go_upto_region 6 with fail
 refine wp_region_lit ?_
 iterate 3 (refine wpList_plain rfl (fun K hK => ?_); go_simp; with_reducible refine hK _ _ ?_; clear hK K; (try simp only [xap]))
 refine wpList_plain rfl (fun K hK => ?_)
 refine wp_load_mid _ _ rfl _ 27 rfl [Value.int .i64 7, .int .u64 0, .int .i64 8, .int .i64 s.g, .int .i64 s.p] _ hro.out Tryz.underlying51 rfl (by kernel_rfl) (hK _ _ ?_)
 clear hK K
 try simp only [xap]
 refine wpList_plain rfl (fun K hK => ?_)
 refine wp_store_mid _ _ _ rfl _ _ (List.toArray [Value.int .i64 7, .int .u64 0, .int .i64 8, .int .i64 s.g, .int .i64 s.p]) rfl rfl hth.out (by kernel_rfl) (by simp [Value.oneCell']) (hK _ _ ?_)
 clear hK K
 try simp only [Act.put]
 generalize World.setCells _ _ _ _ = V11 at *
 have hrun := Hz.mk (run_loadVar_mid (P := Tryz.prog) V11 kr 0 51 [Value.int .i64 7, .int .u64 0, .int .i64 8, .int .i64 s.g, .int .i64 s.p] _ (fun j v q => by rw [Nat.zero_add]; exact (hA10.out.2.1 j).trans (by simpa using q)) Tryz.underlying51 rfl (by kernel_rfl))
 go_wp2_with fail
 refine bodyPost_ret (v := ({ s with e := 7, v := 0, f := 8 } : Fm).outc) ?_ rfl ⟨rfl, h10.out.drop, hB.out⟩
 exact results_rowZ Tryz.results40 _ _ rfl hrun.out
end Z
end Go.Proofs.YthfphgjjieddjaaGreat


namespace Go.Proofs.YthfphgjjieddjaaGreat
namespace Z
open Go.RowKit
open T (Sep Ob Kp Mf FlIn boxOb)

theorem DIo.set5 {B : Nat} {W : World} {b : Nat} {c : Dc} {P : Pr} {s : Fm} {og op : Nat} {l : List Ob} (h : DIo B W b c P s og op l) (e0 : s.e = 0) (v0 : s.v = 0) (f0 : s.f = 0) : DIo B (W.setCells b 27 [Value.int .i64 0, .int .u64 0, .int .i64 0, .int .i64 s.g, .int .i64 s.p]) b c P s s.g s.p l ∧ Below B W (W.setCells b 27 [Value.int .i64 0, .int .u64 0, .int .i64 0, .int .i64 s.g, .int .i64 s.p]) ∧ W.there b 27 5 := by
 obtain ⟨⟨q, h1, ia, ic, e, h2⟩, le⟩ := h
 have hb : DBx W b (dxOf c P s q og op) := h1.ins (dbOb b (dxOf c P s q og op)) (by simp [dobs])
 have hk := kp_setsZ W b [Value.int .i64 0, .int .u64 0, .int .i64 0, .int .i64 s.g, .int .i64 s.p] 27
 have hb2 : DBx (W.setCells b 27 [Value.int .i64 0, .int .u64 0, .int .i64 0, .int .i64 s.g, .int .i64 s.p]) b (dxOf c P s q s.g s.p) := by
   have := hb.out5 0 0 0 s.g s.p
   unfold Dx.out5 dxOf at this
   unfold dxOf
   rw [e0, v0, f0] at *
   exact this
 have h3 := sep_change (l1 := []) (o := dbOb b (dxOf c P s q og op)) (o' := dbOb b (dxOf c P s q s.g s.p)) h1 hb2 hk (fun _ r => .inl r) le
 have bb := sep_below (l1 := []) (o := dbOb b (dxOf c P s q og op)) h1 hk le
 exact ⟨⟨⟨q, h3, ia, ic, e, h2.below bb⟩, Nat.le_trans le bb.size⟩, bb, fun j hj => ⟨by rw [hb.at_ (27 + j) (by omega)]; rfl, hb.fr _⟩⟩
end Z
end Go.Proofs.YthfphgjjieddjaaGreat


namespace Go.Proofs.YthfphgjjieddjaaGreat
set_option maxRecDepth 100000
set_option maxHeartbeats 40000000
namespace Z
open Go.RowKit
open T (Sep Ob Kp Mf FlIn boxOb)

theorem nw16 {j n : Nat} (h : j < n) (h7 : n ≤ 7) : IntKind.i64.wrap (1 + (j : Int)) = 1 + (j : Int) ∧ 1 + (j : Int) < 16 ∧ (0 : Int) ≤ 1 + (j : Int) ∧ (1 + (j : Int)).toNat = 1 + j := ⟨by simp [IntKind.wrap, IntKind.bits, IntKind.signed]; omega, by omega, by omega, by omega⟩
theorem nw17 {j n : Nat} (h : j < n) (h7 : n ≤ 7) : 1 + j < 16 := by omega
theorem dnew_ok (R : Rp) (ca ga : Option Addr) (cc gc : Nat) (mem : List UInt8) (gate : Nat) (sa : Option Addr) (n sc : Nat) (A : Nat → Int) (ia : Option Addr) (ic : Nat) (L : List Int) (w : World) (hP : RpIn w ca ga R) (is : R.Is) (ok : R.Ok mem.length) (hrl : ∀ r ∈ R.code, r.length ≤ 2000000) (hgl : gate < R.gates.length) (hna : (n : Int) = R.gates[gate].a) (B : Nat) (hB : B ≤ w.heap.size) (hpg : DPg B w ⟨ca, ga, cc, gc, .string (T.str mem)⟩ R.pr) (hLf : LgIn B w ia ic L) (l : List Ob) (hl : Sep B w (giOb B (.slice ia L.length ic) L :: l)) (hsrc : n = 0 ∨ ∃ sb so, sa = some ⟨sb, so, none⟩ ∧ ∀ X, Below B w X → (∀ o ∈ l, o.In X) → ∀ j, j < n → X.cell? ⟨sb, so + j, none⟩ = some (.int .u64 (A j))) (st : Fm) (hst : start R.gates[gate].fg gate n A L mem = st) :
   Calls Tryz.prog 18 #[.agg #[.slice ca R.code.length cc, .slice ga R.gates.length gc, .string (T.str mem), .int .i64 R.dep], .int .i64 gate, .slice sa n sc, .slice ia L.length ic] w fun x w' => ∃ b, x = .returned (.tuple #[.pointer (some ⟨b, 0, none⟩), .int .i64 0]) ∧ DIo B w' b ⟨ca, ga, cc, gc, .string (T.str mem)⟩ R.pr st st.g st.p l ∧ Below B w w' := by
 obtain ⟨dRow, hDR⟩ := dRw
 have el1 : R.pr.code.length = R.code.length := by simp [Rp.pr]
 have el2 : R.pr.gates.length = R.gates.length := by simp [Rp.pr]
 have hgp : gate < R.pr.gates.length := by rw [el2]; exact hgl
 have eg : R.pr.gates[gate] = R.gates[gate].fg := by simp [Rp.pr]
 have okp := ok.pr is
 obtain ⟨gb, goff, hga, hgbB, hgr⟩ := hpg.gate gate hgp
 dsimp only at hga
 subst hga
 have hai := (okp.gate gate hgp (by rw [el1, ok.nc]; exact hgl)).2.1
 have han : R.pr.gates[gate].a = n := by rw [eg]; show R.gates[gate].a.toNat = n; omega
 have hn7 : n ≤ 7 := by omega
 have hms : (T.str mem).size ≤ 65536 := by rw [T.str_size]; exact ok.mm
 have hmay := Hz.mk (fun U (q : Gr w U) => dmay_any R ca (some ⟨gb, goff, none⟩) cc gc (T.str mem) U (hP.gr q) is hrl)
 have hok : Hz (R.Ok (T.str mem).size) := Hz.mk (by rw [T.str_size]; exact ok)
 have hi : (gate : Int) < (R.gates.length : Int) := Int.ofNat_lt.2 hgl
 have hi2 : ¬ (R.gates.length : Int) ≤ (gate : Int) := by omega
 have hnn : ((n : Int) != (n : Int)) = false := by simp
 obtain ⟨d19, hd19⟩ : ∃ z, R.gates[gate].fg = z := ⟨_, rfl⟩
 rw [eg, hd19] at hai han hgr
 rw [hd19] at hst
 have hR5 : w.cell? ⟨gb, goff + gate * 19 + 1, none⟩ = some (.int .i64 n) := by
   have := hgr w (Below.refl _ w) 1 (.int .i64 d19.a) rfl
   rw [han] at this
   exact this
 replace hna := Hz.mk hna
 replace hms := Hz.mk hms
 replace hst := Hz.mk hst
 replace hd19 := Hz.mk hd19
 replace eg := Hz.mk eg
 replace hgr := Hz.mk hgr
 replace hrl := Hz.mk hrl
 replace is := Hz.mk is
 replace ok := Hz.mk ok
 replace okp := Hz.mk okp
 replace el1 := Hz.mk el1
 replace el2 := Hz.mk el2
 replace hpg := Hz.mk hpg
 replace hsrc := Hz.mk hsrc
 replace hP := Hz.mk hP
 replace hl := Hz.mk hl
 replace hLf := Hz.mk hLf
 go_enter Tryz.func18, Tryz.ntmps18
 go_upto_region 1 with fail
 refine wp_world (fun W => At W w.heap.size (List.toArray [Value.slice ca R.code.length cc, .slice (some ⟨gb, goff, none⟩) R.gates.length gc, .string (T.str mem), .int .i64 R.dep]) ∧ Gr w W) ⟨At.new w _ _, (Gr.refl _).alloc _⟩ ?_
 rintro W ⟨hA, G⟩
 have hkw : Hz (w.heap.size ≤ w.heap.size) := Hz.mk (Nat.le_refl _)
 generalize hkp : w.heap.size = kp at hA hkw ⊢
 have d0 : W.cell? ⟨kp, 0, none⟩ = some (.slice ca R.code.length cc) := hA.2.1 0
 have d1 : W.cell? ⟨kp, 1, none⟩ = some (.slice (some ⟨gb, goff, none⟩) R.gates.length gc) := hA.2.1 1
 have d2 : W.cell? ⟨kp, 2, none⟩ = some (.string (T.str mem)) := hA.2.1 2
 have d3 : W.cell? ⟨kp, 3, none⟩ = some (.int .i64 R.dep) := hA.2.1 3
 have hmy := Hz.mk (hmay.out W G)
 go_wp2_with fail
 refine hmy.out.mono ?_
 rintro r V ⟨⟨vv, rfl, hb⟩, gV⟩
 obtain rfl : vv = true := hb.2 hok.out
 replace hA := hA.gr gV
 replace G := G.trans gV
 clear d0 d1 d2 d3 hmy hmay gV hb
 have d1 : V.cell? ⟨kp, 1, none⟩ = some (.slice (some ⟨gb, goff, none⟩) R.gates.length gc) := hA.2.1 1
 have d5 : V.cell? ⟨gb, goff + gate * 19 + 1, none⟩ = some (.int .i64 n) := (T.cell_of_block (G.below.block gb (Nat.lt_of_lt_of_le hgbB hB)) _).trans hR5
 replace hA := Hz.mk hA
 go_upto_region 6 with fail
 clear d1 d5 hR5
 have hlV : Sep B V (boxOb kp (List.toArray [Value.slice ca R.code.length cc, .slice (some ⟨gb, goff, none⟩) R.gates.length gc, .string (T.str mem), .int .i64 R.dep]) :: giOb B (.slice ia L.length ic) L :: l) := hl.out.add _ hA.out (fun q r => by have : q = kp := r; omega) G.below hB
 have hBV : B ≤ V.heap.size := Nat.le_trans hB G.below.size
 have Gd : Gr V V.drew := (Gr.refl V).drew
 have hlD := hlV.gr Gd.below
 obtain ⟨hDI, hbD⟩ := dbegin dRow hDR (show B ≤ V.drew.heap.size from hBV) ca (some ⟨gb, goff, none⟩) ia cc gc ic (T.str mem) R.pr L (sep_perm hlD (List.Perm.swap _ _ _)) (hLf.out.below ((G.below.mono hB).trans (Gd.below.mono hBV))) 71
 rw [el1.out, el2.out] at hDI hbD
 have hDd : R.pr.dep = R.dep := rfl
 rw [hDd] at hDI hbD
 clear hDd
 replace hDI : DIo B ((V.drew.alloc (.cells dRow 5)).alloc (.cells (dmV ca (some ⟨gb, goff, none⟩) ia R.code.length cc R.gates.length gc L.length ic V.heap.size (T.str mem) R.dep).toArray 71)) (V.heap.size + 1) ⟨ca, some ⟨gb, goff, none⟩, cc, gc, .string (T.str mem)⟩ R.pr (zFm L (fun _ => 0)) 0 0 (boxOb kp (List.toArray [Value.slice ca R.code.length cc, .slice (some ⟨gb, goff, none⟩) R.gates.length gc, .string (T.str mem), .int .i64 R.dep]) :: l) := hDI
 have bq0 : Below V.heap.size V V.drew := Gd.below
 have bq1 : Below V.heap.size V (V.drew.alloc (.cells dRow 5)) := bq0.alloc bq0.size _
 have bq2 : Below V.heap.size V ((V.drew.alloc (.cells dRow 5)).alloc (.cells (dmV ca (some ⟨gb, goff, none⟩) ia R.code.length cc R.gates.length gc L.length ic V.heap.size (T.str mem) R.dep).toArray 71)) := bq1.alloc bq1.size _
 have KS : Hz (∀ U, Below V.heap.size V U → U.rangeAt kp 0 [Value.slice ca R.code.length cc, .slice (some ⟨gb, goff, none⟩) R.gates.length gc, .string (T.str mem), .int .i64 R.dep]) := Hz.mk (fun U q j v e => by rw [Nat.zero_add]; exact (T.cell_of_block (q.block kp hA.out.1) _).trans ((hA.out.2.1 j).trans (by simpa using e)))
 have mk1 := hDR.2 V.drew
 replace hDR := Hz.mk hDR
 replace hDI := Hz.mk hDI
 replace hlV := Hz.mk hlV
 replace hlD := Hz.mk hlD
 have hB2 := Hz.mk ((G.below.mono hB).trans (bq2.mono hBV))
 clear hbD
 refine wp_region_held_drew (S := (fun W => W.rangeAt kp 0 [Value.slice ca R.code.length cc, .slice (some ⟨gb, goff, none⟩) R.gates.length gc, .string (T.str mem), .int .i64 R.dep])) (by kernel_rfl) (KS.out _ bq0) (fun hHeld => ?_)
 refine xtk 0 rfl (yieldsIf_load_mid (by rfl) _ _ rfl _ _ rfl _ _ (fun _ h => h) Tryz.underlying25 rfl (by kernel_rfl)) ?_
 try simp only [xap]
 refine xso 2 ?_ rfl ?_ ?_
 rotate_left
 · intro w hSw; (try dsimp only at hSw); go_simp; first | done | with_reducible rfl
 try simp only [xap]
 refine xrd 1 rfl (fun K hK => ?_)
 go_simp
 clear hHeld
 refine hK.out _ _ (KS.out _ bq1) (fun hHeld => ?_)
 clear hK K
 try simp only [xap]
 refine xtk 3 rfl (yields_dm (by rfl) _ _ _ rfl ca (some ⟨gb, goff, none⟩) ia R.code.length cc R.gates.length gc L.length ic V.heap.size (T.str mem) R.dep (by rfl) (by rfl) (by rfl)) ?_
 try simp only [xap]
 refine xrd 4 rfl (fun K hK => ?_)
 go_simp
 clear hHeld
 refine hK.out _ _ (KS.out _ bq2) (fun hHeld => ?_)
 clear hK K
 try simp only [xap]
 refine xso 5 ?_ rfl ?_ ?_
 rotate_left
 · intro w hSw; (try dsimp only at hSw); go_simp; first | done | with_reducible rfl
 try simp only [xap]
 refine xdn ?_ _
 clear hHeld mk1
 go_upto_region 7 with fail
 refine wp_world (fun X => DIo B X (V.heap.size + 1) ⟨ca, some ⟨gb, goff, none⟩, cc, gc, .string (T.str mem)⟩ R.pr (zFm L (fun _ => 0)) 0 0 (boxOb kp (List.toArray [Value.slice ca R.code.length cc, .slice (some ⟨gb, goff, none⟩) R.gates.length gc, .string (T.str mem), .int .i64 R.dep]) :: l) ∧ Below B w X) ?_ ?_
 · exact ⟨hDI.out, hB2.out⟩
 clear hDI hB2
 rintro V2 ⟨hDI, hB2⟩
 replace hDI := Hz.mk hDI
 replace hB2 := Hz.mk hB2
 clear KS bq0 bq1 bq2 hlV hlD Gd
 generalize V.heap.size + 1 = b at *
 have gd : Gr V2 V2.drew := (Gr.refl V2).drew
 have hB3 := Hz.mk (hB2.out.trans (gd.below.mono hDI.out.le))
 have hD := hDI.out.gr gd.below
 clear gd hDI hB2
 obtain ⟨g, k9, x23, hcs, ⟨v0, hv0⟩, hly⟩ := hD.lay
 have xkp : V2.drew.cell? ⟨kp, 2, none⟩ = some (.string (T.str mem)) := (hD.there (boxOb kp (List.toArray [Value.slice ca R.code.length cc, .slice (some ⟨gb, goff, none⟩) R.gates.length gc, .string (T.str mem), .int .i64 R.dep])) (.head _)).2.1 2
 have em : ((T.str mem).data.toList.map fun x => Value.int .u8 (x.toNat : Int)) = mem.map fun x => Value.int .u8 (x.toNat : Int) := by simp [T.str]
 have hng : g ≠ b := fun q => by
   rw [q] at hv0
   obtain ⟨q2, hq⟩ := hD.box
   have := (hq.at_ 0 (by omega)).symm.trans hv0
   injection this with this
   cases this
 have hkg : g ≠ kp := fun q => by
   rw [q] at hv0
   have := ((hD.there (boxOb kp (List.toArray [Value.slice ca R.code.length cc, .slice (some ⟨gb, goff, none⟩) R.gates.length gc, .string (T.str mem), .int .i64 R.dep])) (.head _)).2.1 0).symm.trans hv0
   cases this
 have k7 : (V2.drew.setCells g 0 ((T.str mem).data.toList.map fun x => Value.int .u8 (x.toNat : Int))).cell? ⟨b, 23, none⟩ = some (.slice (some ⟨g, 0, none⟩) 65536 k9) ∧ (V2.drew.setCells g 0 ((T.str mem).data.toList.map fun x => Value.int .u8 (x.toNat : Int))).cell? ⟨kp, 2, none⟩ = some (.string (T.str mem)) := ⟨(T.cell_of_block ((kp_setsZ _ g _ 0).block b (by obtain ⟨q2, hq⟩ := hD.box; exact hq.lt) (fun e => hng e.symm)) _).trans x23, (T.cell_of_block ((kp_setsZ _ g _ 0).block kp (hD.there (boxOb kp (List.toArray [Value.slice ca R.code.length cc, .slice (some ⟨gb, goff, none⟩) R.gates.length gc, .string (T.str mem), .int .i64 R.dep])) (.head _)).1 (fun e => hkg e.symm)) _).trans xkp⟩
 have h7 := hly mem
 rw [← em] at h7
 replace h7 := Hz.mk h7
 replace hcs := Hz.mk hcs
 clear hly hD em hng hkg hv0
 refine wp_region_held_drew (S := (fun X => X.cell? ⟨b, 23, none⟩ = some (.slice (some ⟨g, 0, none⟩) 65536 k9) ∧ X.cell? ⟨kp, 2, none⟩ = some (.string (T.str mem)))) (by kernel_rfl) (⟨x23, xkp⟩) (fun hHeld => ?_)
 refine xso 0 ?_ rfl ?_ (xso 1 ?_ rfl ?_ (xso 2 ?_ rfl ?_ (xso 3 ?_ rfl ?_ (xso 4 ?_ rfl ?_ (xso 5 ?_ rfl ?_ ?_)))))
 iterate 6 (rotate_left; focus ((try simp only [xap]); intro w hSw; (try dsimp only at hSw); go_simp; first | done | with_reducible rfl))
 try simp only [xap]
 refine xrd 6 rfl (fun K hK => ?_)
 clear hHeld
 refine step_copy_string (by rfl) _ _ _ _ rfl 5 Tryz.underlying69 (fun _ => by kernel_rfl) g 0 65536 k9 (by rfl) (T.str mem) (by rfl) hms.out (fun j hj => by rw [Nat.zero_add]; exact (hcs.out j (Nat.lt_of_lt_of_le hj hms.out)).1) (fun j hj => by rw [Nat.zero_add]; exact (hcs.out j (Nat.lt_of_lt_of_le hj hms.out)).2) ?_
 refine hK.out _ _ k7 (fun hHeld => ?_)
 clear hK K
 try simp only [xap]
 refine xdn ?_ _
 generalize hV3 : V2.drew.setCells g 0 ((T.str mem).data.toList.map fun x => Value.int .u8 (x.toNat : Int)) = V3 at *
 clear hHeld x23 xkp k7 hcs hV3
 replace hB3 := Hz.mk (hB3.out.trans h7.out.2)
 have hD := h7.out.1
 clear h7
 have h8 := hD.new (List.toArray (regs (fun _ => 0))) 35
 replace hD := Hz.mk hD
 replace h8 := Hz.mk h8
 go_upto_region 10 with fail
 refine wp_world (fun X => DIo B X b ⟨ca, some ⟨gb, goff, none⟩, cc, gc, .string (T.str mem)⟩ R.pr { zFm L (fun _ => 0) with m := T.layB (fun _ => 0) 0 mem mem.length } 0 0 (boxOb V3.heap.size (List.toArray (regs (fun _ => 0))) :: boxOb kp (List.toArray [Value.slice ca R.code.length cc, .slice (some ⟨gb, goff, none⟩) R.gates.length gc, .string (T.str mem), .int .i64 R.dep]) :: l) ∧ Below B V3 X) h8.out ?_
 rintro V4 ⟨hD4, hb4⟩
 replace hB3 := Hz.mk (hB3.out.trans hb4)
 replace hD4 := Hz.mk hD4
 clear h8 hD hb4
 generalize V3.heap.size = kr at *
 replace han := Hz.mk han
 clear hai hnn hms hok hBV hi
 go_loopw [13] (fun x wr => ∃ j : Nat, x = .int .i64 j ∧ j ≤ n ∧ Hz (DIo B wr b ⟨ca, some ⟨gb, goff, none⟩, cc, gc, .string (T.str mem)⟩ R.pr { zFm L (fun _ => 0) with m := T.layB (fun _ => 0) 0 mem mem.length } 0 0 (boxOb kr (List.toArray (regs (entR zFg j A))) :: boxOb kp (List.toArray [Value.slice ca R.code.length cc, .slice (some ⟨gb, goff, none⟩) R.gates.length gc, .string (T.str mem), .int .i64 R.dep]) :: l)) ∧ Hz (Below B w wr)) (fun x _ => n - (intOf x).toNat)
 case atStart => exact ⟨0, rfl, Nat.zero_le _, Hz.mk (by rw [entR_zero]; exact hD4.out), hB3⟩
 case round =>
   clear hD4 hB3
   obtain ⟨j, rfl, hj, hD, hB3⟩ := hrel
   by_cases hjn : j < n
   · have hj1 : (j : Int) < (n : Int) := Int.ofNat_lt.2 hjn
     obtain ⟨sb, so, rfl, hsc⟩ : ∃ sb so, sa = some ⟨sb, so, none⟩ ∧ ∀ X, Below B w X → (∀ o ∈ l, o.In X) → ∀ j, j < n → X.cell? ⟨sb, so + j, none⟩ = some (.int .u64 (A j)) := by
       rcases hsrc.out with q | q
       · omega
       · exact q
     have cs : wr.cell? ⟨sb, so + j, none⟩ = some (.int .u64 (A j)) := hsc wr hB3.out (fun o ho => hD.out.there o (by simp [ho])) j hjn
     have hAk := hD.out.there (boxOb kr (List.toArray (regs (entR zFg j A)))) (.head _)
     have ck : wr.cell? ⟨kr, 1 + j, none⟩ = some (.int .u64 (entR zFg j A (1 + j))) := (hAk.2.1 (1 + j)).trans (by simpa using regs_at _ (1 + j) (nw17 hjn hn7))
     have fk : wr.frozen? ⟨kr, 1 + j, none⟩ = false := hAk.2.2 _
     have hlk : kr < wr.heap.size := hAk.1
     have hA2 := at_regs hAk (1 + j) (nw17 hjn hn7) (A j)
     have hs2 := hD.out.side (o' := boxOb kr (List.toArray (regs (entR zFg (j + 1) A)))) (by rw [entR_next, Nat.add_comm j 1]; exact hA2) (Kp.set (S := fun k => k = kr) wr ⟨kr, 1 + j, none⟩ (.int .u64 (A j)) rfl) (fun _ r => .inl r)
     obtain ⟨hwj, hj16, hj0, hjt⟩ := nw16 hjn hn7
     replace hs2 := Hz.mk hs2
     replace hA2 := Hz.mk hA2
     replace hAk := Hz.mk hAk
     replace hsc := Hz.mk hsc
     go_upto_region 12 with fail
     refine wp_region_lit ?_
     iterate 7 (refine wpList_plain rfl (fun K hK => ?_); go_simp; with_reducible refine hK _ _ ?_; clear hK K; (try simp only [xap]))
     refine wpList_plain rfl (fun K hK => ?_)
     go_simp
     with_reducible refine hK _ _ ?_
     clear hK K
     try simp only [Act.put]
     go_wp2_with fail
     refine ⟨⟨j + 1, ?_, hjn, Hz.mk hs2.out.1, Hz.mk (hB3.out.trans hs2.out.2)⟩, ?_⟩
     · first | rfl | rw [next_wZ hjn (by omega)] | go_num
     · first | exact next_mZ hjn | (rw [next_wZ hjn (by omega)]; exact next_mZ hjn)
   · have hj1 : ¬ (j : Int) < (n : Int) := fun q => hjn (Int.ofNat_lt.1 q)
     obtain rfl : j = n := by omega
     have hgr2 : wr.rangeAt gb (goff + gate * 19) R.pr.gates[gate].vals := by
       rw [eg.out, hd19.out]
       exact hgr.out wr hB3.out
     have hen := Hz.mk (denter B wr b ⟨ca, some ⟨gb, goff, none⟩, cc, gc, .string (T.str mem)⟩ R.pr { zFm L (fun _ => 0) with m := T.layB (fun _ => 0) 0 mem mem.length } 0 0 (boxOb kr (List.toArray (regs (entR zFg j A))) :: boxOb kp (List.toArray [Value.slice ca R.code.length cc, .slice (some ⟨gb, goff, none⟩) R.gates.length gc, .string (T.str mem), .int .i64 R.dep]) :: l) hD.out gate gb goff hgp rfl hgbB hgr2 (by rw [eg.out, hd19.out, han.out]; exact hn7) (entR zFg j A))
     have hrw := Hz.mk (fun (i : Nat) (v : Value) (q : (regs (entR zFg j A))[i]? = some v) => ((hD.out.there (boxOb kr (List.toArray (regs (entR zFg j A)))) (.head _)).2.1 i).trans (by simpa using q))
     obtain ⟨s1, hs1⟩ : ∃ s1 : Fm, s1 = { zFm L (fun _ => 0) with m := T.layB (fun _ => 0) 0 mem mem.length, r := entR R.pr.gates[gate] R.pr.gates[gate].a (fun i => entR zFg j A (i + 1)), g := gate, p := R.pr.gates[gate].e } := ⟨_, rfl⟩
     have hsst : Hz (s1 = st) := Hz.mk (by rw [hs1, eg.out, hd19.out, han.out, ent_args, ← hst.out]; unfold start zFm; rw [List.take_of_length_le ok.out.mm])
     go_upto_region 13 with fail
     refine wp_region_lit ?_
     iterate 2 (refine wpList_plain rfl (fun K hK => ?_); go_simp; with_reducible refine hK _ _ ?_; clear hK K; (try simp only [xap]))
     refine wpList_plain rfl (fun K hK => ?_)
     refine wp_load_mid _ _ rfl _ 0 rfl (regs (entR zFg j A)) _ (fun i v q => by rw [Nat.zero_add]; exact hrw.out i v q) Tryz.underlying35 rfl (by rw [regs_len]; kernel_rfl) (hK _ _ ?_)
     clear hK K
     try simp only [xap]
     refine wpList_plain rfl (fun K hK => ?_)
     go_simp
     (refine hen.out.mono ?_; rintro r V5 ⟨rfl, h5, hb5⟩)
     with_reducible refine hK _ _ ?_
     clear hK K
     try simp only [xap]

     replace hB3 := Hz.mk (hB3.out.trans hb5)
     replace h5 : DIo B V5 b ⟨ca, some ⟨gb, goff, none⟩, cc, gc, .string (T.str mem)⟩ R.pr s1 0 0 (boxOb kr (List.toArray (regs (entR zFg j A))) :: boxOb kp (List.toArray [Value.slice ca R.code.length cc, .slice (some ⟨gb, goff, none⟩) R.gates.length gc, .string (T.str mem), .int .i64 R.dep]) :: l) := by rw [hs1]; exact h5
     replace h5 := h5.drop.drop
     have e0 : s1.e = 0 := by rw [hs1]; rfl
     have v0 : s1.v = 0 := by rw [hs1]; rfl
     have f0 : s1.f = 0 := by rw [hs1]; rfl
     replace hs1 := Hz.mk hs1
     clear hen hrw hD hb5
     have gd : Gr V5 V5.drew := (Gr.refl V5).drew
     replace hB3 := Hz.mk (hB3.out.trans (gd.below.mono h5.le))
     replace h5 := h5.gr gd.below
     clear gd
     obtain ⟨h6, b6, t5⟩ := h5.set5 e0 v0 f0
     obtain ⟨d4, d5, _⟩ := h5.hand
     obtain ⟨f4, f5, _⟩ := h6.hand
     have hE5 := Hz.mk e0
     replace h5 := Hz.mk h5
     replace h6 := Hz.mk h6
     replace t5 := Hz.mk t5
     clear e0 v0 f0
     go_upto_region 14 with fail
     refine wp_region_held_drew (S := (fun X => X.cell? ⟨b, 4, none⟩ = some (.int .i64 s1.g) ∧ X.cell? ⟨b, 5, none⟩ = some (.int .i64 s1.p))) (by kernel_rfl) (⟨d4, d5⟩) (fun hHeld => ?_)
     generalize V5.drew = V6 at *
     refine xso 0 ?_ rfl ?_ (xso 1 ?_ rfl ?_ (xso 2 ?_ rfl ?_ (xso 3 ?_ rfl ?_ (xso 4 ?_ rfl ?_ (xso 5 ?_ rfl ?_ (xso 6 ?_ rfl ?_ (xso 7 ?_ rfl ?_ (xso 8 ?_ rfl ?_ (xso 9 ?_ rfl ?_ (xso 10 ?_ rfl ?_ (xso 11 ?_ rfl ?_ ?_)))))))))))
     iterate 12 (rotate_left; focus ((try simp only [xap]); intro w hSw; (try dsimp only at hSw); go_simp; first | done | with_reducible rfl))
     try simp only [xap]
     refine xrd 12 rfl (fun K hK => ?_)
     rw [if_pos (by rfl)]
     refine wp_store_mid _ _ _ rfl _ _ (List.toArray _) rfl rfl (t5.out) (by kernel_rfl) (by simp [Value.oneCell']) ?_
     refine hK.out _ _ (⟨f4, f5⟩) (fun hHeld => ?_)
     clear hK K
     try simp only [Act.put]
     refine xdn ?_ _
     clear hHeld d4 d5 f4 f5 h5 t5
     replace hB3 := Hz.mk (hB3.out.trans b6)
     generalize World.setCells _ _ _ _ = V12 at *
     go_wp2_with fail
     go_ret2
     refine ⟨b, rfl, ?_, hB3.out⟩
     rw [← hsst.out]
     exact h6.out
end Z
end Go.Proofs.YthfphgjjieddjaaGreat


namespace Go.Proofs.YthfphgjjieddjaaGreat
namespace Z
open Go.RowKit
open T (Sep Ob Kp Mf FlIn boxOb)

def snapOb (B : Nat) (V : World) : Ob := ⟨fun k => B ≤ k ∧ k < V.heap.size, fun X => V.heap.size ≤ X.heap.size ∧ ∀ k, B ≤ k → k < V.heap.size → X.heap[k]? = V.heap[k]?, fun _ h _ q => Nat.lt_of_lt_of_le q.2 h.1, fun _ _ _ h hk hd => ⟨Nat.le_trans h.1 hk.size, fun k h1 h2 => (hk.block k (Nat.lt_of_lt_of_le h2 h.1) (hd k ⟨h1, h2⟩)).trans (h.2 k h1 h2)⟩⟩
theorem snap_sep (B : Nat) (V : World) : Sep B V [snapOb B V] := by
 refine ⟨fun o ho => ?_, List.pairwise_cons.2 ⟨fun p hp => (by cases hp), List.Pairwise.nil⟩, fun o ho k q => ?_⟩
 · rw [List.mem_singleton.1 ho]
   exact ⟨Nat.le_refl _, fun _ _ _ => rfl⟩
 · rw [List.mem_singleton.1 ho] at q
   exact q.1
theorem snap_below {B : Nat} {V X : World} (h : (snapOb B V).In X) (hb : Below B V X) : Below V.heap.size V X :=
 ⟨hb.os, hb.tape, hb.output, h.1, fun k hk => by
   by_cases q : B ≤ k
   · exact h.2 k q hk
   · exact hb.block k (by omega)⟩
theorem sep_both {B : Nat} {V W' : World} {l : List Ob} {b : Nat} {P' : Pr} {s' : Fm} (h1 : Sep B V l) (le : B ≤ V.heap.size) (h2 : MIn V.heap.size W' b P' s' []) (hb : Below V.heap.size V W') : ∃ q', Sep B W' (obs B b P' s' q' ++ l) := by
 obtain ⟨⟨q', h3⟩, _⟩ := h2
 have h4 := obs_low h3 le
 have hge : ∀ o ∈ obs B b P' s' q', ∀ k, o.S k → V.heap.size ≤ k := fun o ho k r => by
   have e : (obs B b P' s' q').map Ob.S = (obs V.heap.size b P' s' q').map Ob.S := rfl
   have h5 : o.S ∈ (obs B b P' s' q').map Ob.S := List.mem_map_of_mem ho
   rw [e] at h5
   obtain ⟨p, hp, e2⟩ := List.mem_map.1 h5
   exact h3.ge p (by simp [hp]) k (by rw [e2]; exact r)
 rw [List.append_nil] at h4
 exact ⟨q', sep_append h4 (h1.gr hb) (fun o ho p hp k r t => by
   have := hge o ho k r
   have := p.lt V (h1.ins p hp) k t
   omega)⟩
theorem sep_last {B : Nat} {W W' : World} {l : List Ob} {o : Ob} (h : Sep B W (l ++ [o])) (hk : Kp o.S W W') : Sep B W' l := by
 have hd := List.pairwise_append.1 h.dis
 exact ⟨fun p hp => p.keep W W' o.S (h.ins p (by simp [hp])) hk (hd.2.2 p hp o (by simp)), hd.1, fun p hp => h.ge p (by simp [hp])⟩
theorem MD.over {B : Nat} {W W' : World} {P : Pr} {a : Nat} {s : Fm} {b : Nat} {c : Dc} {t : Fm} {o : Ob} (h : MD B W P a s b c t [o]) (hk : Kp o.S W W') (hS : ∀ k, o.S k → B ≤ k) : MD B W' P a s b c t [] ∧ Below B W W' := by
 obtain ⟨q2, ⟨⟨q, h1⟩, le⟩, ia, ic, e, hi⟩ := h.asX
 have bb : Below B W W' := hk.below le hS
 have h1' : Sep B W ((obs B a P s q ++ (dobs B b c P t q2 t.g t.p ++ [giOb B q2.iv t.inp])) ++ [o]) := by simpa using h1
 have h3 := sep_last h1' hk
 exact ⟨MD.ofX (q2 := q2) ⟨⟨q, h3⟩, Nat.le_trans le bb.size⟩ e (hi.below bb), bb⟩
theorem src_row {W : World} {k : Nat} {A : List Int} (h : FRow W k (A.length + 8) (wdA A)) : A.length = 0 ∨ ∃ sb so, (some ⟨k, 0, none⟩ : Option Addr) = some ⟨sb, so, none⟩ ∧ sb < W.heap.size ∧ ∀ j, j < A.length → W.cell? ⟨sb, so + j, none⟩ = some (.int .u64 (srcA A j)) := by
 refine .inr ⟨k, 0, rfl, h.lt, fun j hj => ?_⟩
 rw [Nat.zero_add, h.at_ j (by omega)]
 unfold wdA srcA
 simp [hj]
theorem inl_row {W : World} {k : Nat} {A : List Int} (h : FRow W k (A.length + 8) (wdA A)) : (((some ⟨k, 0, none⟩ : Option Addr) = none ∧ A = [] ∧ A.length + 8 = 0) ∨ ∃ b off, (some ⟨k, 0, none⟩ : Option Addr) = some ⟨b, off, none⟩ ∧ b < W.heap.size ∧ ∀ i (h : i < A.length), W.cell? ⟨b, off + i, none⟩ = some (.int .u64 A[i])) := by
 refine .inr ⟨k, 0, rfl, h.lt, fun j hj => ?_⟩
 rw [Nat.zero_add, h.at_ j (by omega)]
 unfold wdA
 simp [hj]
theorem FRow.bel {B : Nat} {w w1 : World} {g n : Nat} {V : Nat → Value} (h : FRow w g n V) (q : Below B w w1) (hg : g < B) : FRow w1 g n V := h.block q.size (q.block g hg)
theorem LnA.bel {lo hi B : Nat} {W W' : World} {kc kg : Nat} {K : Nat → Nat} {rv : Value} {R : Rp} (h : LnA lo hi W kc kg K rv R) (q : Below B W W') (hB : hi ≤ B) : LnA lo hi W' kc kg K rv R :=
 h.keep (S := fun k => B ≤ k) ⟨q.os, q.tape, q.output, q.size, fun k _ hn => q.block k (by omega)⟩ (fun k _ h2 r => by have : B ≤ k := r; omega)
end Z
end Go.Proofs.YthfphgjjieddjaaGreat
