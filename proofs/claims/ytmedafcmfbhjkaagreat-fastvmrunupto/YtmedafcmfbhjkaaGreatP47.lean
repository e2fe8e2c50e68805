import Derived.Test.YtmedafcmfbhjkaaGreatZDLod
import Derived.Test.YtmedafcmfbhjkaaGreatZDSto
import Derived.Test.YtmedafcmfbhjkaaGreatP29
import Derived.Test.YtmedafcmfbhjkaaGreatZDNwM
import Derived.Test.YtmedafcmfbhjkaaGreatP44
import Derived.Test.YtmedafcmfbhjkaaGreatP30
import Derived.Test.YtmedafcmfbhjkaaGreatZReady
import Derived.Test.YtmedafcmfbhjkaaGreatP35
namespace Go.Proofs.YtmedafcmfbhjkaaGreat
namespace Z
open Go.RowKit
open T (Sep Ob Kp Mf FlIn boxOb)

theorem put_more (m : Nat → UInt8) (A v : Nat) (hv : v < 18446744073709551616) (k : Nat) : T.putB m A v (8 + k) = T.putB (T.putB m A v 8) (A + 8) 0 k := by
 induction k with
 | zero => rfl
 | succ k ih =>
   show T.upd (T.putB m A v (8 + k)) (A + (8 + k)) (UInt8.ofNat (v / 2 ^ (8 * (8 + k)) % 256)) = T.upd (T.putB (T.putB m A v 8) (A + 8) 0 k) (A + 8 + k) (UInt8.ofNat (0 / 2 ^ (8 * k) % 256))
   have hp : 18446744073709551616 ≤ 2 ^ (8 * (8 + k)) := Nat.le_trans (by decide : 18446744073709551616 ≤ 2 ^ 64) (Nat.pow_le_pow_right (by omega) (by omega))
   rw [ih, Nat.div_eq_of_lt (Nat.lt_of_lt_of_le hv hp), Nat.zero_div, Nat.add_assoc]
theorem ld_le (m : Nat → UInt8) (A k : Nat) (hk : k = 1 ∨ k = 8) (h : A + k ≤ 65536) : T.ldV m A k = T.leB m A k := by
 unfold T.ldV
 rw [if_pos (by simp [T.wordB]; omega)]
theorem st_put (m : Nat → UInt8) (A k v : Nat) (hk : k = 1 ∨ k = 8) (h : A + k ≤ 65536) : T.stB m A k v = T.putB m A v k := by
 unfold T.stB
 rw [if_pos (by simp [T.wordB]; omega)]
theorem dmemory_any (P : Pr) (i : Fi) (s : Fm) (n : Nat) (hs : s.Ok P) (he : s.e = 0) (ho : i.Ok n P.gates.length) (hop : 60 ≤ i.op ∧ i.op < 70) (B : Nat) (W : World) (b : Nat) (c : Dc) (og op : Nat) (l : List Ob) (h : DIo B W b c P s og op l) :
   Calls Tryz.prog 30 #[.pointer (some ⟨b, 0, none⟩), .agg #[.int .u8 i.op, .int .i64 i.a, .int .i64 i.b, .int .i64 i.c, .int .u64 i.i]] W fun x w' => x = .returned (.tuple #[]) ∧ DAft B w' b c P (stepI P i s) l ∧ Below B W w' := by
 have ia := ho.a
 have ib := ho.b
 have hp : s.p ≤ 1000000 := Nat.le_trans hs.p (by omega)
 have htl := hs.tl
 obtain ⟨A, hA⟩ : ∃ A : Nat, IntKind.u64.wrap (s.r i.b + i.i) = (A : Int) := ⟨(IntKind.u64.wrap (s.r i.b + i.i)).toNat, by rw [IntKind.wrap_u64]; omega⟩
 obtain ⟨v0, hv⟩ : ∃ v0 : Nat, s.r i.a = (v0 : Int) := ⟨(s.r i.a).toNat, by have := hs.r i.a; omega⟩
 have hv64 : v0 < 18446744073709551616 := by have := hs.r i.a; omega
 have hk : i.op = 60 ∨ i.op = 61 ∨ i.op = 62 ∨ i.op = 63 ∨ i.op = 64 ∨ i.op = 65 := by have := ho.op; unfold Named at this; omega
 rcases hk with e | e | e | e | e | e
 all_goals rw [e]
 · rw [show stepI P i s = stp60 i s by unfold stepI; rw [e]; rfl]
   unfold stp60
   rw [hA, Int.toNat_natCast]
   by_cases hf : 65536 - 1 < A
   · rw [if_pos (by omega)]
     refine (dmf60 B W b c P s og op l i.a i.b i.c i.i h ib A hA hf).mono ?_
     rintro x w' ⟨rfl, h1, h2⟩
     exact ⟨rfl, ⟨_, _, h1, fun _ => ⟨rfl, rfl⟩⟩, h2⟩
   · rw [if_neg (by omega), ld_le s.m A 1 (by omega) (by omega)]
     refine (dml60 B W b c P s og op l i.a i.b i.c i.i h ib A hA ia (by omega) htl hp).mono ?_
     rintro x w' ⟨rfl, h1, h2⟩
     exact ⟨rfl, ⟨_, _, h1, DEnd.run he⟩, h2⟩
 · rw [show stepI P i s = stp61 i s by unfold stepI; rw [e]; rfl]
   unfold stp61
   rw [hA, Int.toNat_natCast]
   by_cases hf : 65536 - 8 < A
   · rw [if_pos (by omega)]
     refine (dmf61 B W b c P s og op l i.a i.b i.c i.i h ib A hA hf).mono ?_
     rintro x w' ⟨rfl, h1, h2⟩
     exact ⟨rfl, ⟨_, _, h1, fun _ => ⟨rfl, rfl⟩⟩, h2⟩
   · rw [if_neg (by omega), ld_le s.m A 8 (by omega) (by omega)]
     refine (dml61 B W b c P s og op l i.a i.b i.c i.i h ib A hA ia (by omega) htl hp).mono ?_
     rintro x w' ⟨rfl, h1, h2⟩
     exact ⟨rfl, ⟨_, _, h1, DEnd.run he⟩, h2⟩
 · rw [show stepI P i s = stp62 i s by unfold stepI; rw [e]; rfl]
   unfold stp62
   rw [hA, Int.toNat_natCast]
   by_cases hf : 65536 - 1 < A
   · rw [if_pos (by omega)]
     refine (dmf62 B W b c P s og op l i.a i.b i.c i.i h ib A hA hf).mono ?_
     rintro x w' ⟨rfl, h1, h2⟩
     exact ⟨rfl, ⟨_, _, h1, fun _ => ⟨rfl, rfl⟩⟩, h2⟩
   · rw [if_neg (by omega), hv, Int.toNat_natCast, st_put s.m A 1 v0 (by omega) (by omega)]
     refine (dms62 B W b c P s og op l i.a i.b i.c i.i h ib A hA v0 hv hv64 ia (by omega) htl hp).mono ?_
     rintro x w' ⟨rfl, h1, h2⟩
     exact ⟨rfl, ⟨_, _, h1, DEnd.run he⟩, h2⟩
 · rw [show stepI P i s = stp63 i s by unfold stepI; rw [e]; rfl]
   unfold stp63
   rw [hA, Int.toNat_natCast]
   by_cases hf : 65536 - 8 < A
   · rw [if_pos (by omega)]
     refine (dmf63 B W b c P s og op l i.a i.b i.c i.i h ib A hA hf).mono ?_
     rintro x w' ⟨rfl, h1, h2⟩
     exact ⟨rfl, ⟨_, _, h1, fun _ => ⟨rfl, rfl⟩⟩, h2⟩
   · rw [if_neg (by omega), hv, Int.toNat_natCast, st_put s.m A 8 v0 (by omega) (by omega)]
     refine (dms63 B W b c P s og op l i.a i.b i.c i.i h ib A hA v0 hv hv64 ia (by omega) htl hp).mono ?_
     rintro x w' ⟨rfl, h1, h2⟩
     exact ⟨rfl, ⟨_, _, h1, DEnd.run he⟩, h2⟩
 · rw [show stepI P i s = stp64 i s by unfold stepI; rw [e]; rfl]
   unfold stp64
   rw [hA, Int.toNat_natCast]
   by_cases hf : 65536 - 16 < A
   · rw [if_pos (by omega)]
     refine (dmf64 B W b c P s og op l i.a i.b i.c i.i h ib A hA hf).mono ?_
     rintro x w' ⟨rfl, h1, h2⟩
     exact ⟨rfl, ⟨_, _, h1, fun _ => ⟨rfl, rfl⟩⟩, h2⟩
   · rw [if_neg (by omega), ld_le s.m A 8 (by omega) (by omega)]
     refine (dml64 B W b c P s og op l i.a i.b i.c i.i h ib A hA ia (by omega) htl hp).mono ?_
     rintro x w' ⟨rfl, h1, h2⟩
     exact ⟨rfl, ⟨_, _, h1, DEnd.run he⟩, h2⟩
 · rw [show stepI P i s = stp65 i s by unfold stepI; rw [e]; rfl]
   unfold stp65
   rw [hA, Int.toNat_natCast]
   by_cases hf : 65536 - 16 < A
   · rw [if_pos (by omega)]
     refine (dmf65 B W b c P s og op l i.a i.b i.c i.i h ib A hA hf).mono ?_
     rintro x w' ⟨rfl, h1, h2⟩
     exact ⟨rfl, ⟨_, _, h1, fun _ => ⟨rfl, rfl⟩⟩, h2⟩
   · rw [if_neg (by omega), hv, Int.toNat_natCast, st_put s.m A 8 v0 (by omega) (by omega), st_put _ (A + 8) 8 0 (by omega) (by omega), ← put_more s.m A v0 hv64 8]
     refine (dms65 B W b c P s og op l i.a i.b i.c i.i h ib A hA v0 hv hv64 ia (by omega) htl hp).mono ?_
     rintro x w' ⟨rfl, h1, h2⟩
     exact ⟨rfl, ⟨_, _, h1, DEnd.run he⟩, h2⟩
end Z
end Go.Proofs.YtmedafcmfbhjkaaGreat


namespace Go.Proofs.YtmedafcmfbhjkaaGreat
set_option maxRecDepth 100000
set_option maxHeartbeats 40000000
namespace Z
open Go.RowKit
open T (Sep Ob Kp Mf FlIn boxOb)

theorem DPg.code {B : Nat} {W : World} {c : Dc} {P : Pr} (h : DPg B W c P) (k : Nat) (hk : k < P.code.length) : ∃ cb co ra rc, c.ca = some ⟨cb, co, none⟩ ∧ cb < B ∧ ∀ X, Below B W X → X.cell? ⟨cb, co + k, none⟩ = some (.slice ra P.code[k].length rc) ∧ T.EIn 5 Fi.vals X ra P.code[k] := by
 obtain ⟨V, e, h1, h2⟩ := h
 subst e
 obtain ⟨b, off, ra, rc, e1, e2, e3, e4⟩ := h2.code k hk
 exact ⟨b, off, ra, rc, e1, e2, fun X hx => ⟨(T.cell_of_block ((h1.trans hx).block b e2) _).trans e3, e4.below (h1.trans hx)⟩⟩
theorem DIo.codes {B : Nat} {W : World} {b : Nat} {c : Dc} {P : Pr} {s : Fm} {og op : Nat} {l : List Ob} (h : DIo B W b c P s og op l) (cb co : Nat) (hca : c.ca = some ⟨cb, co, none⟩) : W.cell? ⟨b, 0, none⟩ = some (.slice (some ⟨cb, co, none⟩) P.code.length c.cc) ∧ W.cell? ⟨b, 4, none⟩ = some (.int .i64 s.g) ∧ W.cell? ⟨b, 5, none⟩ = some (.int .i64 s.p) := by
 obtain ⟨q, hq⟩ := h.box
 exact ⟨(hq.at_ 0 (by omega)).trans (congrArg some (by show Value.slice c.ca _ _ = _; rw [hca])), hq.at_ 4 (by omega), hq.at_ 5 (by omega)⟩
theorem DIo.row5 {B : Nat} {W : World} {b : Nat} {c : Dc} {P : Pr} {s : Fm} {og op : Nat} {l : List Ob} (h : DIo B W b c P s og op l) : W.rangeAt b 27 [Value.int .i64 s.e, .int .u64 s.v, .int .i64 s.f, .int .i64 og, .int .i64 op] := by
 obtain ⟨q, hq⟩ := h.box
 intro j v e
 match j, e with
 | 0, e => cases e; exact hq.at_ 27 (by omega)
 | 1, e => cases e; exact hq.at_ 28 (by omega)
 | 2, e => cases e; exact hq.at_ 29 (by omega)
 | 3, e => cases e; exact hq.at_ 30 (by omega)
 | 4, e => cases e; exact hq.at_ 31 (by omega)
 | j + 5, e => cases e
theorem dstepE (B : Nat) (W0 : World) (b : Nat) (c : Dc) (P : Pr) (s : Fm) (l : List Ob) (h : DIo B W0 b c P s s.g s.p l) (hE : s.e ≠ 0) :
   Calls Tryz.prog 9 #[.pointer (some ⟨b, 0, none⟩)] W0 fun x w' => x = .returned (s).outc ∧ DIo B w' b c P (s) (s).g (s).p l ∧ Below B W0 w' := by
 have he1 : ¬ s.e = 0 := hE
 have h2 := Hz.mk (h.new (List.toArray [Value.int .i64 0, .int .u64 0, .int .i64 0, .int .i64 0, .int .i64 0]) 38)
 clear h
 go_enter Tryz.func9, Tryz.ntmps9
 go_upto_region 1 with fail
 refine wp_world (fun W => DIo B W b c P s s.g s.p (boxOb W0.heap.size (List.toArray [Value.int .i64 0, .int .u64 0, .int .i64 0, .int .i64 0, .int .i64 0]) :: l) ∧ Below B W0 W) h2.out ?_
 rintro W ⟨h, hB⟩
 replace h := Hz.mk h
 replace hB := Hz.mk hB
 clear h2
 generalize W0.heap.size = kr at *
 have c27 : W.cell? ⟨b, 27, none⟩ = some (.int .i64 s.e) := h.out.row5 0 _ rfl
 have hro := Hz.mk h.out.row5
 have hA9 : At W kr (List.toArray [Value.int .i64 0, .int .u64 0, .int .i64 0, .int .i64 0, .int .i64 0]) := h.out.there (boxOb kr (List.toArray [Value.int .i64 0, .int .u64 0, .int .i64 0, .int .i64 0, .int .i64 0])) (.head _)
 have hth := Hz.mk (At.there hA9 0 5 (by decide))
 have hA10 := Hz.mk (At.setAll (cs := [Value.int .i64 0, .int .u64 0, .int .i64 0, .int .i64 0, .int .i64 0]) hA9 [Value.int .i64 s.e, .int .u64 s.v, .int .i64 s.f, .int .i64 s.g, .int .i64 s.p] rfl)
 have h10 := h.out.side (o' := boxOb kr (List.toArray [Value.int .i64 s.e, .int .u64 s.v, .int .i64 s.f, .int .i64 s.g, .int .i64 s.p])) hA10.out (kp_setsZ W kr [Value.int .i64 s.e, .int .u64 s.v, .int .i64 s.f, .int .i64 s.g, .int .i64 s.p] 0) (fun _ r => .inl r)
 replace hB := Hz.mk (hB.out.trans h10.2)
 replace h10 := Hz.mk h10.1
 clear hA9 h
 go_upto_region 2 with fail
 refine wp_region_lit ?_
 iterate 3 (refine wpList_plain rfl (fun K hK => ?_); go_simp; with_reducible refine hK _ _ ?_; clear hK K; (try simp only [xap]))
 refine wpList_plain rfl (fun K hK => ?_)
 refine wp_load_mid _ _ rfl _ 27 rfl [Value.int .i64 s.e, .int .u64 s.v, .int .i64 s.f, .int .i64 s.g, .int .i64 s.p] _ hro.out Tryz.underlying38 rfl (by kernel_rfl) (hK _ _ ?_)
 clear hK K
 try simp only [xap]
 refine wpList_plain rfl (fun K hK => ?_)
 refine wp_store_mid _ _ _ rfl _ _ (List.toArray [Value.int .i64 s.e, .int .u64 s.v, .int .i64 s.f, .int .i64 s.g, .int .i64 s.p]) rfl rfl hth.out (by kernel_rfl) (by simp [Value.oneCell']) (hK _ _ ?_)
 clear hK K
 try simp only [Act.put]
 generalize World.setCells _ _ _ _ = V11 at *
 have hrun := Hz.mk (run_loadVar_mid (P := Tryz.prog) V11 kr 0 38 [Value.int .i64 s.e, .int .u64 s.v, .int .i64 s.f, .int .i64 s.g, .int .i64 s.p] _ (fun j v q => by rw [Nat.zero_add]; exact (hA10.out.2.1 j).trans (by simpa using q)) Tryz.underlying38 rfl (by kernel_rfl))
 go_wp2_with fail
 refine bodyPost_ret (v := s.outc) ?_ rfl ⟨rfl, h10.out.drop, hB.out⟩
 exact results_rowZ Tryz.results9 _ _ rfl hrun.out
theorem dstepO (B : Nat) (W0 : World) (b : Nat) (c : Dc) (P : Pr) (s : Fm) (l : List Ob) (h : DIo B W0 b c P s s.g s.p l) (he : s.e = 0) (hg : s.g < P.code.length) (hpg : DPg B W0 c P) (hp : P.code[s.g].length ≤ s.p) :
   Calls Tryz.prog 9 #[.pointer (some ⟨b, 0, none⟩)] W0 fun x w' => x = .returned ({ s with e := 7, v := 0, f := 8 } : Fm).outc ∧ DIo B w' b c P ({ s with e := 7, v := 0, f := 8 } : Fm) ({ s with e := 7, v := 0, f := 8 } : Fm).g ({ s with e := 7, v := 0, f := 8 } : Fm).p l ∧ Below B W0 w' := by
 have hgi : (s.g : Int) < (P.code.length : Int) := by omega
 obtain ⟨cb, co, ra, rc, hca, hcb, hco⟩ := hpg.code s.g hg
 replace hco := Hz.mk hco
 replace hca := Hz.mk hca
 obtain ⟨N, hN⟩ : ∃ N, P.code[s.g].length = N := ⟨_, rfl⟩
 rw [hN] at hco hp
 have h2 := Hz.mk (h.new (List.toArray [Value.int .i64 0, .int .u64 0, .int .i64 0, .int .i64 0, .int .i64 0]) 38)
 clear h
 go_enter Tryz.func9, Tryz.ntmps9
 go_upto_region 1 with fail
 refine wp_world (fun W => DIo B W b c P s s.g s.p (boxOb W0.heap.size (List.toArray [Value.int .i64 0, .int .u64 0, .int .i64 0, .int .i64 0, .int .i64 0]) :: l) ∧ Below B W0 W) h2.out ?_
 rintro W ⟨h, hB⟩
 replace h := Hz.mk h
 replace hB := Hz.mk hB
 clear h2
 generalize W0.heap.size = kr at *
 have c27 : W.cell? ⟨b, 27, none⟩ = some (.int .i64 s.e) := h.out.row5 0 _ rfl
 have gd : Gr W W.drew := (Gr.refl W).drew
 go_upto_region 3 with fail
 clear c27
 replace hB := Hz.mk (hB.out.trans (gd.below.mono h.out.le))
 replace h := Hz.mk (h.out.gr gd.below)
 obtain ⟨c0, c4, c5⟩ := h.out.codes cb co hca.out
 obtain ⟨cw, hei⟩ := hco.out _ hB.out
 replace hei := Hz.mk hei
 clear gd
 refine wp_region_held_drew (S := (fun X => X.cell? ⟨b, 0, none⟩ = some (.slice (some ⟨cb, co, none⟩) P.code.length c.cc) ∧ X.cell? ⟨b, 4, none⟩ = some (.int .i64 s.g) ∧ X.cell? ⟨cb, co + s.g, none⟩ = some (.slice ra N rc))) (by kernel_rfl) (⟨c0, c4, cw⟩) (fun hHeld => ?_)
 refine xso 0 ?_ rfl ?_ (xso 1 ?_ rfl ?_ (xso 2 ?_ rfl ?_ (xso 3 ?_ rfl ?_ (xso 4 ?_ rfl ?_ (xso 5 ?_ rfl ?_ (xso 6 ?_ rfl ?_ (xso 7 ?_ rfl ?_ (xso 8 ?_ rfl ?_ (xso 9 ?_ rfl ?_ (xso 10 ?_ rfl ?_ (xso 11 ?_ rfl ?_ ?_)))))))))))
 iterate 12 (rotate_left; focus ((try simp only [xap]); intro w hSw; (try dsimp only at hSw); go_simp; first | done | with_reducible rfl))
 try simp only [xap]
 refine xdn ?_ _
 clear hHeld c0 c4 cw
 generalize W.drew = V at *
 have hpi : (N : Int) ≤ (s.p : Int) := by omega
 have hen := Hz.mk (h.out.onBox (s' := { s with e := 7, v := 0, f := 8 }) (og' := s.g) (op' := s.p) ⟨rfl, rfl, rfl, rfl, rfl⟩ (fun q hb => dend_any b _ 7 0 8 V hb))
 go_upto_region 6 with (refine hen.out.mono ?_; rintro r V9 ⟨rfl, h9, hB9⟩)
 replace hB := Hz.mk (hB.out.trans hB9)
 replace h := Hz.mk h9
 clear hen hB9 h9 c5 hei
 have hro := Hz.mk h.out.row5
 have hA9 : At V9 kr (List.toArray [Value.int .i64 0, .int .u64 0, .int .i64 0, .int .i64 0, .int .i64 0]) := h.out.there (boxOb kr (List.toArray [Value.int .i64 0, .int .u64 0, .int .i64 0, .int .i64 0, .int .i64 0])) (.head _)
 have hth := Hz.mk (At.there hA9 0 5 (by decide))
 have hA10 := Hz.mk (At.setAll (cs := [Value.int .i64 0, .int .u64 0, .int .i64 0, .int .i64 0, .int .i64 0]) hA9 [Value.int .i64 7, .int .u64 0, .int .i64 8, .int .i64 s.g, .int .i64 s.p] rfl)
 have h10 := h.out.side (o' := boxOb kr (List.toArray [Value.int .i64 7, .int .u64 0, .int .i64 8, .int .i64 s.g, .int .i64 s.p])) hA10.out (kp_setsZ V9 kr [Value.int .i64 7, .int .u64 0, .int .i64 8, .int .i64 s.g, .int .i64 s.p] 0) (fun _ r => .inl r)
 replace hB := Hz.mk (hB.out.trans h10.2)
 replace h10 := Hz.mk h10.1
 clear hA9 h
 go_upto_region 6 with fail
 refine wp_region_lit ?_
 iterate 3 (refine wpList_plain rfl (fun K hK => ?_); go_simp; with_reducible refine hK _ _ ?_; clear hK K; (try simp only [xap]))
 refine wpList_plain rfl (fun K hK => ?_)
 refine wp_load_mid _ _ rfl _ 27 rfl [Value.int .i64 7, .int .u64 0, .int .i64 8, .int .i64 s.g, .int .i64 s.p] _ hro.out Tryz.underlying38 rfl (by kernel_rfl) (hK _ _ ?_)
 clear hK K
 try simp only [xap]
 refine wpList_plain rfl (fun K hK => ?_)
 refine wp_store_mid _ _ _ rfl _ _ (List.toArray [Value.int .i64 7, .int .u64 0, .int .i64 8, .int .i64 s.g, .int .i64 s.p]) rfl rfl hth.out (by kernel_rfl) (by simp [Value.oneCell']) (hK _ _ ?_)
 clear hK K
 try simp only [Act.put]
 generalize World.setCells _ _ _ _ = V11 at *
 have hrun := Hz.mk (run_loadVar_mid (P := Tryz.prog) V11 kr 0 38 [Value.int .i64 7, .int .u64 0, .int .i64 8, .int .i64 s.g, .int .i64 s.p] _ (fun j v q => by rw [Nat.zero_add]; exact (hA10.out.2.1 j).trans (by simpa using q)) Tryz.underlying38 rfl (by kernel_rfl))
 go_wp2_with fail
 refine bodyPost_ret (v := ({ s with e := 7, v := 0, f := 8 } : Fm).outc) ?_ rfl ⟨rfl, h10.out.drop, hB.out⟩
 exact results_rowZ Tryz.results9 _ _ rfl hrun.out
end Z
end Go.Proofs.YtmedafcmfbhjkaaGreat


namespace Go.Proofs.YtmedafcmfbhjkaaGreat
namespace Z
open Go.RowKit
open T (Sep Ob Kp Mf FlIn boxOb)

theorem DIo.set5 {B : Nat} {W : World} {b : Nat} {c : Dc} {P : Pr} {s : Fm} {og op : Nat} {l : List Ob} (h : DIo B W b c P s og op l) (e0 : s.e = 0) (v0 : s.v = 0) (f0 : s.f = 0) : DIo B (W.setCells b 27 [Value.int .i64 0, .int .u64 0, .int .i64 0, .int .i64 s.g, .int .i64 s.p]) b c P s s.g s.p l ∧ Below B W (W.setCells b 27 [Value.int .i64 0, .int .u64 0, .int .i64 0, .int .i64 s.g, .int .i64 s.p]) ∧ W.there b 27 5 := by
 obtain ⟨⟨q, h1, ia, ic, e, h2⟩, le⟩ := h
 have hb : DBx W b (dxOf c P s q og op) := h1.ins (dbOb b (dxOf c P s q og op)) (by simp [dobs])
 have hk := kp_setsZ W b [Value.int .i64 0, .int .u64 0, .int .i64 0, .int .i64 s.g, .int .i64 s.p] 27
 have hb2 : DBx (W.setCells b 27 [Value.int .i64 0, .int .u64 0, .int .i64 0, .int .i64 s.g, .int .i64 s.p]) b (dxOf c P s q s.g s.p) := by
   have := hb.out5 0 0 0 s.g s.p
   unfold Dx.out5 dxOf at this
   unfold dxOf
   rw [e0, v0, f0] at *
   exact this
 have h3 := sep_change (l1 := []) (o := dbOb b (dxOf c P s q og op)) (o' := dbOb b (dxOf c P s q s.g s.p)) h1 hb2 hk (fun _ r => .inl r) le
 have bb := sep_below (l1 := []) (o := dbOb b (dxOf c P s q og op)) h1 hk le
 exact ⟨⟨⟨q, h3, ia, ic, e, h2.below bb⟩, Nat.le_trans le bb.size⟩, bb, fun j hj => ⟨by rw [hb.at_ (27 + j) (by omega)]; rfl, hb.fr _⟩⟩
end Z
end Go.Proofs.YtmedafcmfbhjkaaGreat


namespace Go.Proofs.YtmedafcmfbhjkaaGreat
set_option maxRecDepth 100000
set_option maxHeartbeats 40000000
namespace Z
open Go.RowKit
open T (Sep Ob Kp Mf FlIn boxOb)

theorem nw16 {j n : Nat} (h : j < n) (h7 : n ≤ 7) : IntKind.i64.wrap (1 + (j : Int)) = 1 + (j : Int) ∧ 1 + (j : Int) < 16 ∧ (0 : Int) ≤ 1 + (j : Int) ∧ (1 + (j : Int)).toNat = 1 + j := ⟨by simp [IntKind.wrap, IntKind.bits, IntKind.signed]; omega, by omega, by omega, by omega⟩
theorem nw17 {j n : Nat} (h : j < n) (h7 : n ≤ 7) : 1 + j < 16 := by omega
theorem dnew_ok (R : Rp) (ca ga : Option Addr) (cc gc : Nat) (mem : List UInt8) (gate : Nat) (sa : Option Addr) (n sc : Nat) (A : Nat → Int) (ia : Option Addr) (ic : Nat) (L : List Int) (w : World) (hP : RpIn w ca ga R) (is : R.Is) (ok : R.Ok mem.length) (hrl : ∀ r ∈ R.code, r.length ≤ 2000000) (hgl : gate < R.gates.length) (hna : (n : Int) = R.gates[gate].a) (B : Nat) (hB : B ≤ w.heap.size) (hpg : DPg B w ⟨ca, ga, cc, gc, .string (T.str mem)⟩ R.pr) (hLf : LfIn B w ia ic L) (l : List Ob) (hl : Sep B w l) (hsrc : n = 0 ∨ ∃ sb so, sa = some ⟨sb, so, none⟩ ∧ ∀ X, Below B w X → (∀ o ∈ l, o.In X) → ∀ j, j < n → X.cell? ⟨sb, so + j, none⟩ = some (.int .u64 (A j))) (st : Fm) (hst : start R.gates[gate].fg gate n A L mem = st) :
   Calls Tryz.prog 21 #[.agg #[.slice ca R.code.length cc, .slice ga R.gates.length gc, .string (T.str mem), .int .i64 R.dep], .int .i64 gate, .slice sa n sc, .slice ia L.length ic] w fun x w' => ∃ b, x = .returned (.tuple #[.pointer (some ⟨b, 0, none⟩), .int .i64 0]) ∧ DIo B w' b ⟨ca, ga, cc, gc, .string (T.str mem)⟩ R.pr st st.g st.p l ∧ Below B w w' := by
 obtain ⟨dRow, hDR⟩ := dRw
 have el1 : R.pr.code.length = R.code.length := by simp [Rp.pr]
 have el2 : R.pr.gates.length = R.gates.length := by simp [Rp.pr]
 have hgp : gate < R.pr.gates.length := by rw [el2]; exact hgl
 have eg : R.pr.gates[gate] = R.gates[gate].fg := by simp [Rp.pr]
 have okp := ok.pr is
 obtain ⟨gb, goff, hga, hgbB, hgr⟩ := hpg.gate gate hgp
 dsimp only at hga
 subst hga
 have hai := (okp.gate gate hgp (by rw [el1, ok.nc]; exact hgl)).2.1
 have han : R.pr.gates[gate].a = n := by rw [eg]; show R.gates[gate].a.toNat = n; omega
 have hn7 : n ≤ 7 := by omega
 have hms : (T.str mem).size ≤ 65536 := by rw [T.str_size]; exact ok.mm
 have hmay := Hz.mk (fun U (q : Gr w U) => dmay_any R ca (some ⟨gb, goff, none⟩) cc gc (T.str mem) U (hP.gr q) is hrl)
 have hok : Hz (R.Ok (T.str mem).size) := Hz.mk (by rw [T.str_size]; exact ok)
 have hi : (gate : Int) < (R.gates.length : Int) := Int.ofNat_lt.2 hgl
 have hi2 : ¬ (R.gates.length : Int) ≤ (gate : Int) := by omega
 have hnn : ((n : Int) != (n : Int)) = false := by simp
 obtain ⟨d19, hd19⟩ : ∃ z, R.gates[gate].fg = z := ⟨_, rfl⟩
 rw [eg, hd19] at hai han hgr
 rw [hd19] at hst
 have hR5 : w.cell? ⟨gb, goff + gate * 19 + 1, none⟩ = some (.int .i64 n) := by
   have := hgr w (Below.refl _ w) 1 (.int .i64 d19.a) rfl
   rw [han] at this
   exact this
 replace hna := Hz.mk hna
 replace hms := Hz.mk hms
 replace hst := Hz.mk hst
 replace hd19 := Hz.mk hd19
 replace eg := Hz.mk eg
 replace hgr := Hz.mk hgr
 replace hrl := Hz.mk hrl
 replace is := Hz.mk is
 replace ok := Hz.mk ok
 replace okp := Hz.mk okp
 replace el1 := Hz.mk el1
 replace el2 := Hz.mk el2
 replace hpg := Hz.mk hpg
 replace hsrc := Hz.mk hsrc
 replace hP := Hz.mk hP
 replace hl := Hz.mk hl
 replace hLf := Hz.mk hLf
 go_enter Tryz.func21, Tryz.ntmps21
 go_upto_region 1 with fail
 refine wp_world (fun W => At W w.heap.size (List.toArray [Value.slice ca R.code.length cc, .slice (some ⟨gb, goff, none⟩) R.gates.length gc, .string (T.str mem), .int .i64 R.dep]) ∧ Gr w W) ⟨At.new w _ _, (Gr.refl _).alloc _⟩ ?_
 rintro W ⟨hA, G⟩
 have hkw : Hz (w.heap.size ≤ w.heap.size) := Hz.mk (Nat.le_refl _)
 generalize hkp : w.heap.size = kp at hA hkw ⊢
 have d0 : W.cell? ⟨kp, 0, none⟩ = some (.slice ca R.code.length cc) := hA.2.1 0
 have d1 : W.cell? ⟨kp, 1, none⟩ = some (.slice (some ⟨gb, goff, none⟩) R.gates.length gc) := hA.2.1 1
 have d2 : W.cell? ⟨kp, 2, none⟩ = some (.string (T.str mem)) := hA.2.1 2
 have d3 : W.cell? ⟨kp, 3, none⟩ = some (.int .i64 R.dep) := hA.2.1 3
 have hmy := Hz.mk (hmay.out W G)
 go_wp2_with fail
 refine hmy.out.mono ?_
 rintro r V ⟨⟨vv, rfl, hb⟩, gV⟩
 obtain rfl : vv = true := hb.2 hok.out
 replace hA := hA.gr gV
 replace G := G.trans gV
 clear d0 d1 d2 d3 hmy hmay gV hb
 have d1 : V.cell? ⟨kp, 1, none⟩ = some (.slice (some ⟨gb, goff, none⟩) R.gates.length gc) := hA.2.1 1
 have d5 : V.cell? ⟨gb, goff + gate * 19 + 1, none⟩ = some (.int .i64 n) := (T.cell_of_block (G.below.block gb (Nat.lt_of_lt_of_le hgbB hB)) _).trans hR5
 replace hA := Hz.mk hA
 go_upto_region 6 with fail
 clear d1 d5 hR5
 have hlV : Sep B V (boxOb kp (List.toArray [Value.slice ca R.code.length cc, .slice (some ⟨gb, goff, none⟩) R.gates.length gc, .string (T.str mem), .int .i64 R.dep]) :: l) := hl.out.add _ hA.out (fun q r => by have : q = kp := r; omega) G.below hB
 have hBV : B ≤ V.heap.size := Nat.le_trans hB G.below.size
 have Gd : Gr V V.drew := (Gr.refl V).drew
 have hlD := hlV.gr Gd.below
 obtain ⟨hDI, hbD⟩ := dbegin dRow hDR hlD (show B ≤ V.drew.heap.size from hBV) ca (some ⟨gb, goff, none⟩) ia cc gc ic (T.str mem) R.pr L (hLf.out.below ((G.below.mono hB).trans (Gd.below.mono hBV))) 75
 rw [el1.out, el2.out] at hDI hbD
 have hDd : R.pr.dep = R.dep := rfl
 rw [hDd] at hDI hbD
 clear hDd
 replace hDI : DIo B ((V.drew.alloc (.cells dRow 5)).alloc (.cells (dmV ca (some ⟨gb, goff, none⟩) ia R.code.length cc R.gates.length gc L.length ic V.heap.size (T.str mem) R.dep).toArray 75)) (V.heap.size + 1) ⟨ca, some ⟨gb, goff, none⟩, cc, gc, .string (T.str mem)⟩ R.pr (zFm L (fun _ => 0)) 0 0 (boxOb kp (List.toArray [Value.slice ca R.code.length cc, .slice (some ⟨gb, goff, none⟩) R.gates.length gc, .string (T.str mem), .int .i64 R.dep]) :: l) := hDI
 have bq0 : Below V.heap.size V V.drew := Gd.below
 have bq1 : Below V.heap.size V (V.drew.alloc (.cells dRow 5)) := bq0.alloc bq0.size _
 have bq2 : Below V.heap.size V ((V.drew.alloc (.cells dRow 5)).alloc (.cells (dmV ca (some ⟨gb, goff, none⟩) ia R.code.length cc R.gates.length gc L.length ic V.heap.size (T.str mem) R.dep).toArray 75)) := bq1.alloc bq1.size _
 have KS : Hz (∀ U, Below V.heap.size V U → U.rangeAt kp 0 [Value.slice ca R.code.length cc, .slice (some ⟨gb, goff, none⟩) R.gates.length gc, .string (T.str mem), .int .i64 R.dep]) := Hz.mk (fun U q j v e => by rw [Nat.zero_add]; exact (T.cell_of_block (q.block kp hA.out.1) _).trans ((hA.out.2.1 j).trans (by simpa using e)))
 have mk1 := hDR.2 V.drew
 replace hDR := Hz.mk hDR
 replace hDI := Hz.mk hDI
 replace hlV := Hz.mk hlV
 replace hlD := Hz.mk hlD
 have hB2 := Hz.mk ((G.below.mono hB).trans (bq2.mono hBV))
 clear hbD
 refine wp_region_held_drew (S := (fun W => W.rangeAt kp 0 [Value.slice ca R.code.length cc, .slice (some ⟨gb, goff, none⟩) R.gates.length gc, .string (T.str mem), .int .i64 R.dep])) (by kernel_rfl) (KS.out _ bq0) (fun hHeld => ?_)
 refine xtk 0 rfl (yieldsIf_load_mid (by rfl) _ _ rfl _ _ rfl _ _ (fun _ h => h) Tryz.underlying25 rfl (by kernel_rfl)) ?_
 try simp only [xap]
 refine xso 2 ?_ rfl ?_ ?_
 rotate_left
 · intro w hSw; (try dsimp only at hSw); go_simp; first | done | with_reducible rfl
 try simp only [xap]
 refine xrd 1 rfl (fun K hK => ?_)
 go_simp
 clear hHeld
 refine hK.out _ _ (KS.out _ bq1) (fun hHeld => ?_)
 clear hK K
 try simp only [xap]
 refine xtk 3 rfl (yields_dm (by rfl) _ _ _ rfl ca (some ⟨gb, goff, none⟩) ia R.code.length cc R.gates.length gc L.length ic V.heap.size (T.str mem) R.dep (by rfl) (by rfl) (by rfl)) ?_
 try simp only [xap]
 refine xrd 4 rfl (fun K hK => ?_)
 go_simp
 clear hHeld
 refine hK.out _ _ (KS.out _ bq2) (fun hHeld => ?_)
 clear hK K
 try simp only [xap]
 refine xso 5 ?_ rfl ?_ ?_
 rotate_left
 · intro w hSw; (try dsimp only at hSw); go_simp; first | done | with_reducible rfl
 try simp only [xap]
 refine xdn ?_ _
 clear hHeld mk1
 go_upto_region 7 with fail
 refine wp_world (fun X => DIo B X (V.heap.size + 1) ⟨ca, some ⟨gb, goff, none⟩, cc, gc, .string (T.str mem)⟩ R.pr (zFm L (fun _ => 0)) 0 0 (boxOb kp (List.toArray [Value.slice ca R.code.length cc, .slice (some ⟨gb, goff, none⟩) R.gates.length gc, .string (T.str mem), .int .i64 R.dep]) :: l) ∧ Below B w X) ?_ ?_
 · exact ⟨hDI.out, hB2.out⟩
 clear hDI hB2
 rintro V2 ⟨hDI, hB2⟩
 replace hDI := Hz.mk hDI
 replace hB2 := Hz.mk hB2
 clear KS bq0 bq1 bq2 hlV hlD Gd
 generalize V.heap.size + 1 = b at *
 have gd : Gr V2 V2.drew := (Gr.refl V2).drew
 have hB3 := Hz.mk (hB2.out.trans (gd.below.mono hDI.out.le))
 have hD := hDI.out.gr gd.below
 clear gd hDI hB2
 obtain ⟨g, k9, x23, hcs, ⟨v0, hv0⟩, hly⟩ := hD.lay
 have xkp : V2.drew.cell? ⟨kp, 2, none⟩ = some (.string (T.str mem)) := (hD.there (boxOb kp (List.toArray [Value.slice ca R.code.length cc, .slice (some ⟨gb, goff, none⟩) R.gates.length gc, .string (T.str mem), .int .i64 R.dep])) (.head _)).2.1 2
 have em : ((T.str mem).data.toList.map fun x => Value.int .u8 (x.toNat : Int)) = mem.map fun x => Value.int .u8 (x.toNat : Int) := by simp [T.str]
 have hng : g ≠ b := fun q => by
   rw [q] at hv0
   obtain ⟨q2, hq⟩ := hD.box
   have := (hq.at_ 0 (by omega)).symm.trans hv0
   injection this with this
   cases this
 have hkg : g ≠ kp := fun q => by
   rw [q] at hv0
   have := ((hD.there (boxOb kp (List.toArray [Value.slice ca R.code.length cc, .slice (some ⟨gb, goff, none⟩) R.gates.length gc, .string (T.str mem), .int .i64 R.dep])) (.head _)).2.1 0).symm.trans hv0
   cases this
 have k7 : (V2.drew.setCells g 0 ((T.str mem).data.toList.map fun x => Value.int .u8 (x.toNat : Int))).cell? ⟨b, 23, none⟩ = some (.slice (some ⟨g, 0, none⟩) 65536 k9) ∧ (V2.drew.setCells g 0 ((T.str mem).data.toList.map fun x => Value.int .u8 (x.toNat : Int))).cell? ⟨kp, 2, none⟩ = some (.string (T.str mem)) := ⟨(T.cell_of_block ((kp_setsZ _ g _ 0).block b (by obtain ⟨q2, hq⟩ := hD.box; exact hq.lt) (fun e => hng e.symm)) _).trans x23, (T.cell_of_block ((kp_setsZ _ g _ 0).block kp (hD.there (boxOb kp (List.toArray [Value.slice ca R.code.length cc, .slice (some ⟨gb, goff, none⟩) R.gates.length gc, .string (T.str mem), .int .i64 R.dep])) (.head _)).1 (fun e => hkg e.symm)) _).trans xkp⟩
 have h7 := hly mem
 rw [← em] at h7
 replace h7 := Hz.mk h7
 replace hcs := Hz.mk hcs
 clear hly hD em hng hkg hv0
 refine wp_region_held_drew (S := (fun X => X.cell? ⟨b, 23, none⟩ = some (.slice (some ⟨g, 0, none⟩) 65536 k9) ∧ X.cell? ⟨kp, 2, none⟩ = some (.string (T.str mem)))) (by kernel_rfl) (⟨x23, xkp⟩) (fun hHeld => ?_)
 refine xso 0 ?_ rfl ?_ (xso 1 ?_ rfl ?_ (xso 2 ?_ rfl ?_ (xso 3 ?_ rfl ?_ (xso 4 ?_ rfl ?_ (xso 5 ?_ rfl ?_ ?_)))))
 iterate 6 (rotate_left; focus ((try simp only [xap]); intro w hSw; (try dsimp only at hSw); go_simp; first | done | with_reducible rfl))
 try simp only [xap]
 refine xrd 6 rfl (fun K hK => ?_)
 clear hHeld
 refine step_copy_string (by rfl) _ _ _ _ rfl 5 Tryz.underlying73 (fun _ => by kernel_rfl) g 0 65536 k9 (by rfl) (T.str mem) (by rfl) hms.out (fun j hj => by rw [Nat.zero_add]; exact (hcs.out j (Nat.lt_of_lt_of_le hj hms.out)).1) (fun j hj => by rw [Nat.zero_add]; exact (hcs.out j (Nat.lt_of_lt_of_le hj hms.out)).2) ?_
 refine hK.out _ _ k7 (fun hHeld => ?_)
 clear hK K
 try simp only [xap]
 refine xdn ?_ _
 generalize hV3 : V2.drew.setCells g 0 ((T.str mem).data.toList.map fun x => Value.int .u8 (x.toNat : Int)) = V3 at *
 clear hHeld x23 xkp k7 hcs hV3
 replace hB3 := Hz.mk (hB3.out.trans h7.out.2)
 have hD := h7.out.1
 clear h7
 have h8 := hD.new (List.toArray (regs (fun _ => 0))) 40
 replace hD := Hz.mk hD
 replace h8 := Hz.mk h8
 go_upto_region 10 with fail
 refine wp_world (fun X => DIo B X b ⟨ca, some ⟨gb, goff, none⟩, cc, gc, .string (T.str mem)⟩ R.pr { zFm L (fun _ => 0) with m := T.layB (fun _ => 0) 0 mem mem.length } 0 0 (boxOb V3.heap.size (List.toArray (regs (fun _ => 0))) :: boxOb kp (List.toArray [Value.slice ca R.code.length cc, .slice (some ⟨gb, goff, none⟩) R.gates.length gc, .string (T.str mem), .int .i64 R.dep]) :: l) ∧ Below B V3 X) h8.out ?_
 rintro V4 ⟨hD4, hb4⟩
 replace hB3 := Hz.mk (hB3.out.trans hb4)
 replace hD4 := Hz.mk hD4
 clear h8 hD hb4
 generalize V3.heap.size = kr at *
 replace han := Hz.mk han
 clear hai hnn hms hok hBV hi
 go_loopw [13] (fun x wr => ∃ j : Nat, x = .int .i64 j ∧ j ≤ n ∧ Hz (DIo B wr b ⟨ca, some ⟨gb, goff, none⟩, cc, gc, .string (T.str mem)⟩ R.pr { zFm L (fun _ => 0) with m := T.layB (fun _ => 0) 0 mem mem.length } 0 0 (boxOb kr (List.toArray (regs (entR zFg j A))) :: boxOb kp (List.toArray [Value.slice ca R.code.length cc, .slice (some ⟨gb, goff, none⟩) R.gates.length gc, .string (T.str mem), .int .i64 R.dep]) :: l)) ∧ Hz (Below B w wr)) (fun x _ => n - (intOf x).toNat)
 case atStart => exact ⟨0, rfl, Nat.zero_le _, Hz.mk (by rw [entR_zero]; exact hD4.out), hB3⟩
 case round =>
   clear hD4 hB3
   obtain ⟨j, rfl, hj, hD, hB3⟩ := hrel
   by_cases hjn : j < n
   · have hj1 : (j : Int) < (n : Int) := Int.ofNat_lt.2 hjn
     obtain ⟨sb, so, rfl, hsc⟩ : ∃ sb so, sa = some ⟨sb, so, none⟩ ∧ ∀ X, Below B w X → (∀ o ∈ l, o.In X) → ∀ j, j < n → X.cell? ⟨sb, so + j, none⟩ = some (.int .u64 (A j)) := by
       rcases hsrc.out with q | q
       · omega
       · exact q
     have cs : wr.cell? ⟨sb, so + j, none⟩ = some (.int .u64 (A j)) := hsc wr hB3.out (fun o ho => hD.out.there o (by simp [ho])) j hjn
     have hAk := hD.out.there (boxOb kr (List.toArray (regs (entR zFg j A)))) (.head _)
     have ck : wr.cell? ⟨kr, 1 + j, none⟩ = some (.int .u64 (entR zFg j A (1 + j))) := (hAk.2.1 (1 + j)).trans (by simpa using regs_at _ (1 + j) (nw17 hjn hn7))
     have fk : wr.frozen? ⟨kr, 1 + j, none⟩ = false := hAk.2.2 _
     have hlk : kr < wr.heap.size := hAk.1
     have hA2 := at_regs hAk (1 + j) (nw17 hjn hn7) (A j)
     have hs2 := hD.out.side (o' := boxOb kr (List.toArray (regs (entR zFg (j + 1) A)))) (by rw [entR_next, Nat.add_comm j 1]; exact hA2) (Kp.set (S := fun k => k = kr) wr ⟨kr, 1 + j, none⟩ (.int .u64 (A j)) rfl) (fun _ r => .inl r)
     obtain ⟨hwj, hj16, hj0, hjt⟩ := nw16 hjn hn7
     replace hs2 := Hz.mk hs2
     replace hA2 := Hz.mk hA2
     replace hAk := Hz.mk hAk
     replace hsc := Hz.mk hsc
     go_upto_region 12 with fail
     refine wp_region_lit ?_
     iterate 7 (refine wpList_plain rfl (fun K hK => ?_); go_simp; with_reducible refine hK _ _ ?_; clear hK K; (try simp only [xap]))
     refine wpList_plain rfl (fun K hK => ?_)
     go_simp
     with_reducible refine hK _ _ ?_
     clear hK K
     try simp only [Act.put]
     go_wp2_with fail
     refine ⟨⟨j + 1, ?_, hjn, Hz.mk hs2.out.1, Hz.mk (hB3.out.trans hs2.out.2)⟩, ?_⟩
     · first | rfl | rw [next_wZ hjn (by omega)] | go_num
     · first | exact next_mZ hjn | (rw [next_wZ hjn (by omega)]; exact next_mZ hjn)
   · have hj1 : ¬ (j : Int) < (n : Int) := fun q => hjn (Int.ofNat_lt.1 q)
     obtain rfl : j = n := by omega
     have hgr2 : wr.rangeAt gb (goff + gate * 19) R.pr.gates[gate].vals := by
       rw [eg.out, hd19.out]
       exact hgr.out wr hB3.out
     have hen := Hz.mk (denter B wr b ⟨ca, some ⟨gb, goff, none⟩, cc, gc, .string (T.str mem)⟩ R.pr { zFm L (fun _ => 0) with m := T.layB (fun _ => 0) 0 mem mem.length } 0 0 (boxOb kr (List.toArray (regs (entR zFg j A))) :: boxOb kp (List.toArray [Value.slice ca R.code.length cc, .slice (some ⟨gb, goff, none⟩) R.gates.length gc, .string (T.str mem), .int .i64 R.dep]) :: l) hD.out gate gb goff hgp rfl hgbB hgr2 (by rw [eg.out, hd19.out, han.out]; exact hn7) (entR zFg j A))
     have hrw := Hz.mk (fun (i : Nat) (v : Value) (q : (regs (entR zFg j A))[i]? = some v) => ((hD.out.there (boxOb kr (List.toArray (regs (entR zFg j A)))) (.head _)).2.1 i).trans (by simpa using q))
     obtain ⟨s1, hs1⟩ : ∃ s1 : Fm, s1 = { zFm L (fun _ => 0) with m := T.layB (fun _ => 0) 0 mem mem.length, r := entR R.pr.gates[gate] R.pr.gates[gate].a (fun i => entR zFg j A (i + 1)), g := gate, p := R.pr.gates[gate].e } := ⟨_, rfl⟩
     have hsst : Hz (s1 = st) := Hz.mk (by rw [hs1, eg.out, hd19.out, han.out, ent_args, ← hst.out]; unfold start zFm; rw [List.take_of_length_le ok.out.mm])
     go_upto_region 13 with fail
     refine wp_region_lit ?_
     iterate 2 (refine wpList_plain rfl (fun K hK => ?_); go_simp; with_reducible refine hK _ _ ?_; clear hK K; (try simp only [xap]))
     refine wpList_plain rfl (fun K hK => ?_)
     refine wp_load_mid _ _ rfl _ 0 rfl (regs (entR zFg j A)) _ (fun i v q => by rw [Nat.zero_add]; exact hrw.out i v q) Tryz.underlying40 rfl (by rw [regs_len]; kernel_rfl) (hK _ _ ?_)
     clear hK K
     try simp only [xap]
     refine wpList_plain rfl (fun K hK => ?_)
     go_simp
     (refine hen.out.mono ?_; rintro r V5 ⟨rfl, h5, hb5⟩)
     with_reducible refine hK _ _ ?_
     clear hK K
     try simp only [xap]

     replace hB3 := Hz.mk (hB3.out.trans hb5)
     replace h5 : DIo B V5 b ⟨ca, some ⟨gb, goff, none⟩, cc, gc, .string (T.str mem)⟩ R.pr s1 0 0 (boxOb kr (List.toArray (regs (entR zFg j A))) :: boxOb kp (List.toArray [Value.slice ca R.code.length cc, .slice (some ⟨gb, goff, none⟩) R.gates.length gc, .string (T.str mem), .int .i64 R.dep]) :: l) := by rw [hs1]; exact h5
     replace h5 := h5.drop.drop
     have e0 : s1.e = 0 := by rw [hs1]; rfl
     have v0 : s1.v = 0 := by rw [hs1]; rfl
     have f0 : s1.f = 0 := by rw [hs1]; rfl
     replace hs1 := Hz.mk hs1
     clear hen hrw hD hb5
     have gd : Gr V5 V5.drew := (Gr.refl V5).drew
     replace hB3 := Hz.mk (hB3.out.trans (gd.below.mono h5.le))
     replace h5 := h5.gr gd.below
     clear gd
     obtain ⟨h6, b6, t5⟩ := h5.set5 e0 v0 f0
     obtain ⟨d4, d5, _⟩ := h5.hand
     obtain ⟨f4, f5, _⟩ := h6.hand
     have hE5 := Hz.mk e0
     replace h5 := Hz.mk h5
     replace h6 := Hz.mk h6
     replace t5 := Hz.mk t5
     clear e0 v0 f0
     go_upto_region 14 with fail
     refine wp_region_held_drew (S := (fun X => X.cell? ⟨b, 4, none⟩ = some (.int .i64 s1.g) ∧ X.cell? ⟨b, 5, none⟩ = some (.int .i64 s1.p))) (by kernel_rfl) (⟨d4, d5⟩) (fun hHeld => ?_)
     generalize V5.drew = V6 at *
     refine xso 0 ?_ rfl ?_ (xso 1 ?_ rfl ?_ (xso 2 ?_ rfl ?_ (xso 3 ?_ rfl ?_ (xso 4 ?_ rfl ?_ (xso 5 ?_ rfl ?_ (xso 6 ?_ rfl ?_ (xso 7 ?_ rfl ?_ (xso 8 ?_ rfl ?_ (xso 9 ?_ rfl ?_ (xso 10 ?_ rfl ?_ (xso 11 ?_ rfl ?_ ?_)))))))))))
     iterate 12 (rotate_left; focus ((try simp only [xap]); intro w hSw; (try dsimp only at hSw); go_simp; first | done | with_reducible rfl))
     try simp only [xap]
     refine xrd 12 rfl (fun K hK => ?_)
     rw [if_pos (by rfl)]
     refine wp_store_mid _ _ _ rfl _ _ (List.toArray _) rfl rfl (t5.out) (by kernel_rfl) (by simp [Value.oneCell']) ?_
     refine hK.out _ _ (⟨f4, f5⟩) (fun hHeld => ?_)
     clear hK K
     try simp only [Act.put]
     refine xdn ?_ _
     clear hHeld d4 d5 f4 f5 h5 t5
     replace hB3 := Hz.mk (hB3.out.trans b6)
     generalize World.setCells _ _ _ _ = V12 at *
     go_wp2_with fail
     go_ret2
     refine ⟨b, rfl, ?_, hB3.out⟩
     rw [← hsst.out]
     exact h6.out
end Z
end Go.Proofs.YtmedafcmfbhjkaaGreat


namespace Go.Proofs.YtmedafcmfbhjkaaGreat
set_option maxRecDepth 100000
set_option maxHeartbeats 40000000
namespace Z
open Go.RowKit
open T (Sep Ob Kp Mf FlIn boxOb)

theorem make_rowY {t e : TypeId} {z : Value} {b : Nat} (ht : Tryz.prog.underlying t = some (.slice e)) (hi : (Tryz.prog.info? e).map (fun i => (i.zero, i.size, i.bytes)) = some (some z, 1, b)) (hz : z.cells = #[z]) (hb : b ≤ 64) (n : Nat) (hn : n ≤ 3000000) (w : World) :
   (Instr.makeSlice t (.int .i64 n) (.int .i64 n)).run Tryz.prog w = .ok (.slice (some ⟨w.heap.size, 0, none⟩) n n) (w.alloc (.cells (Array.replicate n z) e)) := by
 obtain ⟨i0, hi0, hz0, hz1, hz2⟩ := T.info_parts' hi
 have hbb : (i0.bytes : Int) * (n : Int) ≤ 281474976710656 := by
   rw [hz2]
   have : b * n ≤ 64 * 3000000 := Nat.mul_le_mul hb hn
   have h : ((b * n : Nat) : Int) ≤ 281474976710656 := by omega
   rwa [Int.natCast_mul] at h
 have h := run_make (P := Tryz.prog) w t e i0 z ht hi0 hz0 .i64 .i64 n n (by omega) (by omega) hbb (by omega)
 rw [hz1, hz, Nat.mul_one, Int.toNat_natCast, made_oneZ] at h
 exact h
theorem FRow.block {w w1 : World} {g n : Nat} {V : Nat → Value} (h : FRow w g n V) (hs : w.heap.size ≤ w1.heap.size) (hb : w1.heap[g]? = w.heap[g]?) : FRow w1 g n V :=
 ⟨Nat.lt_of_lt_of_le h.lt hs, fun j hj => (T.cell_of_block hb j).trans (h.at_ j hj), fun j => (T.frozen_of_block hb j).trans (h.fr j)⟩
theorem FRow.congr {w : World} {g n : Nat} {V U : Nat → Value} (h : FRow w g n V) (e : ∀ j, j < n → V j = U j) : FRow w g n U := ⟨h.lt, fun j hj => by rw [← e j hj]; exact h.at_ j hj, h.fr⟩
def wdF (L : List Int) (i : Nat) (j : Nat) : Value := if j < i then .int .u64 (L.getD j 77) else .int .u64 0
def wdA (L : List Int) (j : Nat) : Value := .int .u64 (L.getD j 77)
theorem wdF_next (L : List Int) (i : Nat) (v : Int) (hv : v = L.getD i 77) (j : Nat) : updF (wdF L i) i (.int .u64 v) j = wdF L (i + 1) j := by
 unfold updF wdF
 by_cases e : j = i
 · rw [if_pos e, if_pos (by omega), hv, e]
 · rw [if_neg e]
   by_cases h : j < i
   · rw [if_pos h, if_pos (by omega)]
   · rw [if_neg h, if_neg (by omega)]
theorem updF_two (V : Nat → Value) (i : Nat) (a b : Value) (j : Nat) : updF (updF V i a) i b j = updF V i b j := by
 unfold updF
 by_cases e : j = i
 · rw [if_pos e, if_pos e]
 · rw [if_neg e, if_neg e, if_neg e]
theorem below_set1 {B g j : Nat} {w W : World} (h : Below B w W) (hg : B ≤ g) (v : Value) : Below B w (W.setCell ⟨g, j, none⟩ v) := h.setCell hg v
theorem words_any (L : List Int) (sa : Option Addr) (sc : Nat) (w : World) (hL : WIn w sa L) (hl : L.length ≤ 2000000) :
   Calls Tryz.prog 19 #[.slice sa L.length sc] w fun x w' => ∃ k, x = .returned (.slice (some ⟨k, 0, none⟩) L.length (L.length + 8)) ∧ w.heap.size ≤ k ∧ FRow w' k (L.length + 8) (wdA L) ∧ Below w.heap.size w w' := by
 have w1 : wrap64 ((L.length : Int) + 8) = (L.length : Int) + 8 := by unfold wrap64; omega
 have w2 : IntKind.i64.wrap ((L.length : Int) + 8) = (L.length : Int) + 8 := by rw [IntKind.wrap_i64]; omega
 have u2 : (L.length : Int) ≤ (L.length : Int) + 8 := by omega
 have mk1 := make_rowY (t := 26) (e := 35) (z := .int .u64 0) (b := 8) Tryz.underlying26 (by kernel_rfl) rfl (by decide) (L.length + 8) (by omega) w
 rw [show ((L.length + 8 : Nat) : Int) = (L.length : Int) + 8 by omega] at mk1
 have hF0 := Hz.mk (FRow.new w (L.length + 8) (.int .u64 0) 35)
 have hB0 := Hz.mk ((Below.refl _ w).alloc (Nat.le_refl w.heap.size) (.cells (Array.replicate (L.length + 8) (.int .u64 0)) 35))
 have hn8 : L.length + 8 ≤ 3000000 := by omega
 replace hL := Hz.mk hL
 go_enter Tryz.func19, Tryz.ntmps19
 go_upto_region 3 with fail
 generalize hWW : w.alloc (.cells (Array.replicate (L.length + 8) (.int .u64 0)) 35) = W3 at *
 have hgw : w.heap.size ≤ w.heap.size := Nat.le_refl _
 generalize hg : w.heap.size = g at mk1 hF0 hgw ⊢
 replace hg := Hz.mk hg
 replace hWW := Hz.mk hWW
 clear mk1
 go_loopw [4] (fun x wr => ∃ i : Nat, x = .int .i64 i ∧ i ≤ L.length + 8 ∧ Hz (FRow wr g (L.length + 8) (wdF L i)) ∧ Hz (Below w.heap.size w wr)) (fun x _ => L.length + 8 - (intOf x).toNat)
 case atStart => exact ⟨0, rfl, Nat.zero_le _, Hz.mk (hF0.out.congr (fun j _ => by unfold wdF; rw [if_neg (by omega)])), hB0⟩
 case round =>
   clear hF0 hB0
   obtain ⟨i, rfl, hi, hF, hB⟩ := hrel
   by_cases hin : i < L.length + 8
   · have hi1 : (i : Int) < (L.length : Int) + 8 := by omega
     have c1 := hF.out.at_ i hin
     have f1 := hF.out.fr i
     have hgl := hF.out.lt
     have hF1 := hF.out.set i (.int .u64 77) hin
     have hB1 := below_set1 (g := g) (j := i) hB.out (by have := hg.out; omega) (.int .u64 77)
     by_cases hil : i < L.length
     · have hi2 : (i : Int) < (L.length : Int) := by omega
       obtain ⟨b, off, rfl, hbl, hcl⟩ := hL.out i hil
       have hbg : b ≠ g := by have := hg.out; omega
       have c2 : wr.cell? ⟨b, off + i, none⟩ = some (.int .u64 L[i]) := (T.cell_of_block (hB.out.block b hbl) _).trans hcl
       have c3 : (wr.setCell ⟨g, i, none⟩ (.int .u64 77)).cell? ⟨b, off + i, none⟩ = some (.int .u64 L[i]) := by rw [T.cso (fun e => absurd e.symm hbg)]; exact c2
       have c4 := hF1.at_ i hin
       have f4 := hF1.fr i
       have hF2 := hF1.set i (.int .u64 L[i]) hin
       have hB2 := below_set1 (g := g) (j := i) hB1 (by have := hg.out; omega) (.int .u64 L[i])
       have hfr := hF2.congr (fun j _ => (updF_two _ _ _ _ j).trans (wdF_next L i L[i] (by simp [hil]) j))
       have hbn := hB2
       have hgl2 := hF1.lt
       replace hF1 := Hz.mk hF1
       replace hF2 := Hz.mk hF2
       replace hB1 := Hz.mk hB1
       replace hB2 := Hz.mk hB2
       replace hfr := Hz.mk hfr
       replace hbn := Hz.mk hbn
       clear hcl
       go_wp2_with fail
       replace hfr := hfr.out
       replace hbn := hbn.out
       refine ⟨⟨i + 1, ?_, hin, Hz.mk hfr, Hz.mk hbn⟩, ?_⟩
       · first | rfl | rw [next_wZ hin (by omega)] | go_num
       · first | exact next_mZ hin | (rw [next_wZ hin (by omega)]; exact next_mZ hin)
     · have hi2 : ¬ (i : Int) < (L.length : Int) := by omega
       have hfr := hF1.congr (fun j _ => wdF_next L i 77 (by simp [List.getD_eq_getElem?_getD, List.getElem?_eq_none (by omega : L.length ≤ i)]) j)
       have hbn := hB1
       replace hF1 := Hz.mk hF1
       replace hB1 := Hz.mk hB1
       replace hfr := Hz.mk hfr
       replace hbn := Hz.mk hbn
       go_wp2_with fail
       replace hfr := hfr.out
       replace hbn := hbn.out
       refine ⟨⟨i + 1, ?_, hin, Hz.mk hfr, Hz.mk hbn⟩, ?_⟩
       · first | rfl | rw [next_wZ hin (by omega)] | go_num
       · first | exact next_mZ hin | (rw [next_wZ hin (by omega)]; exact next_mZ hin)
   · have hi1 : ¬ (i : Int) < (L.length : Int) + 8 := by omega
     obtain rfl : i = L.length + 8 := by omega
     go_wp2_with fail
     go_ret
     exact ⟨g, rfl, Nat.le_of_eq hg.out, hF.out.congr (fun j hj => by unfold wdF wdA; rw [if_pos hj]), hB.out⟩
def FrF (w : World) (g n i : Nat) (V : Nat → Value) : Prop := ∃ U, FRow w g n U ∧ ∀ j, i ≤ j → U j = V j
theorem FrF.set {w : World} {g n i : Nat} {V : Nat → Value} (h : FrF w g n i V) (v : Value) (hi : i < n) : FrF (w.setCell ⟨g, i, none⟩ v) g n (i + 1) V := by
 obtain ⟨U, h1, h2⟩ := h
 refine ⟨_, h1.set i v hi, fun j hj => ?_⟩
 unfold updF
 rw [if_neg (by omega)]
 exact h2 j (by omega)
theorem FrF.at {w : World} {g n i : Nat} {V : Nat → Value} (h : FrF w g n i V) (hi : i < n) : w.cell? ⟨g, i, none⟩ = some (V i) ∧ w.frozen? ⟨g, i, none⟩ = false ∧ g < w.heap.size := by
 obtain ⟨U, h1, h2⟩ := h
 exact ⟨by rw [← h2 i (Nat.le_refl i)]; exact h1.at_ i hi, h1.fr i, h1.lt⟩
theorem FrF.block {w w1 : World} {g n i : Nat} {V : Nat → Value} (h : FrF w g n i V) (hs : w.heap.size ≤ w1.heap.size) (hb : w1.heap[g]? = w.heap[g]?) : FrF w1 g n i V := by
 obtain ⟨U, h1, h2⟩ := h
 exact ⟨U, h1.block hs hb, h2⟩
end Z
end Go.Proofs.YtmedafcmfbhjkaaGreat


namespace Go.Proofs.YtmedafcmfbhjkaaGreat
namespace Z
open Go.RowKit
open T (Sep Ob Kp Mf FlIn boxOb)

def padA (L : List Ri) : Array Value := (rowV [] Ri.vals (L ++ List.replicate 8 riZ)).toArray
def padG (L : List Rg) : Array Value := (rowV [] Rg.vals (L ++ List.replicate 8 rgZ)).toArray
def rowF (C : List (List Ri)) (K : Nat → Nat) (k : Nat) (j : Nat) : Value := if j < k then .slice (some ⟨K j, 0, none⟩) (C.getD j []).length ((C.getD j []).length + 8) else .slice none 0 0
def rwE (C : List (List Ri)) (K : Nat → Nat) (j : Nat) : Value := .slice (some ⟨K j, 0, none⟩) ((C.getD j []).length + 8) ((C.getD j []).length + 8)
def rwsL (C : List (List Ri)) (K : Nat → Nat) (k : Nat) : List Value := (List.range k).map (rwE C K)
def updN (K : Nat → Nat) (k g : Nat) : Nat → Nat := fun j => if j = k then g else K j
theorem updN_at (K : Nat → Nat) (k g : Nat) : updN K k g k = g := by unfold updN; rw [if_pos rfl]
theorem updN_ne (K : Nat → Nat) {k g j : Nat} (h : j ≠ k) : updN K k g j = K j := by unfold updN; rw [if_neg h]
theorem rwsL_upd (C : List (List Ri)) (K : Nat → Nat) (k g : Nat) : rwsL C (updN K k g) k = rwsL C K k := by
 unfold rwsL
 refine List.map_congr_left (fun j hj => ?_)
 unfold rwE
 rw [updN_ne K (by have := List.mem_range.1 hj; omega)]
theorem rwsL_succ (C : List (List Ri)) (K : Nat → Nat) (k : Nat) : rwsL C K (k + 1) = rwsL C K k ++ [rwE C K k] := by
 unfold rwsL
 rw [List.range_succ, List.map_append]
 rfl
theorem made_copyY {α : Type} {vals : α → List Value} {k b : Nat} {Z : α} (hk : 0 < k) (hv : ∀ x, (vals x).length = k) (h1 : ∀ x, ∀ v ∈ vals x, v.oneCell' = true) {t e : TypeId} (ty : TypeId) (ht : Tryz.prog.underlying t = some (.slice e)) (hi : (Tryz.prog.info? e).map (fun i => (i.zero, i.size, i.bytes)) = some (some (.agg (vals Z).toArray), k, b)) (hs : (Tryz.prog.info? e).map (·.size) = some k)
   (L : List α) (a : Option Addr) (c : Nat) (w : World) (hL : T.EIn k vals w a L) (hb : b ≤ 256) (hn : L.length ≤ 2000000) :
   ∃ V9 V2, (Instr.makeSlice t (.int .i64 ((L.length : Int) + 8)) (.int .i64 ((L.length : Int) + 8))).run Tryz.prog w = .ok (.slice (some ⟨w.heap.size, 0, none⟩) (L.length + 8) (L.length + 8)) V9 ∧
   (Builtin.copy_ #[t, t] ty #[.slice (some ⟨w.heap.size, 0, none⟩) (L.length + 8) (L.length + 8), .slice a L.length c]).run Tryz.prog V9 = .ok (goInt L.length) V2 ∧
   At V2 w.heap.size (rowV [] vals (L ++ List.replicate 8 Z)).toArray ∧ Gr w V9 ∧ Gr w V2 ∧ w.heap.size < V2.heap.size ∧ w.heap.size < V9.heap.size := by
 have hb2 : b * (L.length + 8) ≤ 281474976710656 := Nat.le_trans (Nat.mul_le_mul_right _ hb) (by omega)
 have hm := make_k (vals := vals) (Z := Z) (t := t) (e := e) (k := k) (b := b) hk hv ht hi (L.length + 8) (by omega) hb2 w
 rw [show ((L.length + 8 : Nat) : Int) = (L.length : Int) + 8 by omega] at hm
 have g1 : Gr w (w.alloc (.cells (rowV [] vals (List.replicate (L.length + 8) Z)).toArray e)) := (Gr.refl w).alloc _
 have q := copy_rows (c := c) (k := k) hk hv h1 ty ht hs (At.new w (rowV [] vals (List.replicate (L.length + 8) Z)).toArray e) (L := L) (a := a) (ein_fin hv hL g1.below) (by simp)
 rw [List.length_replicate] at q
 refine ⟨_, _, hm, q.1, ?_, g1, g1.setCells _ (Nat.le_refl _) _ _, q.2.1, (At.new w (rowV [] vals (List.replicate (L.length + 8) Z)).toArray e).1⟩
 have := q.2
 rw [List.drop_replicate, show L.length + 8 - L.length = 8 by omega] at this
 exact this
structure Ln2 (W1 wr : World) (g : Nat) (C : List (List Ri)) (k : Nat) (K : Nat → Nat) : Prop where
 row : FRow wr g (C.length + 8) (rowF C K k)
 done : ∀ j, j < k → W1.heap.size ≤ K j ∧ K j ≠ g ∧ At wr (K j) (padA (C.getD j []))
 inj : ∀ i j, i < k → j < k → K i = K j → i = j
 bel : Below W1.heap.size W1 wr
 new : W1.heap.size ≤ g
theorem at_keep {S : Nat → Prop} {w w1 : World} {b : Nat} {cs : Array Value} (h : At w b cs) (q : Kp S w w1) (hn : ¬ S b) : At w1 b cs :=
 ⟨Nat.lt_of_lt_of_le h.1 q.size, fun j => (T.cell_of_block (q.block b h.1 hn) j).trans (h.2.1 j), fun j => (T.frozen_of_block (q.block b h.1 hn) j).trans (h.2.2 j)⟩
theorem FRow.keep {S : Nat → Prop} {w w1 : World} {g n : Nat} {V : Nat → Value} (h : FRow w g n V) (q : Kp S w w1) (hn : ¬ S g) : FRow w1 g n V := h.block q.size (q.block g h.lt hn)
theorem Ln2.keep {W1 wr W : World} {g k : Nat} {C : List (List Ri)} {K : Nat → Nat} {S : Nat → Prop} (h : Ln2 W1 wr g C k K) (q : Kp S wr W) (hg : ¬ S g) (hS : ∀ b, S b → W1.heap.size ≤ b) (hr : ∀ j, j < k → ¬ S (K j)) : Ln2 W1 W g C k K :=
 ⟨h.row.keep q hg, fun j hj => ⟨(h.done j hj).1, (h.done j hj).2.1, at_keep (h.done j hj).2.2 q (hr j hj)⟩, h.inj, h.bel.trans ⟨q.os, q.tape, q.output, q.size, fun b hb => q.block b (Nat.lt_of_lt_of_le hb h.bel.size) (fun r => by have := hS b r; omega)⟩, h.new⟩
theorem Ln2.gr {W1 wr W : World} {g k : Nat} {C : List (List Ri)} {K : Nat → Nat} (h : Ln2 W1 wr g C k K) (q : Gr wr W) : Ln2 W1 W g C k K :=
 h.keep (S := fun _ => False) (Kp.of_below q.below) (fun r => r) (fun _ r => r.elim) (fun _ _ r => r)
theorem Ln2.lay {W1 wr : World} {g k gk : Nat} {C : List (List Ri)} {K : Nat → Nat} (h : Ln2 W1 wr g C k K) (hk : k < C.length) (h1 : W1.heap.size ≤ gk) (h2 : gk ≠ g) (h3 : ∀ j, j < k → K j ≠ gk) (h4 : At wr gk (padA C[k])) : Ln2 W1 (wr.setCell ⟨g, k, none⟩ (.slice (some ⟨gk, 0, none⟩) C[k].length (C[k].length + 8))) g C (k + 1) (updN K k gk) := by
 have hkp : Kp (fun b => b = g) wr (wr.setCell ⟨g, k, none⟩ (.slice (some ⟨gk, 0, none⟩) C[k].length (C[k].length + 8))) := Kp.set (S := fun b => b = g) wr ⟨g, k, none⟩ _ rfl
 have eC : C.getD k [] = C[k] := by simp [hk]
 refine ⟨(h.row.set k _ (by omega)).congr (fun j hj => ?_), fun j hj => ?_, fun i j hi hj e => ?_, h.bel.trans ⟨hkp.os, hkp.tape, hkp.output, hkp.size, fun b hb => hkp.block b (Nat.lt_of_lt_of_le hb h.bel.size) (fun e => by have := h.new; omega)⟩, h.new⟩
 · unfold updF rowF
   by_cases e : j = k
   · subst e
     rw [if_pos rfl, if_pos (by omega), updN_at, eC]
   · rw [if_neg e]
     by_cases q : j < k
     · rw [if_pos q, if_pos (by omega), updN_ne K e]
     · rw [if_neg q, if_neg (by omega)]
 · by_cases e : j = k
   · subst e
     rw [updN_at, eC]
     exact ⟨h1, h2, at_keep h4 hkp h2⟩
   · rw [updN_ne K e]
     obtain ⟨e1, e2, e3⟩ := h.done j (by omega)
     exact ⟨e1, e2, at_keep e3 hkp e2⟩
 · by_cases ei : i = k
   · by_cases ej : j = k
     · omega
     · rw [ei, updN_at, updN_ne K ej] at e
       exact absurd e.symm (h3 j (by omega))
   · by_cases ej : j = k
     · rw [ej, updN_at, updN_ne K ei] at e
       exact absurd e (h3 i (by omega))
     · rw [updN_ne K ei, updN_ne K ej] at e
       exact h.inj i j (by omega) (by omega) e
def Apt2 (v : Value) (g k : Nat) (K : Nat → Nat) : Prop := ∀ b, v.ownBlock = some b → b ≠ g ∧ ∀ j, j < k → K j ≠ b
theorem Apt2.lay {v : Value} {g k gk : Nat} {K : Nat → Nat} (h : Apt2 v g k K) (hb : ∀ b, v.ownBlock = some b → b ≠ gk) : Apt2 v g (k + 1) (updN K k gk) := fun b hv => by
 obtain ⟨h1, h2⟩ := h b hv
 refine ⟨h1, fun j hj => ?_⟩
 by_cases ej : j = k
 · subst ej
   rw [updN_at]
   exact fun q => hb b hv q.symm
 · rw [updN_ne K ej]
   exact h2 j (by omega)
theorem Ln2.app {W1 wr W : World} {g k g9 c9 n9 : Nat} {C : List (List Ri)} {K : Nat → Nat} {v : Value} (h : Ln2 W1 wr g C k K) (ap : Apt2 v g k K) (q : wr.grownBy W v.ownBlock) (hv : ∀ b, v.ownBlock = some b → W1.heap.size ≤ b) (h9 : v.ownBlock = some g9 ∨ g9 = wr.heap.size) : Ln2 W1 W g C k K ∧ Apt2 (.slice (some ⟨g9, 0, none⟩) n9 c9) g k K := by
 refine ⟨h.keep (kp_grown q) (fun r => (ap g r).1 rfl) hv (fun j hj r => (ap (K j) r).2 j hj rfl), fun b hb => ?_⟩
 have e9 : g9 = b := by simpa [Value.ownBlock] using hb
 subst e9
 rcases h9 with r | r
 · exact ap _ r
 · subst r
   refine ⟨fun e => ?_, fun j hj e => ?_⟩
   · have := h.row.lt; omega
   · have := (h.done j hj).2.2.1; omega
structure LnA (lo hi : Nat) (W : World) (kc kg : Nat) (K : Nat → Nat) (rv : Value) (R : Rp) : Prop where
 row : FRow W kc (R.code.length + 8) (rowF R.code K R.code.length)
 done : ∀ j, j < R.code.length → (lo ≤ K j ∧ K j < hi) ∧ K j ≠ kc ∧ K j ≠ kg ∧ At W (K j) (padA (R.code.getD j []))
 inj : ∀ i j, i < R.code.length → j < R.code.length → K i = K j → i = j
 own : W.ownsRow lo 53 1 rv R.code.length (rwsL R.code K R.code.length)
 ap : ∀ b, rv.ownBlock = some b → b < hi ∧ b ≠ kc ∧ b ≠ kg ∧ ∀ j, j < R.code.length → K j ≠ b
 gates : At W kg (padG R.gates)
 kc_ : lo ≤ kc ∧ kc < hi
 kg_ : lo ≤ kg ∧ kg < hi
 ne : kc ≠ kg
theorem LnA.keep {lo hi : Nat} {W W' : World} {kc kg : Nat} {K : Nat → Nat} {rv : Value} {R : Rp} {S : Nat → Prop} (h : LnA lo hi W kc kg K rv R) (q : Kp S W W') (hS : ∀ k, lo ≤ k → k < hi → ¬ S k) : LnA lo hi W' kc kg K rv R :=
 ⟨h.row.keep q (hS _ h.kc_.1 h.kc_.2), fun j hj => ⟨(h.done j hj).1, (h.done j hj).2.1, (h.done j hj).2.2.1, at_keep (h.done j hj).2.2.2 q (hS _ (h.done j hj).1.1 (h.done j hj).1.2)⟩, h.inj, own_keep h.own q (fun k r => hS k ((h.own.lt k r).1) ((h.ap k r).1)), h.ap, at_keep h.gates q (hS _ h.kg_.1 h.kg_.2), h.kc_, h.kg_, h.ne⟩
theorem ln_fin {w W V2 V5 V6 : World} {g kg : Nat} {R : Rp} {K : Nat → Nat} {v : Value} (h : Ln2 W V2 g R.code R.code.length K) (ho : V2.ownsRow W.heap.size 53 1 v R.code.length (rwsL R.code K R.code.length)) (ap : Apt2 v g R.code.length K) (hE : At V2 kg (padG R.gates)) (k1 : Kp (fun b => b = w.heap.size) V2 V5) (k2 : Kp (fun b => b = w.heap.size + 1) V5 V6) (hs : W.heap.size = w.heap.size + 1 + 1) (hg1 : W.heap.size ≤ kg) (hg2 : kg ≠ g) (hg3 : ∀ j, j < R.code.length → K j ≠ kg) (hg4 : ∀ b, v.ownBlock = some b → b ≠ kg) : LnA w.heap.size V6.heap.size V6 g kg K v R := by
 have hk : Kp (fun b => b = w.heap.size ∨ b = w.heap.size + 1) V2 V6 := (Kp.mono k1 (fun _ r => .inl (.inl r))).trans (Kp.mono k2 (fun _ r => .inl (.inr r))) (fun _ r => .inl r)
 have hnew := h.new
 have hz := hk.size
 refine ⟨h.row.keep hk (by omega), fun j hj => ?_, h.inj, own_monoZ (own_keep ho hk (fun k r => by have := (ho.lt k r).1; omega)) (by omega), fun b r => ?_, at_keep hE hk (by omega), ⟨by omega, by have := h.row.lt; omega⟩, ⟨by omega, by have := hE.1; omega⟩, fun e => hg2 e.symm⟩
 · obtain ⟨e1, e2, e3⟩ := h.done j hj
   exact ⟨⟨by omega, by have := e3.1; omega⟩, e2, hg3 j hj, at_keep e3 hk (by omega)⟩
 · exact ⟨by have := (ho.lt b r).2; omega, (ap b r).1, hg4 b r, (ap b r).2⟩
end Z
end Go.Proofs.YtmedafcmfbhjkaaGreat
