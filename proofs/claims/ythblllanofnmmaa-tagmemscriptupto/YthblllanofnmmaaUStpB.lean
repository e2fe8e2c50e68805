import Derived.Test.YthblllanofnmmaaUScr
import Derived.Test.YthblllanofnmmaaTOps
import Derived.Deep.RegionHeld3
import Derived.BigFrame
/-
  Stage 6, TagmemScript: a step on a pair: LoadCap, StoreCap.
-/
namespace Go.Proofs.Ythblllanofnmmaa
namespace U
open Go.RowKit
open B
open T (Sep Ob Kp Mf TgIn DIn Rel Cp Vl UOwn tgOb boxOb)

set_option maxRecDepth 100000 in
set_option maxHeartbeats 8000000 in
theorem step3 (B kb K a d : Nat) (b : Nat → UInt8) (t : Nat → Option Cp) (g : Nat → Bool) (c : Nat → Cp) (l : List Ob) (x : T.Po) (w : World) (h : Ps B w kb K a d b b t g c l) (hr : Rel t g c) (ho : x.Ok) (_hK : K + 2 ≤ 1048575) (hk : x.k = 3) :
    Calls Try.prog 9 #[.agg #[.pointer (some ⟨a, 0, none⟩), .pointer (some ⟨d, 0, none⟩)], .agg #[.int .i64 x.m, .int .i64 x.k, .int .u64 x.a, .int .u64 x.z, .int .u64 x.n, .bool x.v.g, .int .u64 x.v.n, .int .u64 x.v.c.b, .int .u64 x.v.c.e, .int .u64 x.v.c.c, .int .u8 x.v.c.p, .int .i64 x.v.c.s], .pointer (some ⟨kb, 0, none⟩)] w fun r w' => r = .returned (.bool true) ∧ ∃ K' b' t' g' c', Ps B w' kb K' a d b' b' t' g' c' l ∧ Rel t' g' c' ∧ K' ≤ K + 2 ∧ Below B w w' := by
  obtain ⟨m, k, ad, z, n, v⟩ := x
  have hra : ad < 18446744073709551616 := ho.ra
  have hrz : z < 18446744073709551616 := ho.rz
  have hrn : n < 18446744073709551616 := ho.rn
  have hrv : v.Ok := ho.rv
  dsimp only at *
  clear ho
  obtain rfl : k = 3 := hk
  have h2 := Hd.mk (h.two #[.pointer (some ⟨a, 0, none⟩), .pointer (some ⟨d, 0, none⟩)] #[.int .i64 m, .int .i64 3, .int .u64 ad, .int .u64 z, .int .u64 n, .bool v.g, .int .u64 v.n, .int .u64 v.c.b, .int .u64 v.c.e, .int .u64 v.c.c, .int .u8 v.c.p, .int .i64 v.c.s] 35 49)
  have hle := h.le
  replace h := Hd.mk h
  replace hr := Hd.mk hr
  replace hrv := Hd.mk hrv
  go_enter Try.func9, Try.ntmps9
  go_upto_region 1 with fail
  refine wp_world (fun W => Ps B W kb K a d b b t g c (boxOb (w.heap.size + 1) #[.int .i64 m, .int .i64 3, .int .u64 ad, .int .u64 z, .int .u64 n, .bool v.g, .int .u64 v.n, .int .u64 v.c.b, .int .u64 v.c.e, .int .u64 v.c.c, .int .u8 v.c.p, .int .i64 v.c.s] :: boxOb w.heap.size #[.pointer (some ⟨a, 0, none⟩), .pointer (some ⟨d, 0, none⟩)] :: l) ∧ Below w.heap.size w W) h2.out ?_
  rintro W0 ⟨hP, hB⟩
  replace hP := Hd.mk hP
  replace hB : Hd (Below B w W0) := Hd.mk (hB.mono hle)
  clear h2 h
  generalize hko : w.heap.size + 1 = ko at *
  generalize hkp : w.heap.size = kp at *
  clear hko
  have AO := hP.out.there (boxOb ko #[.int .i64 m, .int .i64 3, .int .u64 ad, .int .u64 z, .int .u64 n, .bool v.g, .int .u64 v.n, .int .u64 v.c.b, .int .u64 v.c.e, .int .u64 v.c.c, .int .u8 v.c.p, .int .i64 v.c.s]) (.head _)
  have AP := hP.out.there (boxOb kp #[.pointer (some ⟨a, 0, none⟩), .pointer (some ⟨d, 0, none⟩)]) (.tail _ (.head _))
  have o1 : W0.cell? ⟨ko, 1, none⟩ = some (.int .i64 3) := AO.2.1 1
  replace AO := Hd.mk AO
  replace AP := Hd.mk AP
  go_upto_region 10 with fail
  clear AO AP o1
  have c1 := fun W (q : Ps B W kb K a d b b t g c (boxOb ko #[.int .i64 m, .int .i64 3, .int .u64 ad, .int .u64 z, .int .u64 n, .bool v.g, .int .u64 v.n, .int .u64 v.c.b, .int .u64 v.c.e, .int .u64 v.c.c, .int .u8 v.c.p, .int .i64 v.c.s] :: boxOb kp #[.pointer (some ⟨a, 0, none⟩), .pointer (some ⟨d, 0, none⟩)] :: l)) => q.readX (fun X hX => T.tgLoadCap_any X a ad b t W hX hra)
  have c2 := fun W l' (q : Ps B W kb K a d b b t g c l') => q.readD (fun D hD => T.dLoadCap_any D d ad b g c W hD)
  simp only [T.dlV_eq hr.out] at c2
  generalize T.lcV b t ad = vv at *
  generalize T.lcE ad = E at *
  unfold T.Vl.agg at c1 c2
  replace c1 := Hd.mk c1
  replace c2 := Hd.mk c2
  have AO := hP.out.there (boxOb ko #[.int .i64 m, .int .i64 3, .int .u64 ad, .int .u64 z, .int .u64 n, .bool v.g, .int .u64 v.n, .int .u64 v.c.b, .int .u64 v.c.e, .int .u64 v.c.c, .int .u8 v.c.p, .int .i64 v.c.s]) (.head _)
  have AP := hP.out.there (boxOb kp #[.pointer (some ⟨a, 0, none⟩), .pointer (some ⟨d, 0, none⟩)]) (.tail _ (.head _))
  have o2 : W0.cell? ⟨ko, 2, none⟩ = some (.int .u64 ad) := AO.2.1 2
  have p0 : W0.cell? ⟨kp, 0, none⟩ = some (.pointer (some ⟨a, 0, none⟩)) := AP.2.1 0
  replace AO := Hd.mk AO
  replace AP := Hd.mk AP
  go_wp2_with fail
  refine (c1.out _ hP.out).mono ?_
  rintro r W1 ⟨rfl, hP', hB'⟩
  clear AO AP o2 p0
  replace hB : Hd (Below B w W1) := Hd.mk (hB.out.trans hB')
  clear hB' hP
  have hP := Hd.mk hP'
  clear hP'
  go_upto_region 11 with fail
  have hb2 := Hd.mk (hP.out.add (W' := W1.alloc (.cells #[.bool vv.g, .int .u64 vv.n, .int .u64 vv.c.b, .int .u64 vv.c.e, .int .u64 vv.c.c, .int .u8 vv.c.p, .int .i64 vv.c.s] 47)) (boxOb W1.heap.size #[.bool vv.g, .int .u64 vv.n, .int .u64 vv.c.b, .int .u64 vv.c.e, .int .u64 vv.c.c, .int .u8 vv.c.p, .int .i64 vv.c.s]) (At.new W1 _ _) (fun k q => by have : k = W1.heap.size := q; omega) ((Below.refl _ W1).alloc (Nat.le_refl _) _))
  have hsz := hP.out.le
  refine wp_world (fun W => Ps B W kb K a d b b t g c (boxOb W1.heap.size #[.bool vv.g, .int .u64 vv.n, .int .u64 vv.c.b, .int .u64 vv.c.e, .int .u64 vv.c.c, .int .u8 vv.c.p, .int .i64 vv.c.s] :: boxOb ko #[.int .i64 m, .int .i64 3, .int .u64 ad, .int .u64 z, .int .u64 n, .bool v.g, .int .u64 v.n, .int .u64 v.c.b, .int .u64 v.c.e, .int .u64 v.c.c, .int .u8 v.c.p, .int .i64 v.c.s] :: boxOb kp #[.pointer (some ⟨a, 0, none⟩), .pointer (some ⟨d, 0, none⟩)] :: l) ∧ Below W1.heap.size W1 W) ⟨hb2.out, (Below.refl _ W1).alloc (Nat.le_refl _) _⟩ ?_
  rintro W2 ⟨hP', hB'⟩
  replace hB : Hd (Below B w W2) := Hd.mk (hB.out.trans (hB'.mono hsz))
  clear hB' hP hb2 hsz
  have hP := Hd.mk hP'
  clear hP'
  generalize W1.heap.size = kv at *
  have AO := hP.out.there (boxOb ko #[.int .i64 m, .int .i64 3, .int .u64 ad, .int .u64 z, .int .u64 n, .bool v.g, .int .u64 v.n, .int .u64 v.c.b, .int .u64 v.c.e, .int .u64 v.c.c, .int .u8 v.c.p, .int .i64 v.c.s]) (.tail _ (.head _))
  have AP := hP.out.there (boxOb kp #[.pointer (some ⟨a, 0, none⟩), .pointer (some ⟨d, 0, none⟩)]) (.tail _ (.tail _ (.head _)))
  have o2 : W2.cell? ⟨ko, 2, none⟩ = some (.int .u64 ad) := AO.2.1 2
  have p1 : W2.cell? ⟨kp, 1, none⟩ = some (.pointer (some ⟨d, 0, none⟩)) := AP.2.1 1
  replace AO := Hd.mk AO
  replace AP := Hd.mk AP
  go_wp2_with fail
  refine (c2.out _ _ hP.out).mono ?_
  rintro r W3 ⟨rfl, hP', hB'⟩
  clear AO AP o2 p1
  replace hB : Hd (Below B w W3) := Hd.mk (hB.out.trans hB')
  clear hB' hP
  have hP := Hd.mk hP'
  clear hP'
  go_upto_region 12 with fail
  have hb2 := Hd.mk (hP.out.add (W' := W3.alloc (.cells #[.bool vv.g, .int .u64 vv.n, .int .u64 vv.c.b, .int .u64 vv.c.e, .int .u64 vv.c.c, .int .u8 vv.c.p, .int .i64 vv.c.s] 47)) (boxOb W3.heap.size #[.bool vv.g, .int .u64 vv.n, .int .u64 vv.c.b, .int .u64 vv.c.e, .int .u64 vv.c.c, .int .u8 vv.c.p, .int .i64 vv.c.s]) (At.new W3 _ _) (fun k q => by have : k = W3.heap.size := q; omega) ((Below.refl _ W3).alloc (Nat.le_refl _) _))
  have hsz := hP.out.le
  refine wp_world (fun W => Ps B W kb K a d b b t g c (boxOb W3.heap.size #[.bool vv.g, .int .u64 vv.n, .int .u64 vv.c.b, .int .u64 vv.c.e, .int .u64 vv.c.c, .int .u8 vv.c.p, .int .i64 vv.c.s] :: boxOb kv #[.bool vv.g, .int .u64 vv.n, .int .u64 vv.c.b, .int .u64 vv.c.e, .int .u64 vv.c.c, .int .u8 vv.c.p, .int .i64 vv.c.s] :: boxOb ko #[.int .i64 m, .int .i64 3, .int .u64 ad, .int .u64 z, .int .u64 n, .bool v.g, .int .u64 v.n, .int .u64 v.c.b, .int .u64 v.c.e, .int .u64 v.c.c, .int .u8 v.c.p, .int .i64 v.c.s] :: boxOb kp #[.pointer (some ⟨a, 0, none⟩), .pointer (some ⟨d, 0, none⟩)] :: l) ∧ Below W3.heap.size W3 W) ⟨hb2.out, (Below.refl _ W3).alloc (Nat.le_refl _) _⟩ ?_
  rintro W4 ⟨hP', hB'⟩
  replace hB : Hd (Below B w W4) := Hd.mk (hB.out.trans (hB'.mono hsz))
  clear hB' hP hb2 hsz
  have hP := Hd.mk hP'
  clear hP'
  generalize W3.heap.size = kv2 at *
  have A1 := hP.out.there (boxOb kv2 #[.bool vv.g, .int .u64 vv.n, .int .u64 vv.c.b, .int .u64 vv.c.e, .int .u64 vv.c.c, .int .u8 vv.c.p, .int .i64 vv.c.s]) (.head _)
  have A2 := hP.out.there (boxOb kv #[.bool vv.g, .int .u64 vv.n, .int .u64 vv.c.b, .int .u64 vv.c.e, .int .u64 vv.c.c, .int .u8 vv.c.p, .int .i64 vv.c.s]) (.tail _ (.head _))
  have s0 : W4.cell? ⟨kv2, 0, none⟩ = some (.bool vv.g) := A1.2.1 0
  have r0 : W4.cell? ⟨kv, 0, none⟩ = some (.bool vv.g) := A2.2.1 0
  have s1 : W4.cell? ⟨kv2, 1, none⟩ = some (.int .u64 vv.n) := A1.2.1 1
  have r1 : W4.cell? ⟨kv, 1, none⟩ = some (.int .u64 vv.n) := A2.2.1 1
  have s2 : W4.cell? ⟨kv2, 2, none⟩ = some (.int .u64 vv.c.b) := A1.2.1 2
  have r2 : W4.cell? ⟨kv, 2, none⟩ = some (.int .u64 vv.c.b) := A2.2.1 2
  have s3 : W4.cell? ⟨kv2, 3, none⟩ = some (.int .u64 vv.c.e) := A1.2.1 3
  have r3 : W4.cell? ⟨kv, 3, none⟩ = some (.int .u64 vv.c.e) := A2.2.1 3
  have s4 : W4.cell? ⟨kv2, 4, none⟩ = some (.int .u64 vv.c.c) := A1.2.1 4
  have r4 : W4.cell? ⟨kv, 4, none⟩ = some (.int .u64 vv.c.c) := A2.2.1 4
  have s5 : W4.cell? ⟨kv2, 5, none⟩ = some (.int .u8 vv.c.p) := A1.2.1 5
  have r5 : W4.cell? ⟨kv, 5, none⟩ = some (.int .u8 vv.c.p) := A2.2.1 5
  have s6 : W4.cell? ⟨kv2, 6, none⟩ = some (.int .i64 vv.c.s) := A1.2.1 6
  have r6 : W4.cell? ⟨kv, 6, none⟩ = some (.int .i64 vv.c.s) := A2.2.1 6
  replace A1 := Hd.mk A1
  replace A2 := Hd.mk A2
  go_wp2_with fail
  go_ret
  exact ⟨rfl, K, b, t, g, c, hP.out.drop.drop.drop.drop, hr.out, by omega, hB.out⟩
set_option maxRecDepth 100000 in
set_option maxHeartbeats 8000000 in
theorem step4 (B kb K a d : Nat) (b : Nat → UInt8) (t : Nat → Option Cp) (g : Nat → Bool) (c : Nat → Cp) (l : List Ob) (x : T.Po) (w : World) (h : Ps B w kb K a d b b t g c l) (hr : Rel t g c) (ho : x.Ok) (_hK : K + 2 ≤ 1048575) (hk : x.k = 4) :
    Calls Try.prog 9 #[.agg #[.pointer (some ⟨a, 0, none⟩), .pointer (some ⟨d, 0, none⟩)], .agg #[.int .i64 x.m, .int .i64 x.k, .int .u64 x.a, .int .u64 x.z, .int .u64 x.n, .bool x.v.g, .int .u64 x.v.n, .int .u64 x.v.c.b, .int .u64 x.v.c.e, .int .u64 x.v.c.c, .int .u8 x.v.c.p, .int .i64 x.v.c.s], .pointer (some ⟨kb, 0, none⟩)] w fun r w' => r = .returned (.bool true) ∧ ∃ K' b' t' g' c', Ps B w' kb K' a d b' b' t' g' c' l ∧ Rel t' g' c' ∧ K' ≤ K + 2 ∧ Below B w w' := by
  obtain ⟨m, k, ad, z, n, v⟩ := x
  have hra : ad < 18446744073709551616 := ho.ra
  have hrz : z < 18446744073709551616 := ho.rz
  have hrn : n < 18446744073709551616 := ho.rn
  have hrv : v.Ok := ho.rv
  dsimp only at *
  clear ho
  obtain rfl : k = 4 := hk
  have h2 := Hd.mk (h.two #[.pointer (some ⟨a, 0, none⟩), .pointer (some ⟨d, 0, none⟩)] #[.int .i64 m, .int .i64 4, .int .u64 ad, .int .u64 z, .int .u64 n, .bool v.g, .int .u64 v.n, .int .u64 v.c.b, .int .u64 v.c.e, .int .u64 v.c.c, .int .u8 v.c.p, .int .i64 v.c.s] 35 49)
  have hle := h.le
  replace h := Hd.mk h
  replace hr := Hd.mk hr
  replace hrv := Hd.mk hrv
  go_enter Try.func9, Try.ntmps9
  go_upto_region 1 with fail
  refine wp_world (fun W => Ps B W kb K a d b b t g c (boxOb (w.heap.size + 1) #[.int .i64 m, .int .i64 4, .int .u64 ad, .int .u64 z, .int .u64 n, .bool v.g, .int .u64 v.n, .int .u64 v.c.b, .int .u64 v.c.e, .int .u64 v.c.c, .int .u8 v.c.p, .int .i64 v.c.s] :: boxOb w.heap.size #[.pointer (some ⟨a, 0, none⟩), .pointer (some ⟨d, 0, none⟩)] :: l) ∧ Below w.heap.size w W) h2.out ?_
  rintro W0 ⟨hP, hB⟩
  replace hP := Hd.mk hP
  replace hB : Hd (Below B w W0) := Hd.mk (hB.mono hle)
  clear h2 h
  generalize hko : w.heap.size + 1 = ko at *
  generalize hkp : w.heap.size = kp at *
  clear hko
  have AO := hP.out.there (boxOb ko #[.int .i64 m, .int .i64 4, .int .u64 ad, .int .u64 z, .int .u64 n, .bool v.g, .int .u64 v.n, .int .u64 v.c.b, .int .u64 v.c.e, .int .u64 v.c.c, .int .u8 v.c.p, .int .i64 v.c.s]) (.head _)
  have AP := hP.out.there (boxOb kp #[.pointer (some ⟨a, 0, none⟩), .pointer (some ⟨d, 0, none⟩)]) (.tail _ (.head _))
  have o1 : W0.cell? ⟨ko, 1, none⟩ = some (.int .i64 4) := AO.2.1 1
  replace AO := Hd.mk AO
  replace AP := Hd.mk AP
  go_upto_region 14 with fail
  clear AO AP o1
  have hcc : 0 ≤ v.c.c ∧ v.c.c < 18446744073709551616 := ⟨hrv.out.rc.rc.1, hrv.out.rc.rc.2⟩
  have hR := Hd.mk (T.ds_rel hr.out ad v)
  have c1 := fun W (q : Ps B W kb K a d b b t g c (boxOb ko #[.int .i64 m, .int .i64 4, .int .u64 ad, .int .u64 z, .int .u64 n, .bool v.g, .int .u64 v.n, .int .u64 v.c.b, .int .u64 v.c.e, .int .u64 v.c.c, .int .u8 v.c.p, .int .i64 v.c.s] :: boxOb kp #[.pointer (some ⟨a, 0, none⟩), .pointer (some ⟨d, 0, none⟩)] :: l)) => q.onX (fun X hX => T.tgStoreCap_any X a ad b t v W hX hra hcc.1)
  have c2 := fun W b' t' (q : Ps B W kb K a d b' b t' g c (boxOb ko #[.int .i64 m, .int .i64 4, .int .u64 ad, .int .u64 z, .int .u64 n, .bool v.g, .int .u64 v.n, .int .u64 v.c.b, .int .u64 v.c.e, .int .u64 v.c.c, .int .u8 v.c.p, .int .i64 v.c.s] :: boxOb kp #[.pointer (some ⟨a, 0, none⟩), .pointer (some ⟨d, 0, none⟩)] :: l)) => q.onD (fun D hD => T.dStoreCap_any D d ad b g c v W hD hrv.out.rn hcc hra)
  generalize T.lcE ad = E at *
  generalize T.scB b ad v = b1 at *
  generalize T.scT t ad v = t1 at *
  generalize T.dsG g ad v = g1 at *
  generalize T.dsC c ad v = c3 at *
  unfold T.Vl.agg at c1 c2
  replace c1 := Hd.mk c1
  replace c2 := Hd.mk c2
  replace hcc := Hd.mk hcc
  have AO := hP.out.there (boxOb ko #[.int .i64 m, .int .i64 4, .int .u64 ad, .int .u64 z, .int .u64 n, .bool v.g, .int .u64 v.n, .int .u64 v.c.b, .int .u64 v.c.e, .int .u64 v.c.c, .int .u8 v.c.p, .int .i64 v.c.s]) (.head _)
  have AP := hP.out.there (boxOb kp #[.pointer (some ⟨a, 0, none⟩), .pointer (some ⟨d, 0, none⟩)]) (.tail _ (.head _))
  have o2 : W0.cell? ⟨ko, 2, none⟩ = some (.int .u64 ad) := AO.2.1 2
  have o5 : W0.cell? ⟨ko, 5, none⟩ = some (.bool v.g) := AO.2.1 5
  have o6 : W0.cell? ⟨ko, 6, none⟩ = some (.int .u64 v.n) := AO.2.1 6
  have o7 : W0.cell? ⟨ko, 7, none⟩ = some (.int .u64 v.c.b) := AO.2.1 7
  have o8 : W0.cell? ⟨ko, 8, none⟩ = some (.int .u64 v.c.e) := AO.2.1 8
  have o9 : W0.cell? ⟨ko, 9, none⟩ = some (.int .u64 v.c.c) := AO.2.1 9
  have o10 : W0.cell? ⟨ko, 10, none⟩ = some (.int .u8 v.c.p) := AO.2.1 10
  have o11 : W0.cell? ⟨ko, 11, none⟩ = some (.int .i64 v.c.s) := AO.2.1 11
  have p0 : W0.cell? ⟨kp, 0, none⟩ = some (.pointer (some ⟨a, 0, none⟩)) := AP.2.1 0
  replace AO := Hd.mk AO
  replace AP := Hd.mk AP
  go_wp2_with fail
  refine (c1.out _ hP.out).mono ?_
  rintro r W1 ⟨rfl, hP', hB'⟩
  clear AO AP o2 o5 o6 o7 o8 o9 o10 o11 p0
  replace hB : Hd (Below B w W1) := Hd.mk (hB.out.trans hB')
  clear hB' hP
  have hP := Hd.mk hP'
  clear hP'
  have AO := hP.out.there (boxOb ko #[.int .i64 m, .int .i64 4, .int .u64 ad, .int .u64 z, .int .u64 n, .bool v.g, .int .u64 v.n, .int .u64 v.c.b, .int .u64 v.c.e, .int .u64 v.c.c, .int .u8 v.c.p, .int .i64 v.c.s]) (.head _)
  have AP := hP.out.there (boxOb kp #[.pointer (some ⟨a, 0, none⟩), .pointer (some ⟨d, 0, none⟩)]) (.tail _ (.head _))
  have o2 : W1.cell? ⟨ko, 2, none⟩ = some (.int .u64 ad) := AO.2.1 2
  have o5 : W1.cell? ⟨ko, 5, none⟩ = some (.bool v.g) := AO.2.1 5
  have o6 : W1.cell? ⟨ko, 6, none⟩ = some (.int .u64 v.n) := AO.2.1 6
  have o7 : W1.cell? ⟨ko, 7, none⟩ = some (.int .u64 v.c.b) := AO.2.1 7
  have o8 : W1.cell? ⟨ko, 8, none⟩ = some (.int .u64 v.c.e) := AO.2.1 8
  have o9 : W1.cell? ⟨ko, 9, none⟩ = some (.int .u64 v.c.c) := AO.2.1 9
  have o10 : W1.cell? ⟨ko, 10, none⟩ = some (.int .u8 v.c.p) := AO.2.1 10
  have o11 : W1.cell? ⟨ko, 11, none⟩ = some (.int .i64 v.c.s) := AO.2.1 11
  have p1 : W1.cell? ⟨kp, 1, none⟩ = some (.pointer (some ⟨d, 0, none⟩)) := AP.2.1 1
  replace AO := Hd.mk AO
  replace AP := Hd.mk AP
  go_wp2_with fail
  refine (c2.out _ _ _ hP.out).mono ?_
  rintro r W2 ⟨rfl, hP', hB'⟩
  clear AO AP o2 o5 o6 o7 o8 o9 o10 o11 p1
  replace hB : Hd (Below B w W2) := Hd.mk (hB.out.trans hB')
  clear hB' hP
  have hP := Hd.mk hP'
  clear hP'
  go_wp2_with fail
  go_ret
  exact ⟨rfl, K, b1, t1, g1, c3, hP.out.drop.drop, hR.out, by omega, hB.out⟩
end U
end Go.Proofs.Ythblllanofnmmaa
