import Derived.Test.YthblllanofnmmaaUScr
import Derived.Test.YthblllanofnmmaaTOps
import Derived.Deep.RegionHeld3
import Derived.BigFrame
/-
  Stage 6, TagmemScript: a step on a pair: Load, Store.
-/
namespace Go.Proofs.Ythblllanofnmmaa
namespace U
open Go.RowKit
open B
open T (Sep Ob Kp Mf TgIn DIn Rel Cp Vl UOwn tgOb boxOb)

set_option maxRecDepth 100000 in
set_option maxHeartbeats 8000000 in
theorem step1 (B kb K a d : Nat) (b : Nat → UInt8) (t : Nat → Option Cp) (g : Nat → Bool) (c : Nat → Cp) (l : List Ob) (x : T.Po) (w : World) (h : Ps B w kb K a d b b t g c l) (hr : Rel t g c) (ho : x.Ok) (_hK : K + 2 ≤ 1048575) (hk : x.k = 1) :
    Calls Try.prog 9 #[.agg #[.pointer (some ⟨a, 0, none⟩), .pointer (some ⟨d, 0, none⟩)], .agg #[.int .i64 x.m, .int .i64 x.k, .int .u64 x.a, .int .u64 x.z, .int .u64 x.n, .bool x.v.g, .int .u64 x.v.n, .int .u64 x.v.c.b, .int .u64 x.v.c.e, .int .u64 x.v.c.c, .int .u8 x.v.c.p, .int .i64 x.v.c.s], .pointer (some ⟨kb, 0, none⟩)] w fun r w' => r = .returned (.bool true) ∧ ∃ K' b' t' g' c', Ps B w' kb K' a d b' b' t' g' c' l ∧ Rel t' g' c' ∧ K' ≤ K + 2 ∧ Below B w w' := by
  obtain ⟨m, k, ad, z, n, v⟩ := x
  have hra : ad < 18446744073709551616 := ho.ra
  have hrz : z < 18446744073709551616 := ho.rz
  have hrn : n < 18446744073709551616 := ho.rn
  have hrv : v.Ok := ho.rv
  dsimp only at *
  clear ho
  obtain rfl : k = 1 := hk
  have h2 := Hd.mk (h.two #[.pointer (some ⟨a, 0, none⟩), .pointer (some ⟨d, 0, none⟩)] #[.int .i64 m, .int .i64 1, .int .u64 ad, .int .u64 z, .int .u64 n, .bool v.g, .int .u64 v.n, .int .u64 v.c.b, .int .u64 v.c.e, .int .u64 v.c.c, .int .u8 v.c.p, .int .i64 v.c.s] 35 49)
  have hle := h.le
  replace h := Hd.mk h
  replace hr := Hd.mk hr
  replace hrv := Hd.mk hrv
  go_enter Try.func9, Try.ntmps9
  go_upto_region 1 with fail
  refine wp_world (fun W => Ps B W kb K a d b b t g c (boxOb (w.heap.size + 1) #[.int .i64 m, .int .i64 1, .int .u64 ad, .int .u64 z, .int .u64 n, .bool v.g, .int .u64 v.n, .int .u64 v.c.b, .int .u64 v.c.e, .int .u64 v.c.c, .int .u8 v.c.p, .int .i64 v.c.s] :: boxOb w.heap.size #[.pointer (some ⟨a, 0, none⟩), .pointer (some ⟨d, 0, none⟩)] :: l) ∧ Below w.heap.size w W) h2.out ?_
  rintro W0 ⟨hP, hB⟩
  replace hP := Hd.mk hP
  replace hB : Hd (Below B w W0) := Hd.mk (hB.mono hle)
  clear h2 h
  generalize hko : w.heap.size + 1 = ko at *
  generalize hkp : w.heap.size = kp at *
  clear hko
  have AO := hP.out.there (boxOb ko #[.int .i64 m, .int .i64 1, .int .u64 ad, .int .u64 z, .int .u64 n, .bool v.g, .int .u64 v.n, .int .u64 v.c.b, .int .u64 v.c.e, .int .u64 v.c.c, .int .u8 v.c.p, .int .i64 v.c.s]) (.head _)
  have AP := hP.out.there (boxOb kp #[.pointer (some ⟨a, 0, none⟩), .pointer (some ⟨d, 0, none⟩)]) (.tail _ (.head _))
  have o1 : W0.cell? ⟨ko, 1, none⟩ = some (.int .i64 1) := AO.2.1 1
  replace AO := Hd.mk AO
  replace AP := Hd.mk AP
  go_upto_region 3 with fail
  clear AO AP o1
  have c1 := fun W (q : Ps B W kb K a d b b t g c (boxOb ko #[.int .i64 m, .int .i64 1, .int .u64 ad, .int .u64 z, .int .u64 n, .bool v.g, .int .u64 v.n, .int .u64 v.c.b, .int .u64 v.c.e, .int .u64 v.c.c, .int .u8 v.c.p, .int .i64 v.c.s] :: boxOb kp #[.pointer (some ⟨a, 0, none⟩), .pointer (some ⟨d, 0, none⟩)] :: l)) => q.readX (fun X hX => T.tgLoad_any X a ad z b t W hX hra hrz)
  have c2 := fun W (q : Ps B W kb K a d b b t g c (boxOb ko #[.int .i64 m, .int .i64 1, .int .u64 ad, .int .u64 z, .int .u64 n, .bool v.g, .int .u64 v.n, .int .u64 v.c.b, .int .u64 v.c.e, .int .u64 v.c.c, .int .u8 v.c.p, .int .i64 v.c.s] :: boxOb kp #[.pointer (some ⟨a, 0, none⟩), .pointer (some ⟨d, 0, none⟩)] :: l)) => q.readD (fun D hD => T.dLoad_any D d ad z b g c W hD)
  generalize T.ldV b ad z = V at *
  generalize T.ldE ad z = E at *
  replace c1 := Hd.mk c1
  replace c2 := Hd.mk c2
  have AO := hP.out.there (boxOb ko #[.int .i64 m, .int .i64 1, .int .u64 ad, .int .u64 z, .int .u64 n, .bool v.g, .int .u64 v.n, .int .u64 v.c.b, .int .u64 v.c.e, .int .u64 v.c.c, .int .u8 v.c.p, .int .i64 v.c.s]) (.head _)
  have AP := hP.out.there (boxOb kp #[.pointer (some ⟨a, 0, none⟩), .pointer (some ⟨d, 0, none⟩)]) (.tail _ (.head _))
  have o2 : W0.cell? ⟨ko, 2, none⟩ = some (.int .u64 ad) := AO.2.1 2
  have o3 : W0.cell? ⟨ko, 3, none⟩ = some (.int .u64 z) := AO.2.1 3
  have p0 : W0.cell? ⟨kp, 0, none⟩ = some (.pointer (some ⟨a, 0, none⟩)) := AP.2.1 0
  replace AO := Hd.mk AO
  replace AP := Hd.mk AP
  go_wp2_with fail
  refine (c1.out _ hP.out).mono ?_
  rintro r W1 ⟨rfl, hP', hB'⟩
  clear AO AP o2 o3 p0
  replace hB : Hd (Below B w W1) := Hd.mk (hB.out.trans hB')
  clear hB' hP
  have hP := Hd.mk hP'
  clear hP'
  have AO := hP.out.there (boxOb ko #[.int .i64 m, .int .i64 1, .int .u64 ad, .int .u64 z, .int .u64 n, .bool v.g, .int .u64 v.n, .int .u64 v.c.b, .int .u64 v.c.e, .int .u64 v.c.c, .int .u8 v.c.p, .int .i64 v.c.s]) (.head _)
  have AP := hP.out.there (boxOb kp #[.pointer (some ⟨a, 0, none⟩), .pointer (some ⟨d, 0, none⟩)]) (.tail _ (.head _))
  have o2 : W1.cell? ⟨ko, 2, none⟩ = some (.int .u64 ad) := AO.2.1 2
  have o3 : W1.cell? ⟨ko, 3, none⟩ = some (.int .u64 z) := AO.2.1 3
  have p1 : W1.cell? ⟨kp, 1, none⟩ = some (.pointer (some ⟨d, 0, none⟩)) := AP.2.1 1
  replace AO := Hd.mk AO
  replace AP := Hd.mk AP
  go_wp2_with fail
  refine (c2.out _ hP.out).mono ?_
  rintro r W2 ⟨rfl, hP', hB'⟩
  clear AO AP o2 o3 p1
  replace hB : Hd (Below B w W2) := Hd.mk (hB.out.trans hB')
  clear hB' hP
  have hP := Hd.mk hP'
  clear hP'
  go_wp2_with fail
  go_ret
  exact ⟨rfl, K, b, t, g, c, hP.out.drop.drop, hr.out, by omega, hB.out⟩
set_option maxRecDepth 100000 in
set_option maxHeartbeats 8000000 in
theorem step2 (B kb K a d : Nat) (b : Nat → UInt8) (t : Nat → Option Cp) (g : Nat → Bool) (c : Nat → Cp) (l : List Ob) (x : T.Po) (w : World) (h : Ps B w kb K a d b b t g c l) (hr : Rel t g c) (ho : x.Ok) (_hK : K + 2 ≤ 1048575) (hk : x.k = 2) :
    Calls Try.prog 9 #[.agg #[.pointer (some ⟨a, 0, none⟩), .pointer (some ⟨d, 0, none⟩)], .agg #[.int .i64 x.m, .int .i64 x.k, .int .u64 x.a, .int .u64 x.z, .int .u64 x.n, .bool x.v.g, .int .u64 x.v.n, .int .u64 x.v.c.b, .int .u64 x.v.c.e, .int .u64 x.v.c.c, .int .u8 x.v.c.p, .int .i64 x.v.c.s], .pointer (some ⟨kb, 0, none⟩)] w fun r w' => r = .returned (.bool true) ∧ ∃ K' b' t' g' c', Ps B w' kb K' a d b' b' t' g' c' l ∧ Rel t' g' c' ∧ K' ≤ K + 2 ∧ Below B w w' := by
  obtain ⟨m, k, ad, z, n, v⟩ := x
  have hra : ad < 18446744073709551616 := ho.ra
  have hrz : z < 18446744073709551616 := ho.rz
  have hrn : n < 18446744073709551616 := ho.rn
  have hrv : v.Ok := ho.rv
  dsimp only at *
  clear ho
  obtain rfl : k = 2 := hk
  have h2 := Hd.mk (h.two #[.pointer (some ⟨a, 0, none⟩), .pointer (some ⟨d, 0, none⟩)] #[.int .i64 m, .int .i64 2, .int .u64 ad, .int .u64 z, .int .u64 n, .bool v.g, .int .u64 v.n, .int .u64 v.c.b, .int .u64 v.c.e, .int .u64 v.c.c, .int .u8 v.c.p, .int .i64 v.c.s] 35 49)
  have hle := h.le
  replace h := Hd.mk h
  replace hr := Hd.mk hr
  replace hrv := Hd.mk hrv
  go_enter Try.func9, Try.ntmps9
  go_upto_region 1 with fail
  refine wp_world (fun W => Ps B W kb K a d b b t g c (boxOb (w.heap.size + 1) #[.int .i64 m, .int .i64 2, .int .u64 ad, .int .u64 z, .int .u64 n, .bool v.g, .int .u64 v.n, .int .u64 v.c.b, .int .u64 v.c.e, .int .u64 v.c.c, .int .u8 v.c.p, .int .i64 v.c.s] :: boxOb w.heap.size #[.pointer (some ⟨a, 0, none⟩), .pointer (some ⟨d, 0, none⟩)] :: l) ∧ Below w.heap.size w W) h2.out ?_
  rintro W0 ⟨hP, hB⟩
  replace hP := Hd.mk hP
  replace hB : Hd (Below B w W0) := Hd.mk (hB.mono hle)
  clear h2 h
  generalize hko : w.heap.size + 1 = ko at *
  generalize hkp : w.heap.size = kp at *
  clear hko
  have AO := hP.out.there (boxOb ko #[.int .i64 m, .int .i64 2, .int .u64 ad, .int .u64 z, .int .u64 n, .bool v.g, .int .u64 v.n, .int .u64 v.c.b, .int .u64 v.c.e, .int .u64 v.c.c, .int .u8 v.c.p, .int .i64 v.c.s]) (.head _)
  have AP := hP.out.there (boxOb kp #[.pointer (some ⟨a, 0, none⟩), .pointer (some ⟨d, 0, none⟩)]) (.tail _ (.head _))
  have o1 : W0.cell? ⟨ko, 1, none⟩ = some (.int .i64 2) := AO.2.1 1
  replace AO := Hd.mk AO
  replace AP := Hd.mk AP
  go_upto_region 7 with fail
  clear AO AP o1
  have hR := Hd.mk (st_rel hr.out ad z)
  have c1 := fun W (q : Ps B W kb K a d b b t g c (boxOb ko #[.int .i64 m, .int .i64 2, .int .u64 ad, .int .u64 z, .int .u64 n, .bool v.g, .int .u64 v.n, .int .u64 v.c.b, .int .u64 v.c.e, .int .u64 v.c.c, .int .u8 v.c.p, .int .i64 v.c.s] :: boxOb kp #[.pointer (some ⟨a, 0, none⟩), .pointer (some ⟨d, 0, none⟩)] :: l)) => q.onX (fun X hX => T.tgStore_any X a ad z n b t W hX hra hrz)
  have c2 := fun W b' t' (q : Ps B W kb K a d b' b t' g c (boxOb ko #[.int .i64 m, .int .i64 2, .int .u64 ad, .int .u64 z, .int .u64 n, .bool v.g, .int .u64 v.n, .int .u64 v.c.b, .int .u64 v.c.e, .int .u64 v.c.c, .int .u8 v.c.p, .int .i64 v.c.s] :: boxOb kp #[.pointer (some ⟨a, 0, none⟩), .pointer (some ⟨d, 0, none⟩)] :: l)) => q.onD (fun D hD => T.dStore_any D d ad z n b g c W hD hrn)
  generalize T.ldE ad z = E at *
  generalize T.stB b ad z n = b1 at *
  generalize T.stT t ad z = t1 at *
  generalize T.stG g ad z = g1 at *
  replace c1 := Hd.mk c1
  replace c2 := Hd.mk c2
  have AO := hP.out.there (boxOb ko #[.int .i64 m, .int .i64 2, .int .u64 ad, .int .u64 z, .int .u64 n, .bool v.g, .int .u64 v.n, .int .u64 v.c.b, .int .u64 v.c.e, .int .u64 v.c.c, .int .u8 v.c.p, .int .i64 v.c.s]) (.head _)
  have AP := hP.out.there (boxOb kp #[.pointer (some ⟨a, 0, none⟩), .pointer (some ⟨d, 0, none⟩)]) (.tail _ (.head _))
  have o2 : W0.cell? ⟨ko, 2, none⟩ = some (.int .u64 ad) := AO.2.1 2
  have o3 : W0.cell? ⟨ko, 3, none⟩ = some (.int .u64 z) := AO.2.1 3
  have o4 : W0.cell? ⟨ko, 4, none⟩ = some (.int .u64 n) := AO.2.1 4
  have p0 : W0.cell? ⟨kp, 0, none⟩ = some (.pointer (some ⟨a, 0, none⟩)) := AP.2.1 0
  replace AO := Hd.mk AO
  replace AP := Hd.mk AP
  go_wp2_with fail
  refine (c1.out _ hP.out).mono ?_
  rintro r W1 ⟨rfl, hP', hB'⟩
  clear AO AP o2 o3 o4 p0
  replace hB : Hd (Below B w W1) := Hd.mk (hB.out.trans hB')
  clear hB' hP
  have hP := Hd.mk hP'
  clear hP'
  have AO := hP.out.there (boxOb ko #[.int .i64 m, .int .i64 2, .int .u64 ad, .int .u64 z, .int .u64 n, .bool v.g, .int .u64 v.n, .int .u64 v.c.b, .int .u64 v.c.e, .int .u64 v.c.c, .int .u8 v.c.p, .int .i64 v.c.s]) (.head _)
  have AP := hP.out.there (boxOb kp #[.pointer (some ⟨a, 0, none⟩), .pointer (some ⟨d, 0, none⟩)]) (.tail _ (.head _))
  have o2 : W1.cell? ⟨ko, 2, none⟩ = some (.int .u64 ad) := AO.2.1 2
  have o3 : W1.cell? ⟨ko, 3, none⟩ = some (.int .u64 z) := AO.2.1 3
  have o4 : W1.cell? ⟨ko, 4, none⟩ = some (.int .u64 n) := AO.2.1 4
  have p1 : W1.cell? ⟨kp, 1, none⟩ = some (.pointer (some ⟨d, 0, none⟩)) := AP.2.1 1
  replace AO := Hd.mk AO
  replace AP := Hd.mk AP
  go_wp2_with fail
  refine (c2.out _ _ _ hP.out).mono ?_
  rintro r W2 ⟨rfl, hP', hB'⟩
  clear AO AP o2 o3 o4 p1
  replace hB : Hd (Below B w W2) := Hd.mk (hB.out.trans hB')
  clear hB' hP
  have hP := Hd.mk hP'
  clear hP'
  go_wp2_with fail
  go_ret
  exact ⟨rfl, K, b1, t1, g1, c, hP.out.drop.drop, hR.out, by omega, hB.out⟩
end U
end Go.Proofs.Ythblllanofnmmaa
