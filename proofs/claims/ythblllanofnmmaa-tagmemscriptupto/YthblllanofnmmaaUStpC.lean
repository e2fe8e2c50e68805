import Derived.Test.YthblllanofnmmaaUScr
import Derived.Test.YthblllanofnmmaaTOps
import Derived.Deep.RegionHeld3
import Derived.BigFrame
/-
  Stage 6, TagmemScript: a step on a pair: Tags.
-/
namespace Go.Proofs.Ythblllanofnmmaa
namespace U
open Go.RowKit
open B
open T (Sep Ob Kp Mf TgIn DIn Rel Cp Vl UOwn tgOb boxOb)

set_option maxRecDepth 100000 in
set_option maxHeartbeats 8000000 in
theorem step5 (B kb K a d : Nat) (b : Nat → UInt8) (t : Nat → Option Cp) (g : Nat → Bool) (c : Nat → Cp) (l : List Ob) (x : T.Po) (w : World) (h : Ps B w kb K a d b b t g c l) (hr : Rel t g c) (ho : x.Ok) (hK : K + 2 ≤ 1048575) (hk : x.k = 5) :
    Calls Try.prog 9 #[.agg #[.pointer (some ⟨a, 0, none⟩), .pointer (some ⟨d, 0, none⟩)], .agg #[.int .i64 x.m, .int .i64 x.k, .int .u64 x.a, .int .u64 x.z, .int .u64 x.n, .bool x.v.g, .int .u64 x.v.n, .int .u64 x.v.c.b, .int .u64 x.v.c.e, .int .u64 x.v.c.c, .int .u8 x.v.c.p, .int .i64 x.v.c.s], .pointer (some ⟨kb, 0, none⟩)] w fun r w' => r = .returned (.bool true) ∧ ∃ K' b' t' g' c', Ps B w' kb K' a d b' b' t' g' c' l ∧ Rel t' g' c' ∧ K' ≤ K + 2 ∧ Below B w w' := by
  obtain ⟨m, k, ad, z, n, v⟩ := x
  have hra : ad < 18446744073709551616 := ho.ra
  have hrz : z < 18446744073709551616 := ho.rz
  have hrn : n < 18446744073709551616 := ho.rn
  have hrv : v.Ok := ho.rv
  dsimp only at *
  clear ho
  obtain rfl : k = 5 := hk
  have h2 := Hd.mk (h.two #[.pointer (some ⟨a, 0, none⟩), .pointer (some ⟨d, 0, none⟩)] #[.int .i64 m, .int .i64 5, .int .u64 ad, .int .u64 z, .int .u64 n, .bool v.g, .int .u64 v.n, .int .u64 v.c.b, .int .u64 v.c.e, .int .u64 v.c.c, .int .u8 v.c.p, .int .i64 v.c.s] 35 49)
  have hle := h.le
  replace h := Hd.mk h
  replace hr := Hd.mk hr
  replace hrv := Hd.mk hrv
  go_enter Try.func9, Try.ntmps9
  go_upto_region 1 with fail
  refine wp_world (fun W => Ps B W kb K a d b b t g c (boxOb (w.heap.size + 1) #[.int .i64 m, .int .i64 5, .int .u64 ad, .int .u64 z, .int .u64 n, .bool v.g, .int .u64 v.n, .int .u64 v.c.b, .int .u64 v.c.e, .int .u64 v.c.c, .int .u8 v.c.p, .int .i64 v.c.s] :: boxOb w.heap.size #[.pointer (some ⟨a, 0, none⟩), .pointer (some ⟨d, 0, none⟩)] :: l) ∧ Below w.heap.size w W) h2.out ?_
  rintro W0 ⟨hP, hB⟩
  replace hP := Hd.mk hP
  replace hB : Hd (Below B w W0) := Hd.mk (hB.mono hle)
  clear h2 h
  generalize hko : w.heap.size + 1 = ko at *
  generalize hkp : w.heap.size = kp at *
  clear hko
  have AO := hP.out.there (boxOb ko #[.int .i64 m, .int .i64 5, .int .u64 ad, .int .u64 z, .int .u64 n, .bool v.g, .int .u64 v.n, .int .u64 v.c.b, .int .u64 v.c.e, .int .u64 v.c.c, .int .u8 v.c.p, .int .i64 v.c.s]) (.head _)
  have AP := hP.out.there (boxOb kp #[.pointer (some ⟨a, 0, none⟩), .pointer (some ⟨d, 0, none⟩)]) (.tail _ (.head _))
  have o1 : W0.cell? ⟨ko, 1, none⟩ = some (.int .i64 5) := AO.2.1 1
  replace AO := Hd.mk AO
  replace AP := Hd.mk AP
  go_upto_region 17 with fail
  clear AO AP o1
  have c1 := fun W K l' (q : Ps B W kb K a d b b t g c l') => q.tagsX
  have c2 := fun W K l' (q : Ps B W kb K a d b b t g c l') => q.tagsD hr.out
  have hll := T.tagsL_len t 4096
  generalize T.tagsL t 4096 = TL at *
  replace c1 := Hd.mk c1
  replace c2 := Hd.mk c2
  have AO := hP.out.there (boxOb ko #[.int .i64 m, .int .i64 5, .int .u64 ad, .int .u64 z, .int .u64 n, .bool v.g, .int .u64 v.n, .int .u64 v.c.b, .int .u64 v.c.e, .int .u64 v.c.c, .int .u8 v.c.p, .int .i64 v.c.s]) (.head _)
  have AP := hP.out.there (boxOb kp #[.pointer (some ⟨a, 0, none⟩), .pointer (some ⟨d, 0, none⟩)]) (.tail _ (.head _))
  have p0 : W0.cell? ⟨kp, 0, none⟩ = some (.pointer (some ⟨a, 0, none⟩)) := AP.2.1 0
  replace AO := Hd.mk AO
  replace AP := Hd.mk AP
  go_wp2_with fail
  refine (c1.out _ _ _ hP.out).mono ?_
  rintro r W1 ⟨v1, rfl, hP', hB'⟩
  clear AO AP p0
  replace hB : Hd (Below B w W1) := Hd.mk (hB.out.trans hB')
  clear hB' hP
  have hP := Hd.mk hP'
  clear hP'
  have AO := hP.out.there (boxOb ko #[.int .i64 m, .int .i64 5, .int .u64 ad, .int .u64 z, .int .u64 n, .bool v.g, .int .u64 v.n, .int .u64 v.c.b, .int .u64 v.c.e, .int .u64 v.c.c, .int .u8 v.c.p, .int .i64 v.c.s]) (.tail _ (.head _))
  have AP := hP.out.there (boxOb kp #[.pointer (some ⟨a, 0, none⟩), .pointer (some ⟨d, 0, none⟩)]) (.tail _ (.tail _ (.head _)))
  have p0 : W1.cell? ⟨kp, 0, none⟩ = some (.pointer (some ⟨a, 0, none⟩)) := AP.2.1 0
  replace AO := Hd.mk AO
  replace AP := Hd.mk AP
  go_wp2_with fail
  refine (c1.out _ _ _ hP.out).mono ?_
  rintro r W2 ⟨v2, rfl, hP', hB'⟩
  clear AO AP p0
  replace hB : Hd (Below B w W2) := Hd.mk (hB.out.trans hB')
  clear hB' hP
  have hP := Hd.mk hP'
  clear hP'
  have AO := hP.out.there (boxOb ko #[.int .i64 m, .int .i64 5, .int .u64 ad, .int .u64 z, .int .u64 n, .bool v.g, .int .u64 v.n, .int .u64 v.c.b, .int .u64 v.c.e, .int .u64 v.c.c, .int .u8 v.c.p, .int .i64 v.c.s]) (.tail _ (.tail _ (.head _)))
  have AP := hP.out.there (boxOb kp #[.pointer (some ⟨a, 0, none⟩), .pointer (some ⟨d, 0, none⟩)]) (.tail _ (.tail _ (.tail _ (.head _))))
  have p1 : W2.cell? ⟨kp, 1, none⟩ = some (.pointer (some ⟨d, 0, none⟩)) := AP.2.1 1
  replace AO := Hd.mk AO
  replace AP := Hd.mk AP
  go_wp2_with fail
  refine (c2.out _ _ _ hP.out).mono ?_
  rintro r W3 ⟨v3, rfl, hP', hB'⟩
  clear AO AP p1
  replace hB : Hd (Below B w W3) := Hd.mk (hB.out.trans hB')
  clear hB' hP
  have hP := Hd.mk hP'
  clear hP'
  obtain ⟨v1a, v1c, v1e, v1u⟩ := T.UOwn.uin (hP.out.there (uOb B v1 TL) (.tail _ (.tail _ (.head _))))
  obtain ⟨v3a, v3c, v3e, v3u⟩ := T.UOwn.uin (hP.out.there (uOb B v3 TL) (.head _))
  have hsm := Hd.mk (T.same_eq TL v1a v3a v1c v3c W3 v1u v3u (by omega))
  rw [← v1e, ← v3e] at hsm
  clear v1e v3e v1u v3u
  go_wp2_with fail
  refine hsm.out.mono ?_
  rintro r W4 ⟨rfl, hB'⟩
  have hP' := hP.out.gr hB'
  replace hB : Hd (Below B w W4) := Hd.mk (hB.out.trans (hB'.mono hP.out.le))
  clear hB' hP hsm
  have hP := Hd.mk hP'.drop
  clear hP'
  have hkp := Hd.mk (Ps.keep v1 TL hP.out.swap (by omega) (by omega))
  go_wp2_with fail
  refine hkp.out.mono ?_
  rintro r W5 ⟨rfl, hP', hB'⟩
  replace hB : Hd (Below B w W5) := Hd.mk (hB.out.trans hB')
  clear hB' hP hkp
  have hP := Hd.mk hP'
  clear hP'
  have AO := hP.out.there (boxOb ko #[.int .i64 m, .int .i64 5, .int .u64 ad, .int .u64 z, .int .u64 n, .bool v.g, .int .u64 v.n, .int .u64 v.c.b, .int .u64 v.c.e, .int .u64 v.c.c, .int .u8 v.c.p, .int .i64 v.c.s]) (.tail _ (.head _))
  have AP := hP.out.there (boxOb kp #[.pointer (some ⟨a, 0, none⟩), .pointer (some ⟨d, 0, none⟩)]) (.tail _ (.tail _ (.head _)))
  have p1 : W5.cell? ⟨kp, 1, none⟩ = some (.pointer (some ⟨d, 0, none⟩)) := AP.2.1 1
  replace AO := Hd.mk AO
  replace AP := Hd.mk AP
  go_wp2_with fail
  refine (c2.out _ _ _ hP.out).mono ?_
  rintro r W6 ⟨v4, rfl, hP', hB'⟩
  clear AO AP p1
  replace hB : Hd (Below B w W6) := Hd.mk (hB.out.trans hB')
  clear hB' hP
  have hP := Hd.mk hP'
  clear hP'
  obtain ⟨v2a, v2c, v2e, v2u⟩ := T.UOwn.uin (hP.out.there (uOb B v2 TL) (.tail _ (.head _)))
  obtain ⟨v4a, v4c, v4e, v4u⟩ := T.UOwn.uin (hP.out.there (uOb B v4 TL) (.head _))
  have hsm := Hd.mk (T.same_eq TL v2a v4a v2c v4c W6 v2u v4u (by omega))
  rw [← v2e, ← v4e] at hsm
  clear v2e v4e v2u v4u
  go_wp2_with fail
  refine hsm.out.mono ?_
  rintro r W7 ⟨rfl, hB'⟩
  have hP' := hP.out.gr hB'
  replace hB : Hd (Below B w W7) := Hd.mk (hB.out.trans (hB'.mono hP.out.le))
  clear hB' hP hsm
  have hP := Hd.mk hP'.drop
  clear hP'
  have hkp := Hd.mk (Ps.keep v2 TL hP.out (by omega) (by omega))
  go_wp2_with fail
  refine hkp.out.mono ?_
  rintro r W8 ⟨rfl, hP', hB'⟩
  replace hB : Hd (Below B w W8) := Hd.mk (hB.out.trans hB')
  clear hB' hP hkp
  have hP := Hd.mk hP'
  clear hP'
  go_wp2_with fail
  go_ret
  exact ⟨rfl, K + 1 + 1, b, t, g, c, hP.out.drop.drop, hr.out, by omega, hB.out⟩
end U
end Go.Proofs.Ythblllanofnmmaa
