import Derived.Test.YthblllanofnmmaaUScr
import Derived.Test.YthblllanofnmmaaTOps
import Derived.Deep.RegionHeld3
import Derived.BigFrame
/-
  Stage 6, TagmemScript: a step on a pair: Bytes; what is none.
-/
namespace Go.Proofs.Ythblllanofnmmaa
namespace U
open Go.RowKit
open B
open T (Sep Ob Kp Mf TgIn DIn Rel Cp Vl UOwn tgOb boxOb)

set_option maxRecDepth 100000 in
set_option maxHeartbeats 8000000 in
theorem step6 (B kb K a d : Nat) (b : Nat → UInt8) (t : Nat → Option Cp) (g : Nat → Bool) (c : Nat → Cp) (l : List Ob) (x : T.Po) (w : World) (h : Ps B w kb K a d b b t g c l) (hr : Rel t g c) (ho : x.Ok) (_hK : K + 2 ≤ 1048575) (hk : x.k = 6) :
    Calls Try.prog 9 #[.agg #[.pointer (some ⟨a, 0, none⟩), .pointer (some ⟨d, 0, none⟩)], .agg #[.int .i64 x.m, .int .i64 x.k, .int .u64 x.a, .int .u64 x.z, .int .u64 x.n, .bool x.v.g, .int .u64 x.v.n, .int .u64 x.v.c.b, .int .u64 x.v.c.e, .int .u64 x.v.c.c, .int .u8 x.v.c.p, .int .i64 x.v.c.s], .pointer (some ⟨kb, 0, none⟩)] w fun r w' => r = .returned (.bool true) ∧ ∃ K' b' t' g' c', Ps B w' kb K' a d b' b' t' g' c' l ∧ Rel t' g' c' ∧ K' ≤ K + 2 ∧ Below B w w' := by
  obtain ⟨m, k, ad, z, n, v⟩ := x
  have hra : ad < 18446744073709551616 := ho.ra
  have hrz : z < 18446744073709551616 := ho.rz
  have hrn : n < 18446744073709551616 := ho.rn
  have hrv : v.Ok := ho.rv
  dsimp only at *
  clear ho
  obtain rfl : k = 6 := hk
  have h2 := Hd.mk (h.two #[.pointer (some ⟨a, 0, none⟩), .pointer (some ⟨d, 0, none⟩)] #[.int .i64 m, .int .i64 6, .int .u64 ad, .int .u64 z, .int .u64 n, .bool v.g, .int .u64 v.n, .int .u64 v.c.b, .int .u64 v.c.e, .int .u64 v.c.c, .int .u8 v.c.p, .int .i64 v.c.s] 35 49)
  have hle := h.le
  replace h := Hd.mk h
  replace hr := Hd.mk hr
  replace hrv := Hd.mk hrv
  go_enter Try.func9, Try.ntmps9
  go_upto_region 1 with fail
  refine wp_world (fun W => Ps B W kb K a d b b t g c (boxOb (w.heap.size + 1) #[.int .i64 m, .int .i64 6, .int .u64 ad, .int .u64 z, .int .u64 n, .bool v.g, .int .u64 v.n, .int .u64 v.c.b, .int .u64 v.c.e, .int .u64 v.c.c, .int .u8 v.c.p, .int .i64 v.c.s] :: boxOb w.heap.size #[.pointer (some ⟨a, 0, none⟩), .pointer (some ⟨d, 0, none⟩)] :: l) ∧ Below w.heap.size w W) h2.out ?_
  rintro W0 ⟨hP, hB⟩
  replace hP := Hd.mk hP
  replace hB : Hd (Below B w W0) := Hd.mk (hB.mono hle)
  clear h2 h
  generalize hko : w.heap.size + 1 = ko at *
  generalize hkp : w.heap.size = kp at *
  clear hko
  have AO := hP.out.there (boxOb ko #[.int .i64 m, .int .i64 6, .int .u64 ad, .int .u64 z, .int .u64 n, .bool v.g, .int .u64 v.n, .int .u64 v.c.b, .int .u64 v.c.e, .int .u64 v.c.c, .int .u8 v.c.p, .int .i64 v.c.s]) (.head _)
  have AP := hP.out.there (boxOb kp #[.pointer (some ⟨a, 0, none⟩), .pointer (some ⟨d, 0, none⟩)]) (.tail _ (.head _))
  have o1 : W0.cell? ⟨ko, 1, none⟩ = some (.int .i64 6) := AO.2.1 1
  replace AO := Hd.mk AO
  replace AP := Hd.mk AP
  go_upto_region 25 with fail
  clear AO AP o1
  have c1 := fun W (q : Ps B W kb K a d b b t g c (boxOb ko #[.int .i64 m, .int .i64 6, .int .u64 ad, .int .u64 z, .int .u64 n, .bool v.g, .int .u64 v.n, .int .u64 v.c.b, .int .u64 v.c.e, .int .u64 v.c.c, .int .u8 v.c.p, .int .i64 v.c.s] :: boxOb kp #[.pointer (some ⟨a, 0, none⟩), .pointer (some ⟨d, 0, none⟩)] :: l)) => q.readX (fun X hX => T.tgBytes_any X a b t W hX)
  have c2 := fun W (q : Ps B W kb K a d b b t g c (boxOb ko #[.int .i64 m, .int .i64 6, .int .u64 ad, .int .u64 z, .int .u64 n, .bool v.g, .int .u64 v.n, .int .u64 v.c.b, .int .u64 v.c.e, .int .u64 v.c.c, .int .u8 v.c.p, .int .i64 v.c.s] :: boxOb kp #[.pointer (some ⟨a, 0, none⟩), .pointer (some ⟨d, 0, none⟩)] :: l)) => q.readD (fun D hD => T.dBytes_any D d b g c W hD)
  have eN : (⟨(T.rowB b 0 65536).toArray⟩ : ByteArray) = T.allB b := rfl
  rw [eN] at c1
  clear eN
  generalize T.allB b = N at *
  have KB : Hd (∀ W, Ps B W kb K a d b b t g c (boxOb ko #[.int .i64 m, .int .i64 6, .int .u64 ad, .int .u64 z, .int .u64 n, .bool v.g, .int .u64 v.n, .int .u64 v.c.b, .int .u64 v.c.e, .int .u64 v.c.c, .int .u8 v.c.p, .int .i64 v.c.s] :: boxOb kp #[.pointer (some ⟨a, 0, none⟩), .pointer (some ⟨d, 0, none⟩)] :: l) → W.cell? ⟨kp, 0, none⟩ = some (.pointer (some ⟨a, 0, none⟩)) ∧ W.cell? ⟨kp, 1, none⟩ = some (.pointer (some ⟨d, 0, none⟩))) := Hd.mk (fun W q => ⟨(q.there (boxOb kp #[.pointer (some ⟨a, 0, none⟩), .pointer (some ⟨d, 0, none⟩)]) (.tail _ (.head _))).2.1 0, (q.there (boxOb kp #[.pointer (some ⟨a, 0, none⟩), .pointer (some ⟨d, 0, none⟩)]) (.tail _ (.head _))).2.1 1⟩)
  have hD0 : Hd (Ps B W0.drew kb K a d b b t g c (boxOb ko #[.int .i64 m, .int .i64 6, .int .u64 ad, .int .u64 z, .int .u64 n, .bool v.g, .int .u64 v.n, .int .u64 v.c.b, .int .u64 v.c.e, .int .u64 v.c.c, .int .u8 v.c.p, .int .i64 v.c.s] :: boxOb kp #[.pointer (some ⟨a, 0, none⟩), .pointer (some ⟨d, 0, none⟩)] :: l)) := Hd.mk (hP.out.gr (Below.drew (Below.refl _ _)))
  have hE0 : Hd (Below B w W0.drew) := Hd.mk hB.out.drew
  clear hP hB
  replace c1 := Hd.mk c1
  replace c2 := Hd.mk c2
  refine wp_region_held_drew (S := (fun W => W.cell? ⟨kp, 0, none⟩ = some (.pointer (some ⟨a, 0, none⟩)) ∧ W.cell? ⟨kp, 1, none⟩ = some (.pointer (some ⟨d, 0, none⟩)))) (by kernel_rfl) (KB.out _ hD0.out) (fun hHeld => ?_)
  refine wpAnyH_take (i := 0) (oi := { dst := some 149, op := Op.fieldAddr 35 (Operand.tmp 3) 0, type := 0, pos := "law.go:112", after := #[], guard := none }) (v := ?_) rfl (by kernel_rfl) (by kernel_rfl) (by kernel_rfl) (fun _ _ _ h => h) (Or.inl ⟨by rfl, ?_⟩) (by assumption) ?_
  rotate_left
  · intro w hSw; (try dsimp only at hSw); go_simp; first | done | with_reducible rfl
  try simp only [Act.put, List.setIfInBounds_toArray, List.set_cons_zero, List.set_cons_succ]
  refine wpAnyH_take (i := 1) (oi := { dst := some 150, op := Op.load 25 (Operand.tmp 149), type := 25, pos := "law.go:112", after := #[{ on := 0, ground := Ground.data }], guard := none }) (v := ?_) rfl (by kernel_rfl) (by kernel_rfl) (by kernel_rfl) (fun _ _ _ h => h) (Or.inl ⟨by rfl, ?_⟩) (by assumption) ?_
  rotate_left
  · intro w hSw; (try dsimp only at hSw); go_simp; first | done | with_reducible rfl
  try simp only [Act.put, List.setIfInBounds_toArray, List.set_cons_zero, List.set_cons_succ]
  refine wpAnyH_take (i := 3) (oi := { dst := some 152, op := Op.fieldAddr 35 (Operand.tmp 3) 1, type := 0, pos := "law.go:112", after := #[], guard := none }) (v := ?_) rfl (by kernel_rfl) (by kernel_rfl) (by kernel_rfl) (fun _ _ _ h => h) (Or.inl ⟨by rfl, ?_⟩) (by assumption) ?_
  rotate_left
  · intro w hSw; (try dsimp only at hSw); go_simp; first | done | with_reducible rfl
  try simp only [Act.put, List.setIfInBounds_toArray, List.set_cons_zero, List.set_cons_succ]
  refine wpAnyH_take (i := 4) (oi := { dst := some 153, op := Op.load 32 (Operand.tmp 152), type := 32, pos := "law.go:112", after := #[{ on := 3, ground := Ground.data }], guard := none }) (v := ?_) rfl (by kernel_rfl) (by kernel_rfl) (by kernel_rfl) (fun _ _ _ h => h) (Or.inl ⟨by rfl, ?_⟩) (by assumption) ?_
  rotate_left
  · intro w hSw; (try dsimp only at hSw); go_simp; first | done | with_reducible rfl
  try simp only [Act.put, List.setIfInBounds_toArray, List.set_cons_zero, List.set_cons_succ]
  refine wpAnyH_ready (rs := [2]) (by kernel_rfl) (by simp) ?_
  refine AllReadyH.cons (o := { dst := some 151, op := Op.call { callee := Callee.value (Operand.func 27), args := #[Operand.tmp 150], argTypes := #[25] }, type := 9, pos := "law.go:112", after := #[{ on := 1, ground := Ground.data }], guard := none }) rfl (fun K hK => ?_) AllReadyH.nil
  go_simp
  go_wp2_with (refine (c1.out _ hD0.out).mono ?_; rintro r V1 ⟨rfl, hP1, hB1⟩; replace hE0 := Hd.mk (hE0.out.trans hB1); clear hB1 hHeld)
  refine hK.out _ _ (KB.out _ hP1) (fun hHeld => ?_)
  clear hK K
  try simp only [Act.put, List.setIfInBounds_toArray, List.set_cons_zero, List.set_cons_succ]
  refine wpAnyH_ready (rs := [5]) (by kernel_rfl) (by simp) ?_
  refine AllReadyH.cons (o := { dst := some 154, op := Op.call { callee := Callee.value (Operand.func 28), args := #[Operand.tmp 153], argTypes := #[32] }, type := 9, pos := "law.go:112", after := #[{ on := 4, ground := Ground.data }, { on := 2, ground := Ground.chain }], guard := none }) rfl (fun K hK => ?_) AllReadyH.nil
  go_simp
  go_wp2_with (refine (c2.out _ hP1).mono ?_; rintro r V2 ⟨rfl, hP2, hB2⟩; replace hE0 := Hd.mk (hE0.out.trans hB2); clear hB2 hHeld)
  refine hK.out _ _ (KB.out _ hP2) (fun hHeld => ?_)
  clear hK K
  try simp only [Act.put, List.setIfInBounds_toArray, List.set_cons_zero, List.set_cons_succ]
  refine wpAnyH_take (i := 6) (oi := { dst := some 155, op := Op.binOp BinOp.eql 9 (Operand.tmp 151) (Operand.tmp 154) 9, type := 4, pos := "law.go:112", after := #[{ on := 2, ground := Ground.data }, { on := 5, ground := Ground.data }], guard := none }) (v := ?_) rfl (by kernel_rfl) (by kernel_rfl) (by kernel_rfl) (fun _ _ _ h => h) (Or.inl ⟨by rfl, ?_⟩) (by assumption) ?_
  rotate_left
  · intro w hSw; (try dsimp only at hSw); go_simp; first | done | with_reducible rfl
  try simp only [Act.put, List.setIfInBounds_toArray, List.set_cons_zero, List.set_cons_succ]
  refine wpAnyH_take (i := 7) (oi := { dst := some 6, op := Op.assign (Operand.tmp 155), type := 4, pos := "law.go:112", after := #[{ on := 6, ground := Ground.data }, { on := 5, ground := Ground.chain }, { on := 0, ground := Ground.phase }, { on := 1, ground := Ground.phase }, { on := 2, ground := Ground.phase }, { on := 3, ground := Ground.phase }, { on := 4, ground := Ground.phase }, { on := 5, ground := Ground.phase }, { on := 6, ground := Ground.phase }], guard := none }) (v := ?_) rfl (by kernel_rfl) (by kernel_rfl) (by kernel_rfl) (fun _ _ _ h => h) (Or.inl ⟨by rfl, ?_⟩) (by assumption) ?_
  rotate_left
  · intro w hSw; (try dsimp only at hSw); go_simp; first | done | with_reducible rfl
  try simp only [Act.put, List.setIfInBounds_toArray, List.set_cons_zero, List.set_cons_succ]
  refine wpAnyH_done (by kernel_rfl) ?_ _
  go_wp2_with fail
  go_ret
  exact ⟨rfl, K, b, t, g, c, hP2.drop.drop, hr.out, by omega, hE0.out⟩
set_option maxRecDepth 100000 in
set_option maxHeartbeats 8000000 in
theorem step0 (B kb K a d : Nat) (b : Nat → UInt8) (t : Nat → Option Cp) (g : Nat → Bool) (c : Nat → Cp) (l : List Ob) (x : T.Po) (w : World) (h : Ps B w kb K a d b b t g c l) (hr : Rel t g c) (ho : x.Ok) (_hK : K + 2 ≤ 1048575) (n1 : ¬ x.k = 1) (n2 : ¬ x.k = 2) (n3 : ¬ x.k = 3) (n4 : ¬ x.k = 4) (n5 : ¬ x.k = 5) (n6 : ¬ x.k = 6) :
    Calls Try.prog 9 #[.agg #[.pointer (some ⟨a, 0, none⟩), .pointer (some ⟨d, 0, none⟩)], .agg #[.int .i64 x.m, .int .i64 x.k, .int .u64 x.a, .int .u64 x.z, .int .u64 x.n, .bool x.v.g, .int .u64 x.v.n, .int .u64 x.v.c.b, .int .u64 x.v.c.e, .int .u64 x.v.c.c, .int .u8 x.v.c.p, .int .i64 x.v.c.s], .pointer (some ⟨kb, 0, none⟩)] w fun r w' => r = .returned (.bool true) ∧ ∃ K' b' t' g' c', Ps B w' kb K' a d b' b' t' g' c' l ∧ Rel t' g' c' ∧ K' ≤ K + 2 ∧ Below B w w' := by
  obtain ⟨m, k, ad, z, n, v⟩ := x
  have hra : ad < 18446744073709551616 := ho.ra
  have hrz : z < 18446744073709551616 := ho.rz
  have hrn : n < 18446744073709551616 := ho.rn
  have hrv : v.Ok := ho.rv
  dsimp only at *
  clear ho
  have e1 : (k == 1) = false := by simpa using n1
  have e2 : (k == 2) = false := by simpa using n2
  have e3 : (k == 3) = false := by simpa using n3
  have e4 : (k == 4) = false := by simpa using n4
  have e5 : (k == 5) = false := by simpa using n5
  have e6 : (k == 6) = false := by simpa using n6
  clear n1 n2 n3 n4 n5 n6
  have h2 := Hd.mk (h.two #[.pointer (some ⟨a, 0, none⟩), .pointer (some ⟨d, 0, none⟩)] #[.int .i64 m, .int .i64 k, .int .u64 ad, .int .u64 z, .int .u64 n, .bool v.g, .int .u64 v.n, .int .u64 v.c.b, .int .u64 v.c.e, .int .u64 v.c.c, .int .u8 v.c.p, .int .i64 v.c.s] 35 49)
  have hle := h.le
  replace h := Hd.mk h
  replace hr := Hd.mk hr
  replace hrv := Hd.mk hrv
  go_enter Try.func9, Try.ntmps9
  go_upto_region 1 with fail
  refine wp_world (fun W => Ps B W kb K a d b b t g c (boxOb (w.heap.size + 1) #[.int .i64 m, .int .i64 k, .int .u64 ad, .int .u64 z, .int .u64 n, .bool v.g, .int .u64 v.n, .int .u64 v.c.b, .int .u64 v.c.e, .int .u64 v.c.c, .int .u8 v.c.p, .int .i64 v.c.s] :: boxOb w.heap.size #[.pointer (some ⟨a, 0, none⟩), .pointer (some ⟨d, 0, none⟩)] :: l) ∧ Below w.heap.size w W) h2.out ?_
  rintro W0 ⟨hP, hB⟩
  replace hP := Hd.mk hP
  replace hB : Hd (Below B w W0) := Hd.mk (hB.mono hle)
  clear h2 h
  generalize hko : w.heap.size + 1 = ko at *
  generalize hkp : w.heap.size = kp at *
  clear hko
  have AO := hP.out.there (boxOb ko #[.int .i64 m, .int .i64 k, .int .u64 ad, .int .u64 z, .int .u64 n, .bool v.g, .int .u64 v.n, .int .u64 v.c.b, .int .u64 v.c.e, .int .u64 v.c.c, .int .u8 v.c.p, .int .i64 v.c.s]) (.head _)
  have AP := hP.out.there (boxOb kp #[.pointer (some ⟨a, 0, none⟩), .pointer (some ⟨d, 0, none⟩)]) (.tail _ (.head _))
  have o1 : W0.cell? ⟨ko, 1, none⟩ = some (.int .i64 k) := AO.2.1 1
  replace AO := Hd.mk AO
  replace AP := Hd.mk AP
  go_wp2_with fail
  go_ret
  exact ⟨rfl, K, b, t, g, c, hP.out.drop.drop, hr.out, by omega, hB.out⟩
end U
end Go.Proofs.Ythblllanofnmmaa
