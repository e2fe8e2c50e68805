import Derived.Test.YtlkcoamekhakjaaDoorJ18
import Derived.Test.YtlkcoamekhakjaaDoorJ06
namespace Go.Proofs.YtlkcoamekhakjaaDoor
set_option maxRecDepth 100000
set_option maxHeartbeats 40000000
namespace Bd
open Go.RowKit
open T (Kp)

theorem walk_BoundAgrees (m : PImg) (ra ca ga : Option Addr) (rc cc gc : Nat) (w : World) (ht : TabIn w) (hm : ImgIn w.heap.size w ra ca ga m) (hF : m.Fit) :
   Calls Tryd.prog 3 #[.agg #[.slice ra m.regs.length rc, .slice ca m.comps.length cc, .slice ga m.gates.length gc, .int .i64 m.depth]] w fun e w' => e = .returned (.bool true) ∧ Below w.heap.size w w' := by
 have hfit := hF.tw
 have hrng := hF.rng
 have hgl : m.gates.length ≤ maxG := hrng.gates.1
 unfold maxG at hgl
 have hH := Hz.mk (fun W (q : Below w.heap.size w W) => head_any W (ht.below q ht.size))
 have hTw := Hz.mk (fun W (q : Below w.heap.size w W) => Q.Twin_any m ra ca ga rc cc gc W ((hm.below q).mono q.size) hfit)
 have hGt := Hz.mk (fun W ra ca ga rc cc gc (g : Nat) (q : Below w.heap.size w W) (h : ImgIn W.heap.size W ra ca ga m) => Gate_any m ra ca ga rc cc gc g W (ht.below q ht.size) h hrng)
 have hDp := Hz.mk (fun W ra ca ga rc cc gc (g : Nat) (q : Below w.heap.size w W) (h : ImgIn W.heap.size W ra ca ga m) => Deep_any m ra ca ga rc cc gc g W (ht.below q ht.size) h hrng)
 have hAg : ∀ (g : Nat) v, (if hgB m g = true then ev (nxG m) (ctF m) (List.range m.gates.length) (g : Int).toNat else none) = some v → (if hgB m g = true then ev (nxG m) dpF (List.range m.gates.length) (g : Int).toNat else none) = some v.c ∧ Fair v := fun g v h => by
   cases hh : hgB m g with
   | false => rw [hh] at h; cases h
   | true =>
     rw [hh, if_pos rfl] at h
     rw [if_pos rfl]
     have hg0 : m.right = 0 ∧ (0 : Int) ≤ g ∧ (g : Int) < m.gates.length := by simpa [hgB] using hh
     rw [Int.toNat_natCast] at h ⊢
     exact agree (bok_of m hg0.1) (List.mem_range.2 (by omega)) h
 replace hAg := Hz.mk hAg
 unfold imA at hGt hDp
 clear hm ht hF hfit hrng
 go_enter Tryd.func3, Tryd.ntmps3
 go_upto_region 1 with fail
 refine wp_world (fun W => At W w.heap.size #[.slice ra m.regs.length rc, .slice ca m.comps.length cc, .slice ga m.gates.length gc, .int .i64 m.depth] ∧ Below w.heap.size w W) ⟨At.new w _ _, bl_alloc _ _⟩ ?_
 rintro W ⟨A0, hB⟩
 replace A0 := Hz.mk A0
 replace hB := Hz.mk hB
 go_upto_region 2 with (go_at_call 4; refine (hH.out _ hB.out).mono ?_; rintro r W1 ⟨rfl, b1⟩; replace b1 := Hz.mk b1)
 have A1 := Hz.mk (at_past A0.out b1.out)
 have hB1 := Hz.mk (hB.out.trans (b1.out.mono hB.out.size))
 have c0 : W1.cell? ⟨w.heap.size, 0, none⟩ = some (.slice ra m.regs.length rc) := A1.out.2.1 0
 have c1 : W1.cell? ⟨w.heap.size, 1, none⟩ = some (.slice ca m.comps.length cc) := A1.out.2.1 1
 have c2 : W1.cell? ⟨w.heap.size, 2, none⟩ = some (.slice ga m.gates.length gc) := A1.out.2.1 2
 have c3 : W1.cell? ⟨w.heap.size, 3, none⟩ = some (.int .i64 m.depth) := A1.out.2.1 3
 clear A0 hB b1 hH
 go_upto_region 3 with (go_at_call 5; refine (hTw.out _ hB1.out).mono ?_; rintro r W2 ⟨rfl, G2, lr, lc, lg, hT⟩; have b2 := Hz.mk G2.below; have i2 := Hz.mk (twin_img hT); clear G2 hT; generalize W1.heap.size + 1 + 1 + 1 + 1 + 1 = kg at *; generalize W1.heap.size + 1 + 1 + 1 + 1 = kc at *; generalize W1.heap.size + 1 + 1 + 1 = kr at *)
 clear c0 c1 c2 c3 hTw
 have A2 := Hz.mk (at_past A1.out b2.out)
 have hB2 := Hz.mk (hB1.out.trans (b2.out.mono hB1.out.size))
 refine wp_world (fun X => At X W2.heap.size #[.slice (some ⟨kr, 0, none⟩) m.regs.length (m.regs.length + 8), .slice (some ⟨kc, 0, none⟩) m.comps.length (m.comps.length + 8), .slice (some ⟨kg, 0, none⟩) m.gates.length (m.gates.length + 8), .int .i64 m.depth] ∧ Below W2.heap.size W2 X) ⟨At.new W2 _ _, bl_alloc _ _⟩ ?_
 rintro X ⟨AT, b3⟩
 have st : At X W2.heap.size #[.slice (some ⟨kr, 0, none⟩) m.regs.length (m.regs.length + 8), .slice (some ⟨kc, 0, none⟩) m.comps.length (m.comps.length + 8), .slice (some ⟨kg, 0, none⟩) m.gates.length (m.gates.length + 8), .int .i64 m.depth] ∧ At X w.heap.size #[.slice ra m.regs.length rc, .slice ca m.comps.length cc, .slice ga m.gates.length gc, .int .i64 m.depth] ∧ ImgIn X.heap.size X (some ⟨kr, 0, none⟩) (some ⟨kc, 0, none⟩) (some ⟨kg, 0, none⟩) m ∧ Below w.heap.size w X :=
   ⟨AT, at_past A2.out b3, (i2.out.below b3).mono b3.size, hB2.out.trans (b3.mono hB2.out.size)⟩
 replace st := Hz.mk st
 clear AT b3 A2 hB2 A1 hB1 b2 i2
 generalize W2.heap.size = kt at *
 go_upto_region 4 with fail
 go_loopw [5] (fun iv wr => ∃ j : Nat, iv = .int .i64 j ∧ j ≤ m.gates.length ∧ Hz (At wr kt #[.slice (some ⟨kr, 0, none⟩) m.regs.length (m.regs.length + 8), .slice (some ⟨kc, 0, none⟩) m.comps.length (m.comps.length + 8), .slice (some ⟨kg, 0, none⟩) m.gates.length (m.gates.length + 8), .int .i64 m.depth] ∧ At wr w.heap.size #[.slice ra m.regs.length rc, .slice ca m.comps.length cc, .slice ga m.gates.length gc, .int .i64 m.depth] ∧ ImgIn wr.heap.size wr (some ⟨kr, 0, none⟩) (some ⟨kc, 0, none⟩) (some ⟨kg, 0, none⟩) m ∧ Below w.heap.size w wr)) (fun iv _ => m.gates.length - (intOf iv).toNat)
 case atStart => exact ⟨0, rfl, by omega, st⟩
 case round =>
   clear st
   obtain ⟨j, rfl, hj, ⟨AT, AM, hI, hB⟩⟩ := hrel
   have c2 : wr.cell? ⟨w.heap.size, 2, none⟩ = some (.slice ga m.gates.length gc) := AM.2.1 2
   have t0 : wr.cell? ⟨kt, 0, none⟩ = some (.slice (some ⟨kr, 0, none⟩) m.regs.length (m.regs.length + 8)) := AT.2.1 0
   have t1 : wr.cell? ⟨kt, 1, none⟩ = some (.slice (some ⟨kc, 0, none⟩) m.comps.length (m.comps.length + 8)) := AT.2.1 1
   have t2 : wr.cell? ⟨kt, 2, none⟩ = some (.slice (some ⟨kg, 0, none⟩) m.gates.length (m.gates.length + 8)) := AT.2.1 2
   have t3 : wr.cell? ⟨kt, 3, none⟩ = some (.int .i64 m.depth) := AT.2.1 3
   by_cases hlt : j < m.gates.length
   · have hi1 : (j : Int) < m.gates.length := by omega
     have hgc := Hz.mk (hGt.out wr _ _ _ (m.regs.length + 8) (m.comps.length + 8) (m.gates.length + 8) j hB hI)
     have hdc := Hz.mk (fun W ra ca ga rc cc gc => hDp.out W ra ca ga rc cc gc j)
     have hag := hAg.out j
     generalize (if hgB m j = true then ev (nxG m) (ctF m) (List.range m.gates.length) (j : Int).toNat else none) = res at *
     generalize (if hgB m j = true then ev (nxG m) dpF (List.range m.gates.length) (j : Int).toNat else none) = dres at *
     have hij : Hz (IntKind.i64.wrap ((j : Int) + 1) = ((j + 1 : Nat) : Int)) := Hz.mk (by rw [IntKind.wrap_i64]; omega)
     have hij2 : Hz (wrap64 ((j : Int) + 1) = ((j + 1 : Nat) : Int)) := Hz.mk (by unfold wrap64; omega)
     replace AT := Hz.mk AT
     replace AM := Hz.mk AM
     replace hI := Hz.mk hI
     replace hB := Hz.mk hB
     go_upto_region 6 with fail
     cases res with
     | some v =>
       obtain ⟨rfl, hf⟩ := hag v rfl
       clear hag
       unfold gtV at hgc
       go_upto_region 7 with (go_at_call 6; refine hgc.out.mono ?_; rintro r w1 ⟨rfl, b1⟩; replace b1 := Hz.mk b1)
       refine wp_world (fun Y => At Y w1.heap.size #[.bool true, .int .u64 v.s, .int .u64 v.c, .int .u64 v.i] ∧ Below w1.heap.size w1 Y) ⟨At.new w1 _ _, bl_alloc _ _⟩ ?_
       rintro Y ⟨aC, bY⟩
       have AT1 := at_past (at_past AT.out b1.out) bY
       have AM1 := at_past (at_past AM.out b1.out) bY
       have hI1 := (((hI.out.below b1.out).mono b1.out.size).below bY).mono bY.size
       have hB1 := (hB.out.trans (b1.out.mono hB.out.size)).trans (bY.mono (Nat.le_trans hB.out.size b1.out.size))
       clear t0 t1 t2 t3 c2 bY hgc
       generalize w1.heap.size = kx at *
       have t0 : Y.cell? ⟨kt, 0, none⟩ = some (.slice (some ⟨kr, 0, none⟩) m.regs.length (m.regs.length + 8)) := AT1.2.1 0
       have t1 : Y.cell? ⟨kt, 1, none⟩ = some (.slice (some ⟨kc, 0, none⟩) m.comps.length (m.comps.length + 8)) := AT1.2.1 1
       have t2 : Y.cell? ⟨kt, 2, none⟩ = some (.slice (some ⟨kg, 0, none⟩) m.gates.length (m.gates.length + 8)) := AT1.2.1 2
       have t3 : Y.cell? ⟨kt, 3, none⟩ = some (.int .i64 m.depth) := AT1.2.1 3
       have hcl := Hz.mk (hdc.out Y _ _ _ (m.regs.length + 8) (m.comps.length + 8) (m.gates.length + 8) hB1 hI1)
       replace AT1 := Hz.mk AT1
       replace AM1 := Hz.mk AM1
       replace hI1 := Hz.mk hI1
       replace hB1 := Hz.mk hB1
       replace aC := Hz.mk aC
       clear AT AM hI hB b1 hdc
       unfold tupi at hcl
       go_upto_region 8 with (go_at_call 7; refine hcl.out.mono ?_; rintro r w3 ⟨rfl, b3⟩; replace b3 := Hz.mk b3)
       clear t0 t1 t2 t3 hcl
       have aC3 := at_past aC.out b3.out
       have e0 : w3.cell? ⟨kx, 0, none⟩ = some (.bool true) := aC3.2.1 0
       have e1 : w3.cell? ⟨kx, 1, none⟩ = some (.int .u64 v.s) := aC3.2.1 1
       have e2 : w3.cell? ⟨kx, 2, none⟩ = some (.int .u64 v.c) := aC3.2.1 2
       have e3 : w3.cell? ⟨kx, 3, none⟩ = some (.int .u64 v.i) := aC3.2.1 3
       have fin := Hz.mk (And.intro (at_past AT1.out b3.out) (And.intro (at_past AM1.out b3.out) (And.intro ((hI1.out.below b3.out).mono b3.out.size) (hB1.out.trans (b3.out.mono hB1.out.size)))))
       clear aC aC3 AT1 AM1 hI1 hB1 b3
       replace hij := hij.out
       replace hij2 := hij2.out
       have hconv : IntKind.u64.wrap v.c = v.c := wrapU _ (by have := hf.c0; have := hf.c1; have := hf.s2; omega)
       have f1 : ¬ v.s < 1 := by have := hf.s1; omega
       have f2 : ¬ v.s < v.i := by have := hf.i1; omega
       have f3 : ¬ v.s ≤ v.c := by have := hf.c1; omega
       have f4 : v.i ≤ v.s := hf.i1
       have f5 : v.c < v.s := hf.c1
       have f6 : 1 ≤ v.s := hf.s1
       clear hf
       go_wp2_with fail
       clear hij hij2
       go_roundw
       case rel => exact ⟨j + 1, by simp, by omega, fin⟩
       case measure => simp only [intOf]; omega
     | none =>
       clear hag
       unfold gtV at hgc
       cases dres with
       | some dv =>
         go_upto_region 7 with (go_at_call 6; refine hgc.out.mono ?_; rintro r w1 ⟨rfl, b1⟩; replace b1 := Hz.mk b1)
         refine wp_world (fun Y => At Y w1.heap.size #[.bool false, .int .u64 0, .int .u64 0, .int .u64 0] ∧ Below w1.heap.size w1 Y) ⟨At.new w1 _ _, bl_alloc _ _⟩ ?_
         rintro Y ⟨aC, bY⟩
         have AT1 := at_past (at_past AT.out b1.out) bY
         have AM1 := at_past (at_past AM.out b1.out) bY
         have hI1 := (((hI.out.below b1.out).mono b1.out.size).below bY).mono bY.size
         have hB1 := (hB.out.trans (b1.out.mono hB.out.size)).trans (bY.mono (Nat.le_trans hB.out.size b1.out.size))
         clear t0 t1 t2 t3 c2 bY hgc
         generalize w1.heap.size = kx at *
         have t0 : Y.cell? ⟨kt, 0, none⟩ = some (.slice (some ⟨kr, 0, none⟩) m.regs.length (m.regs.length + 8)) := AT1.2.1 0
         have t1 : Y.cell? ⟨kt, 1, none⟩ = some (.slice (some ⟨kc, 0, none⟩) m.comps.length (m.comps.length + 8)) := AT1.2.1 1
         have t2 : Y.cell? ⟨kt, 2, none⟩ = some (.slice (some ⟨kg, 0, none⟩) m.gates.length (m.gates.length + 8)) := AT1.2.1 2
         have t3 : Y.cell? ⟨kt, 3, none⟩ = some (.int .i64 m.depth) := AT1.2.1 3
         have hcl := Hz.mk (hdc.out Y _ _ _ (m.regs.length + 8) (m.comps.length + 8) (m.gates.length + 8) hB1 hI1)
         replace AT1 := Hz.mk AT1
         replace AM1 := Hz.mk AM1
         replace hI1 := Hz.mk hI1
         replace hB1 := Hz.mk hB1
         replace aC := Hz.mk aC
         clear AT AM hI hB b1 hdc
         unfold tupi at hcl
         go_upto_region 8 with (go_at_call 7; refine hcl.out.mono ?_; rintro r w3 ⟨rfl, b3⟩; replace b3 := Hz.mk b3)
         clear t0 t1 t2 t3 hcl
         have aC3 := at_past aC.out b3.out
         have e0 : w3.cell? ⟨kx, 0, none⟩ = some (.bool false) := aC3.2.1 0
         have e1 : w3.cell? ⟨kx, 1, none⟩ = some (.int .u64 0) := aC3.2.1 1
         have e2 : w3.cell? ⟨kx, 2, none⟩ = some (.int .u64 0) := aC3.2.1 2
         have e3 : w3.cell? ⟨kx, 3, none⟩ = some (.int .u64 0) := aC3.2.1 3
         have fin := Hz.mk (And.intro (at_past AT1.out b3.out) (And.intro (at_past AM1.out b3.out) (And.intro ((hI1.out.below b3.out).mono b3.out.size) (hB1.out.trans (b3.out.mono hB1.out.size)))))
         clear aC aC3 AT1 AM1 hI1 hB1 b3
         replace hij := hij.out
         replace hij2 := hij2.out
         go_wp2_with fail
         clear hij hij2
         go_roundw
         case rel => exact ⟨j + 1, by simp, by omega, fin⟩
         case measure => simp only [intOf]; omega
       | none =>
         go_upto_region 7 with (go_at_call 6; refine hgc.out.mono ?_; rintro r w1 ⟨rfl, b1⟩; replace b1 := Hz.mk b1)
         refine wp_world (fun Y => At Y w1.heap.size #[.bool false, .int .u64 0, .int .u64 0, .int .u64 0] ∧ Below w1.heap.size w1 Y) ⟨At.new w1 _ _, bl_alloc _ _⟩ ?_
         rintro Y ⟨aC, bY⟩
         have AT1 := at_past (at_past AT.out b1.out) bY
         have AM1 := at_past (at_past AM.out b1.out) bY
         have hI1 := (((hI.out.below b1.out).mono b1.out.size).below bY).mono bY.size
         have hB1 := (hB.out.trans (b1.out.mono hB.out.size)).trans (bY.mono (Nat.le_trans hB.out.size b1.out.size))
         clear t0 t1 t2 t3 c2 bY hgc
         generalize w1.heap.size = kx at *
         have t0 : Y.cell? ⟨kt, 0, none⟩ = some (.slice (some ⟨kr, 0, none⟩) m.regs.length (m.regs.length + 8)) := AT1.2.1 0
         have t1 : Y.cell? ⟨kt, 1, none⟩ = some (.slice (some ⟨kc, 0, none⟩) m.comps.length (m.comps.length + 8)) := AT1.2.1 1
         have t2 : Y.cell? ⟨kt, 2, none⟩ = some (.slice (some ⟨kg, 0, none⟩) m.gates.length (m.gates.length + 8)) := AT1.2.1 2
         have t3 : Y.cell? ⟨kt, 3, none⟩ = some (.int .i64 m.depth) := AT1.2.1 3
         have hcl := Hz.mk (hdc.out Y _ _ _ (m.regs.length + 8) (m.comps.length + 8) (m.gates.length + 8) hB1 hI1)
         replace AT1 := Hz.mk AT1
         replace AM1 := Hz.mk AM1
         replace hI1 := Hz.mk hI1
         replace hB1 := Hz.mk hB1
         replace aC := Hz.mk aC
         clear AT AM hI hB b1 hdc
         unfold tupi at hcl
         go_upto_region 8 with (go_at_call 7; refine hcl.out.mono ?_; rintro r w3 ⟨rfl, b3⟩; replace b3 := Hz.mk b3)
         clear t0 t1 t2 t3 hcl
         have aC3 := at_past aC.out b3.out
         have e0 : w3.cell? ⟨kx, 0, none⟩ = some (.bool false) := aC3.2.1 0
         have e1 : w3.cell? ⟨kx, 1, none⟩ = some (.int .u64 0) := aC3.2.1 1
         have e2 : w3.cell? ⟨kx, 2, none⟩ = some (.int .u64 0) := aC3.2.1 2
         have e3 : w3.cell? ⟨kx, 3, none⟩ = some (.int .u64 0) := aC3.2.1 3
         have fin := Hz.mk (And.intro (at_past AT1.out b3.out) (And.intro (at_past AM1.out b3.out) (And.intro ((hI1.out.below b3.out).mono b3.out.size) (hB1.out.trans (b3.out.mono hB1.out.size)))))
         clear aC aC3 AT1 AM1 hI1 hB1 b3
         replace hij := hij.out
         replace hij2 := hij2.out
         go_wp2_with fail
         clear hij hij2
         go_roundw
         case rel => exact ⟨j + 1, by simp, by omega, fin⟩
         case measure => simp only [intOf]; omega
   · have hi1 : ¬ (j : Int) < m.gates.length := by omega
     have hi2 : (m.gates.length : Int) ≤ j := by omega
     replace AT := Hz.mk AT
     replace AM := Hz.mk AM
     replace hI := Hz.mk hI
     replace hB := Hz.mk hB
     go_wp2_with fail
     go_ret
     exact ⟨rfl, hB.out⟩
end Bd
end Go.Proofs.YtlkcoamekhakjaaDoor
