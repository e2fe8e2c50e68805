import Derived.Test.YtmohpcijpliilaaGreatDoorP41
namespace Go.Proofs.YtmohpcijpliilaaGreatDoor
set_option maxRecDepth 100000
set_option maxHeartbeats 40000000
namespace C
open Go.RowKit
open T (Sep Ob Kp Mf TgIn boxOb Fm Tc Ed Vl Cp Bx tgOb mRow updV flt)

theorem walk_CapmachineNone (fuel : Int) (w : World) (ht : TabIn w) : Calls Tryz.prog 3 #[.int .i64 fuel] w fun x w' => x = .returned (.bool true) ∧ Below w.heap.size w w' := by
 have hEx := Hz.mk (examples_any w ht)
 have hSn := Hz.mk Snap_nil
 have hMe := Hz.mk Memory_nil
 go_enter Tryz.func3, Tryz.ntmps3
 go_wp2_with fail
 refine hEx.out.mono ?_
 rintro r Y1 ⟨rfl, hB⟩
 replace hB := Hz.mk hB
 clear hEx
 go_wp2_with fail
 refine (Step_nil _).mono ?_
 rintro r Y2 ⟨rfl, gg⟩
 replace hB := Hz.mk (Bl.trans hB.out gg)
 clear gg
 go_upto_region 4 with fail
 refine wp_world (fun X => At X Y2.heap.size (List.toArray [Value.int .i64 0, .int .u64 0, .int .i64 0, .int .i64 0, .int .i64 0]) ∧ Bl Y2 X) ⟨At.new Y2 _ _, (Bl.refl _).alloc _⟩ ?_
 rintro Y3 ⟨a5, gg⟩
 replace a5 := Hz.mk a5
 replace hB := Hz.mk (Bl.trans hB.out gg)
 clear gg
 generalize Y2.heap.size = ka5 at *
 go_wp2_with fail
 refine (Run_nil fuel _).mono ?_
 rintro r Y4 ⟨rfl, gg⟩
 replace hB := Hz.mk (Bl.trans hB.out gg)
 replace a5 := Hz.mk (Bl.at_ gg a5.out)
 clear gg
 go_upto_region 5 with fail
 refine wp_world (fun X => At X Y4.heap.size (List.toArray [Value.int .i64 0, .int .u64 0, .int .i64 0, .int .i64 0, .int .i64 0]) ∧ Bl Y4 X) ⟨At.new Y4 _ _, (Bl.refl _).alloc _⟩ ?_
 rintro Z4 ⟨a6, gg⟩
 replace a6 := Hz.mk a6
 replace hB := Hz.mk (Bl.trans hB.out gg)
 replace a5 := Hz.mk (Bl.at_ gg a5.out)
 clear gg
 generalize Y4.heap.size = ka6 at *
 refine wp_region_lit ?_
 refine wpList_plain rfl (fun K hK => ?_)
 go_simp
 with_reducible refine hK _ _ ?_
 clear hK K
 try simp only [xap]
 refine wpList_plain rfl (fun K hK => ?_)
 go_simp
 (refine (hSn.out _).mono ?_; rintro r Y5 ⟨rfl, gg⟩; replace hB := Hz.mk (Bl.trans hB.out gg); replace a5 := Hz.mk (Bl.at_ gg a5.out); replace a6 := Hz.mk (Bl.at_ gg a6.out); clear gg; have hA7 : At (Y5.alloc (.cells (snR zS).toArray 38)) Y5.heap.size (snR zS).toArray := At.new Y5 _ _; have hth := Hz.mk (At.there hA7 0 115 (by rw [snR_len]; decide)); have hA8 := Hz.mk (At.setAll hA7 (snR zS) rfl); have g9 := Hz.mk (((Bl.refl Y5).alloc (.cells (snR zS).toArray 38)).sets Y5.heap.size (Nat.le_refl _) (snR zS) 0); replace hA7 := Hz.mk hA7)
 with_reducible refine hK _ _ ?_
 clear hK K
 try simp only [xap]
 refine wpList_plain rfl (fun K hK => ?_)
 refine wp_alloc_sn rfl (hK _ _ ?_)
 clear hK K
 try simp only [xap]
 refine wpList_store_mid rfl _ _ _ rfl _ _ (List.toArray (snR zS)) rfl rfl (show World.there _ _ _ _ by rw [show (snR zS).toArray.size = 115 from snR_len zS]; exact hth.out) (by rw [List.size_toArray, snR_len]; kernel_rfl) (snR_one zS) ?_
 try simp only [Act.put]
 clear hth hA7
 replace hB := Hz.mk (Bl.trans hB.out g9.out)
 replace a5 := Hz.mk (Bl.at_ g9.out a5.out)
 replace a6 := Hz.mk (Bl.at_ g9.out a6.out)
 clear g9
 generalize World.setCells _ _ _ _ = Z5 at *
 generalize Y5.heap.size = ka7 at *
 have a7 := hA8
 clear hA8
 go_wp2_with fail
 refine (Out_nil _).mono ?_
 rintro r Z6 ⟨rfl, rfl⟩
 go_wp2_with fail
 refine (Touches_nil _).mono ?_
 rintro r Z7 ⟨rfl, rfl⟩
 go_upto_region 8 with fail
 have ⟨_, p5, _⟩ := a5.out
 have ⟨_, p6, _⟩ := a6.out
 refine wp_region_lit ?_
 iterate 2 (refine wpList_plain rfl (fun K hK => ?_); go_simp; with_reducible refine hK _ _ ?_; clear hK K; (try simp only [xap]))
 refine BigFrame.wpList_want (by rfl) (fun K hK => ?_)
 go_simp
 with_reducible refine hK _ _ ?_
 clear hK K
 try simp only [xap]
 refine BigFrame.wpList_want (by rfl) (fun K hK => ?_)
 go_simp
 with_reducible refine hK _ _ ?_
 clear hK K
 try simp only [xap]
 refine BigFrame.wpList_want (by rfl) (fun K hK => ?_)
 go_simp
 with_reducible refine hK _ _ ?_
 clear hK K
 try simp only [xap]
 iterate 2 (refine wpList_plain rfl (fun K hK => ?_); go_simp; with_reducible refine hK _ _ ?_; clear hK K; (try simp only [xap]))
 refine BigFrame.wpList_want (by rfl) (fun K hK => ?_)
 go_simp
 with_reducible refine hK _ _ ?_
 clear hK K
 try simp only [xap]
 refine BigFrame.wpList_want (by rfl) (fun K hK => ?_)
 go_simp
 with_reducible refine hK _ _ ?_
 clear hK K
 try simp only [xap]
 refine BigFrame.wpList_want (by rfl) (fun K hK => ?_)
 go_simp
 with_reducible refine hK _ _ ?_
 clear hK K
 try simp only [xap]
 iterate 2 (refine wpList_plain rfl (fun K hK => ?_); go_simp; with_reducible refine hK _ _ ?_; clear hK K; (try simp only [xap]))
 refine BigFrame.wpList_want (by rfl) (fun K hK => ?_)
 refine wp_load_mid _ _ rfl _ 0 rfl (snR zS) _ a7.out.range Tryz.underlying38 rfl (by rw [snR_len]; kernel_rfl) (hK _ _ ?_)
 clear hK K
 try simp only [xap]
 refine BigFrame.wpList_want (by rfl) (fun K hK => ?_)
 refine wp_build0 rfl (hK _ _ ?_)
 clear hK K
 try simp only [xap]
 refine BigFrame.wpList_want (by rfl) (fun K hK => ?_)
 refine wp_eql0 _ _ rfl rfl rfl (hK _ _ ?_)
 clear hK K
 try simp only [xap]
 iterate 2 (refine wpList_plain rfl (fun K hK => ?_); go_simp; with_reducible refine hK _ _ ?_; clear hK K; (try simp only [xap]))
 refine BigFrame.wpList_want (by rfl) (fun K hK => ?_)
 go_simp
 with_reducible refine hK _ _ ?_
 clear hK K
 try simp only [xap]
 refine BigFrame.wpList_want (by rfl) (fun K hK => ?_)
 go_simp
 with_reducible refine hK _ _ ?_
 clear hK K
 try simp only [xap]
 refine BigFrame.wpList_want (by rfl) (fun K hK => ?_)
 go_simp
 with_reducible refine hK _ _ ?_
 clear hK K
 try simp only [xap]
 iterate 2 (refine wpList_plain rfl (fun K hK => ?_); go_simp; with_reducible refine hK _ _ ?_; clear hK K; (try simp only [xap]))
 refine BigFrame.wpList_want (by rfl) (fun K hK => ?_)
 go_simp
 with_reducible refine hK _ _ ?_
 clear hK K
 try simp only [xap]
 refine BigFrame.wpList_want (by rfl) (fun K hK => ?_)
 go_simp
 with_reducible refine hK _ _ ?_
 clear hK K
 try simp only [xap]
 refine BigFrame.wpList_want (by rfl) (fun K hK => ?_)
 go_simp
 with_reducible refine hK _ _ ?_
 clear hK K
 try simp only [xap]
 iterate 2 (refine wpList_plain rfl (fun K hK => ?_); go_simp; with_reducible refine hK _ _ ?_; clear hK K; (try simp only [xap]))
 refine BigFrame.wpList_want (by rfl) (fun K hK => ?_)
 go_simp
 with_reducible refine hK _ _ ?_
 clear hK K
 try simp only [xap]
 refine BigFrame.wpList_want (by rfl) (fun K hK => ?_)
 go_simp
 (refine (hMe.out _).mono ?_; rintro r X9 ⟨rfl, rfl⟩)
 with_reducible refine hK _ _ ?_
 clear hK K
 try simp only [xap]
 refine BigFrame.wpList_want (by rfl) (fun K hK => ?_)
 go_simp
 with_reducible refine hK _ _ ?_
 clear hK K
 try simp only [xap]
 iterate 2 (refine wpList_plain rfl (fun K hK => ?_); go_simp; with_reducible refine hK _ _ ?_; clear hK K; (try simp only [xap]))
 go_wp2_with fail
 go_ret
 exact ⟨rfl, hB.out⟩
end C
end Go.Proofs.YtmohpcijpliilaaGreatDoor
