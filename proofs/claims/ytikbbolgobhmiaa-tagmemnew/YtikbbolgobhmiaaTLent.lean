import Derived.Test.YtikbbolgobhmiaaP21
/-
  Stage 6, tagmem: regions that are lent.
-/
namespace Go.Proofs.Ytikbbolgobhmiaa
namespace T
open Go.RowKit

structure LFit (L : List Rg) : Prop where
  n : (L.length + 6) * 56 ≤ 140737488355328
  s : ∀ r ∈ L, (r.slots.length + 6) * 64 ≤ 140737488355328
/-- All of them lie below a block. -/
structure Far (k : Nat) (av rv : Value) (Z : List Zr) : Prop where
  s : ∀ z ∈ Z, z.g < k
  a : ∀ g, av.ownBlock = some g → g < k
  r : ∀ g, rv.ownBlock = some g → g < k
theorem LtIn.nil {lo : Nat} {W : World} : LtIn lo W (.slice none 0 0) (.slice none 0 0) [] 0 := ⟨⟨rfl, .inl ⟨rfl, rfl⟩⟩, ⟨rfl, .inl ⟨rfl, rfl⟩⟩, fun z h => (by cases h), List.Pairwise.nil⟩
theorem LtIn.far {lo : Nat} {W : World} {av rv : Value} {Z : List Zr} {k : Nat} (h : LtIn lo W av rv Z k) : Far W.heap.size av rv Z :=
  ⟨fun z hz => (own_block (h.sl z hz) z.g rfl).2, fun g e => (own_block h.all g e).2, fun g e => (own_block h.rows g e).2⟩
theorem fit6 {S : List Sl} {k : Nat} (h : (S.length + 6) * 64 ≤ 140737488355328) (hk : k < 6) : FitB 64 ((S ++ List.replicate k s77).length + 1) := by
  unfold FitB
  rw [List.length_append, List.length_replicate]
  exact Nat.le_trans (Nat.mul_le_mul_right 64 (by omega)) h
theorem len_step {S : List Sl} {k : Nat} : (S ++ List.replicate k s77).length + 1 = (S ++ List.replicate (k + 1) s77).length := by
  rw [List.length_append, List.length_append, List.length_replicate, List.length_replicate]
  omega
theorem slR_step {lo : Nat} {W : World} {g c : Nat} {S : List Sl} {k : Nat} (h : W.ownsRow lo 45 8 (.slice (some ⟨g, 0, none⟩) ((S ++ List.replicate k s77).length + 1) c) ((S ++ List.replicate k s77).length + 1) ((S ++ List.replicate k s77).flatMap Sl.vals ++ [.bool false, .int .u64 0, .int .u64 0, .int .u64 0, .int .u64 0, .int .u8 0, .int .i64 0, .int .u64 77])) :
    slR lo W (.slice (some ⟨g, 0, none⟩) (S ++ List.replicate (k + 1) s77).length c) (S ++ List.replicate (k + 1) s77) := by
  rw [len_step] at h
  unfold slR
  have e : (S ++ List.replicate (k + 1) s77).flatMap Sl.vals = (S ++ List.replicate k s77).flatMap Sl.vals ++ Sl.vals s77 := by
    rw [List.replicate_succ', ← List.append_assoc, List.flatMap_append]
    simp
  rw [e]
  exact h
theorem next_wT {k n : Nat} (h : k < n) (hn : (n + 6) * 56 ≤ 140737488355328) : wrap64 ((k : Int) + 1) = ((k + 1 : Nat) : Int) := by unfold wrap64; omega
theorem next_mT {k n : Nat} (h : k < n) : n - (intOf (.int .i64 ((k + 1 : Nat) : Int))).toNat < n - (intOf (.int .i64 (k : Int))).toNat := by simp [intOf]; omega
theorem own_cap {w : World} {lo e s n c g : Nat} {xs : List Value} (h : w.ownsRow lo e s (.slice (some ⟨g, 0, none⟩) n c) n xs) : n ≤ c := by
  rcases h.2 with ⟨q, _⟩ | ⟨g', cap, cur, q, _, _, hn, _⟩
  · cases q
  · cases q; exact hn
theorem At.undT {w w1 : World} {B k : Nat} {cs : Array Value} (h : At w k cs) (hb : Below B w w1) (hk : k < B) : At w1 k cs :=
  ⟨Nat.lt_of_lt_of_le h.1 hb.size, fun i => by rw [World.cell?_of_block (a := ⟨k, i, none⟩) (hb.block k hk)]; exact h.2.1 i, fun i => by rw [World.frozen?_of_block (a := ⟨k, i, none⟩) (hb.block k hk)]; exact h.2.2 i⟩
theorem infoReg : (Try.prog.info? 40).map (fun i => (i.zero, i.size, i.bytes)) = some (some (.agg #[.int .u64 0, .int .u64 0, .string ⟨#[]⟩, .slice none 0 0]), 4, 56) := by kernel_rfl
theorem infoSls : (Try.prog.info? 38).map (fun i => (i.zero, i.size, i.bytes)) = some (some (.slice none 0 0), 1, 24) := by kernel_rfl
theorem fit_all {L : List Rg} {n : Nat} (h : LFit L) (hn : n < L.length + 6) : FitB 56 (n + 1) := Nat.le_trans (Nat.mul_le_mul_right 56 hn) h.n
theorem fit_rows {L : List Rg} {n : Nat} (h : LFit L) (hn : n < L.length + 6) : FitB 24 (n + 1) := Nat.le_trans (Nat.mul_le_mul (show n + 1 ≤ L.length + 6 from hn) (show 24 ≤ 56 by decide)) h.n
theorem At.grownT {w w' : World} {k : Nat} {cs : Array Value} {row : Option Nat} (h : At w k cs) (g : w.grownBy w' row) (hr : row = some k → False) : At w' k cs := by
  have e := g.block k h.1 (fun q => hr q.symm)
  exact ⟨Nat.lt_of_lt_of_le h.1 g.size, fun i => by rw [World.cell?_of_block (a := ⟨k, i, none⟩) e]; exact h.2.1 i, fun i => by rw [World.frozen?_of_block (a := ⟨k, i, none⟩) e]; exact h.2.2 i⟩
theorem own_setNe {w : World} {lo e s n k o : Nat} {v u : Value} {xs : List Value} (h : w.ownsRow lo e s v n xs) (hk : ∀ g, v.ownBlock = some g → g ≠ k) : (w.setCell ⟨k, o, none⟩ u).ownsRow lo e s v n xs := by
  refine ⟨h.1, ?_⟩
  rcases h.2 with q | ⟨g, cap, cur, rfl, hb, hg, r⟩
  · exact .inl q
  · exact .inr ⟨g, cap, cur, rfl, hb, (Below.heap_setCell w ⟨k, o, none⟩ u g (hk g rfl)).trans hg, r⟩
theorem keepRow {W wA : World} {lo lo1 e e' s s' n n' q o : Nat} {v v' u : Value} {xs xs' : List Value} (X : Obj) (h : W.ownsRow lo1 e s v n xs) (h' : W.ownsRow lo e' s' v' n' xs') (ne : e' ≠ e) (g : (W.alloc X).grownBy wA v'.ownBlock) (hq : q < lo1) : (wA.setCell ⟨q, o, none⟩ u).ownsRow lo1 e s v n xs := by
  have a1 := own_below h ((Gr.refl W).alloc X).below
  have a2 := own_below h' ((Gr.refl W).alloc X).below
  exact own_setNe (own_gro a1 g (fun b e q => own_part a2 a1 ne q e)) (fun b e => by have := (own_block h b e).1; omega)
theorem lt_more {lo : Nat} {W : World} {av rv : Value} {Z : List Zr} {z : Zr} (h1 : W.ownsRow lo 40 4 av (Z.length + 0 + 1) (Z.flatMap Zr.reg ++ mks 0 ++ z.reg)) (h2 : W.ownsRow lo 38 1 rv (Z.length + 1) (Z.flatMap Zr.row ++ z.row)) (h3 : ∀ y ∈ Z, y.own lo W) (h4 : z.own lo W) (h5 : Z.Pairwise (fun a b => a.g ≠ b.g)) (h6 : ∀ y ∈ Z, y.g ≠ z.g) : LtIn lo W av rv (Z ++ [z]) 0 := by
  refine ⟨?_, ?_, fun y hy => ?_, ?_⟩
  · have e : (Z ++ [z]).flatMap Zr.reg ++ mks 0 = Z.flatMap Zr.reg ++ mks 0 ++ z.reg := by simp [mks]
    rw [e, List.length_append]
    exact h1
  · rw [List.flatMap_append, List.length_append]
    simpa using h2
  · rcases List.mem_append.1 hy with q | q
    · exact h3 y q
    · rw [List.mem_singleton.1 q]; exact h4
  · rw [List.pairwise_append]
    exact ⟨h5, by simp, fun a ha b hb => by rw [List.mem_singleton.1 hb]; exact h6 a ha⟩
theorem lt_mark {lo : Nat} {W : World} {av rv : Value} {Z : List Zr} {k : Nat} (h1 : W.ownsRow lo 40 4 av (Z.length + k + 1) (Z.flatMap Zr.reg ++ mks k ++ [.int .u64 77, .int .u64 0, .string ⟨#[]⟩, .slice none 0 0])) (h2 : W.ownsRow lo 38 1 rv Z.length (Z.flatMap Zr.row)) (h3 : ∀ y ∈ Z, y.own lo W) (h5 : Z.Pairwise (fun a b => a.g ≠ b.g)) : LtIn lo W av rv Z (k + 1) := by
  refine ⟨?_, h2, h3, h5⟩
  have e : Z.flatMap Zr.reg ++ mks (k + 1) = Z.flatMap Zr.reg ++ mks k ++ m77 := by
    unfold mks
    rw [List.replicate_succ', List.flatten_append, List.append_assoc]
    simp
  rw [e]
  exact h1
theorem own_setsLow {lo e s n q : Nat} {v : Value} {xs : List Value} (hq : q < lo) : ∀ (vs : List Value) (o : Nat) {w : World}, w.ownsRow lo e s v n xs → (w.setCells q o vs).ownsRow lo e s v n xs
  | [], _, _, h => h
  | u :: r, o, _, h => own_setsLow hq r (o + 1) (own_setNe (k := q) (o := o) (u := u) h (fun g e => by have := (own_block h g e).1; omega))
theorem LtIn.setsLow {lo : Nat} {W : World} {av rv : Value} {Z : List Zr} {k q : Nat} (h : LtIn lo W av rv Z k) (hq : q < lo) (vs : List Value) (o : Nat) : LtIn lo (W.setCells q o vs) av rv Z k :=
  ⟨own_setsLow hq vs o h.all, own_setsLow hq vs o h.rows, fun z hz => own_setsLow hq vs o (h.sl z hz), h.ne⟩
theorem kp_sets (w : World) (b : Nat) : ∀ (vs : List Value) (o : Nat), b ≤ w.heap.size → Below b w (w.setCells b o vs) := fun vs o _ => by
  have key : ∀ (vs : List Value) (o : Nat) (W : World), Below b w W → Below b w (W.setCells b o vs) := by
    intro vs
    induction vs with
    | nil => exact fun _ _ h => h
    | cons v r ih => exact fun o W h => ih (o + 1) _ (h.setCell (p := ⟨b, o, none⟩) (Nat.le_refl _) v)
  exact key vs o w (Below.refl _ _)
theorem one_lent {lo : Nat} {W : World} {av rv : Value} {Z : List Zr} {k : Nat} {n : Int} (h : LtIn lo W av rv Z k) : ∀ u ∈ [av, rv, Value.int .i64 n], u.oneCell' = true := by
  have e1 : av.oneCell' = true := by
    rcases h.all.2 with ⟨rfl, _⟩ | ⟨g, cap, cur, rfl, _⟩ <;> rfl
  have e2 : rv.oneCell' = true := by
    rcases h.rows.2 with ⟨rfl, _⟩ | ⟨g, cap, cur, rfl, _⟩ <;> rfl
  intro u hu
  simp only [List.mem_cons, List.not_mem_nil, or_false] at hu
  rcases hu with rfl | rfl | rfl
  · exact e1
  · exact e2
  · rfl
theorem results_rowT {fn : Func} {p : Tmp} {ty : TypeId} {v : Value} {a : Addr} (h : fn.results = #[.cell p ty]) (tmps : Array Value) (w : World) (ht : tmps.getD p undef = .pointer (some a)) (hl : (loadVar ty a).run Try.prog w = .ok v w) :
    (results fn tmps).run Try.prog w = .ok v w := by
  have ht' : tmps[p]?.getD undef = .pointer (some a) := by simpa using ht
  simp [results, h, ht', asAddr, hl]
theorem slR.setFar {lo : Nat} {W : World} {v : Value} {L : List Sl} {k : Nat} (h : slR lo W v L) (hk : k < lo) (o : Nat) (u : Value) : slR lo (W.setCell ⟨k, o, none⟩ u) v L :=
  own_setNe h (fun g e => by have := (own_block h g e).1; omega)
theorem LtIn.setFar {lo : Nat} {W : World} {av rv : Value} {Z : List Zr} {k kr : Nat} (h : LtIn lo W av rv Z k) (hf : Far kr av rv Z) (o : Nat) (u : Value) : LtIn lo (W.setCell ⟨kr, o, none⟩ u) av rv Z k :=
  ⟨own_setNe h.all (fun g e => Nat.ne_of_lt (hf.a g e)), own_setNe h.rows (fun g e => Nat.ne_of_lt (hf.r g e)), fun z hz => own_setNe (h.sl z hz) (fun g e => by have := hf.s z hz; have e2 : z.g = g := (by simpa [Zr.val, Value.ownBlock] using e); omega), h.ne⟩
theorem LtIn.setLow {lo : Nat} {W : World} {av rv : Value} {Z : List Zr} {k q : Nat} (h : LtIn lo W av rv Z k) (hq : q < lo) (o : Nat) (u : Value) : LtIn lo (W.setCell ⟨q, o, none⟩ u) av rv Z k :=
  ⟨own_setNe h.all (fun g e => by have := (own_block h.all g e).1; omega), own_setNe h.rows (fun g e => by have := (own_block h.rows g e).1; omega), fun z hz => own_setNe (h.sl z hz) (fun g e => by have := (own_block (h.sl z hz) g e).1; omega), h.ne⟩
set_option maxRecDepth 100000 in
set_option maxHeartbeats 8000000 in
theorem lentT_any (L : List Rg) (a : Option Addr) (cap : Nat) (w : World) (hL : RgIn w a L) (hF : LFit L) :
    Calls Try.prog 6 #[.slice a L.length cap] w fun x w' => ∃ av rv Z, x = .returned (.agg #[av, rv, .int .i64 L.length]) ∧ Z.map Zr.r = L ∧ LtIn (w.heap.size + 1 + 1) w' av rv Z 6 ∧ Below w.heap.size w w' := by
  replace hL := Hid.mk hL
  replace hF := Hid.mk hF
  go_enter Try.func6, Try.ntmps6
  go_upto_region 2 with fail
  refine wp_world (fun W => At W w.heap.size #[.slice none 0 0, .slice none 0 0, .int .i64 0] ∧ At W (w.heap.size + 1) #[.slice none 0 0, .slice none 0 0, .int .i64 L.length] ∧ Gr w W) ⟨(At.new w _ _).alloc _, At.at_ _ _ _ (by simp), ((Gr.refl w).alloc _).alloc _⟩ ?_
  rintro W0 ⟨A0, A1, G0⟩
  replace A0 := Hid.mk A0
  replace A1 := Hid.mk A1
  replace G0 := Hid.mk G0.below
  go_upto_region 3 with fail
  go_loopw [4] (fun x wr => ∃ (i : Nat) (av rv : Value) (Z : List Zr), x = .int .i64 i ∧ i ≤ L.length ∧ Hid (Z.map Zr.r = L.take i) ∧ Hid (At wr w.heap.size #[.slice none 0 0, .slice none 0 0, .int .i64 0]) ∧ Hid (At wr (w.heap.size + 1) #[av, rv, .int .i64 L.length]) ∧ Hid (LtIn (w.heap.size + 1 + 1) wr av rv Z 0) ∧ Hid (Below w.heap.size w wr)) (fun x _ => L.length - (intOf x).toNat)
  case atStart => exact ⟨0, _, _, [], rfl, Nat.zero_le _, Hid.mk rfl, A0, A1, Hid.mk LtIn.nil, G0⟩
  case round =>
    clear A0 A1 G0
    obtain ⟨i, av, rv, Z, rfl, hi, hZ, A0, A1, hT, hB⟩ := hrel
    by_cases hlt : i < L.length
    · skip
      have hi1 : (i : Int) < (L.length : Int) := Int.ofNat_lt.2 hlt
      obtain ⟨b, off, sa, sc, rfl, hb, c0, c1, c2, c3, hs⟩ := (hL.out.below hB.out) i hlt
      have hfs := hF.out.s _ (List.getElem_mem hlt)
      have hZl : Hid (Z.length = i) := Hid.mk (by have := congrArg List.length hZ.out; rw [List.length_map, List.length_take] at this; omega)
      
      replace hs := Hid.mk hs
      go_upto_region 6 with fail
      refine wp_world (fun W => At W wr.heap.size #[.int .u64 L[i].b, .int .u64 L[i].n, .string (str L[i].data), .slice sa L[i].slots.length sc] ∧ Gr wr W) ⟨At.new wr _ _, (Gr.refl _).alloc _⟩ ?_
      rintro W5 ⟨BR, G5⟩
      have hk5 : wr.heap.size < W5.heap.size := BR.1
      have e3 : W5.cell? ⟨b, off + i * 4 + 3, none⟩ = some (.slice sa L[i].slots.length sc) := (cell_of_block (G5.below.block b hb) _).trans c3
      clear c0 c1 c2 c3
      have hx := Hid.mk (ein_fin (hs.out.below G5.below))
      have hfb : Hid (FitB 64 L[i].slots.length) := Hid.mk (by unfold FitB; omega)
      replace BR := Hid.mk BR
      have hFar := Hid.mk (hT.out.far)
      replace hT := Hid.mk (hT.out.below G5.below)
      have hkw : w.heap.size + 1 < wr.heap.size := A1.out.1
      replace A0 := Hid.mk (A0.out.gr G5)
      replace A1 := Hid.mk (A1.out.gr G5)
      replace hB := Hid.mk (hB.out.trans (G5.below.mono hB.out.size))
      replace hb : b < W5.heap.size := Nat.lt_of_lt_of_le hb G5.below.size
      replace hs := Hid.mk (hs.out.below G5.below)
      clear G5
      generalize wr.heap.size = kr at *
      clear wr
      go_wp2_with (at_builtin; refine wpList_append_all sl_len (by decide) sl_one rfl (.const (.slice none 0 0)) (.tmp 26) 38 45 _ 64 rfl Try.underlying38 infoSlot rfl (by decide) L[i].slots rfl sa sc rfl _ hx.out hfb.out ?_)
      intro v1 w1 hO hg
      clear hfb hx
      have B1 := Below.of_grown hg (Nat.le_refl _) (fun k r => by cases r)
      have hR : Hid (slR W5.heap.size w1 v1 (L[i].slots ++ List.replicate 0 s77)) := Hid.mk (by rw [List.replicate_zero, List.append_nil]; exact hO)
      clear hO hg
      replace B1 := Hid.mk B1
      replace e3 := Hid.mk e3
      go_upto_region 8 with fail
      go_loopw [6, 7] (fun r x wr => ∃ k : Nat, x = .int .i64 k ∧ k ≤ 6 ∧ Hid (slR W5.heap.size wr r (L[i].slots ++ List.replicate k s77)) ∧ Hid (Below W5.heap.size W5 wr)) (fun _ x _ => 6 - (intOf x).toNat)
      case atStart => exact ⟨0, rfl, Nat.zero_le _, hR, B1⟩
      case round =>
        clear hR B1
        obtain ⟨k, rfl, hk, hR, B1⟩ := hrel
        by_cases hkl : k < 6
        · have hk1 : (k : Int) < 6 := by omega
          have hn6 : (L[i].slots ++ List.replicate k s77).length = L[i].slots.length + k := by simp
          have hsz := B1.out.size
          have q1 := Hid.mk (own_below hR.out ((Gr.refl wr).alloc (.cells #[.bool false, .int .u64 0, .int .u64 0, .int .u64 0, .int .u64 0, .int .u8 0, .int .i64 0, .int .u64 77] 45)).below)
          have q2 := Hid.mk (At.new wr #[.bool false, .int .u64 0, .int .u64 0, .int .u64 0, .int .u64 0, .int .u8 0, .int .i64 0, .int .u64 77] 45)
          go_upto_region 10 with fail
          refine wp_region_lit ?_
          refine wpList_plain rfl (fun K hK => ?_)
          go_simp
          with_reducible refine hK _ _ ?_
          clear hK K
          try simp only [Act.put, List.setIfInBounds_toArray, List.set_cons_zero, List.set_cons_succ]
          refine wpList_plain rfl (fun K hK => ?_)
          go_simp
          with_reducible refine hK _ _ ?_
          clear hK K
          try simp only [Act.put, List.setIfInBounds_toArray, List.set_cons_zero, List.set_cons_succ]
          refine wpList_plain rfl (fun K hK => ?_)
          go_simp
          with_reducible refine hK _ _ ?_
          clear hK K
          try simp only [Act.put, List.setIfInBounds_toArray, List.set_cons_zero, List.set_cons_succ]
          refine wpList_append_t rfl (.tmp 32) (.tmp 34) 38 45 _ 8 64 rfl Try.underlying38 infoSlot rfl (by decide) (by decide) W5.heap.size _ (L[i].slots ++ List.replicate k s77).length ((L[i].slots ++ List.replicate k s77).flatMap Sl.vals) [.bool false, .int .u64 0, .int .u64 0, .int .u64 0, .int .u64 0, .int .u8 0, .int .i64 0, .int .u64 77] rfl q1.out wr.heap.size rfl q2.out rfl (by simp [Value.oneCell']) (fit6 hfs hkl) (by simp; omega) ?_
          intro gN cN wN k1 k2 k3
          have B2 : Below W5.heap.size W5 wN := (B1.out.trans (((Gr.refl wr).alloc (.cells #[.bool false, .int .u64 0, .int .u64 0, .int .u64 0, .int .u64 0, .int .u8 0, .int .i64 0, .int .u64 77] 45)).below.mono hsz)).trans (Below.of_grown k2 (by simp; omega) (fun b r => (own_block hR.out b r).1))
          have hR2 := Hid.mk (slR_step k1)
          rw [len_step]
          clear k1 k2 k3 hR B1 q1 q2 hn6
          replace B2 := Hid.mk B2
          try simp only [Act.put, List.setIfInBounds_toArray, List.set_cons_zero, List.set_cons_succ]
          go_wp2_with fail
          exact ⟨⟨k + 1, by go_num, by omega, hR2, B2⟩, by simp [intOf]; omega⟩
        · have hk1 : ¬ (k : Int) < 6 := by omega
          have ek : k = 6 := by omega
          subst ek
          have hn6 : (L[i].slots ++ List.replicate 6 s77).length = L[i].slots.length + 6 := by simp
          have hR' := hR.out
          unfold slR at hR'
          rw [hn6] at hR'
          obtain ⟨gR, cR, e7, hg1, hg2⟩ := World.ownsRow.form hR' (by omega)
          subst e7
          have hcap : L[i].slots.length + 6 ≤ cR := own_cap hR'
          clear hR'
          have c3 : wr.cell? ⟨b, off + i * 4 + 3, none⟩ = some (.slice sa L[i].slots.length sc) := (cell_of_block (B1.out.block b hb) _).trans e3.out
          have hq1 : (0 : Int) ≤ (L[i].slots.length : Int) := Int.natCast_nonneg _
          have hq2 : (L[i].slots.length : Int) ≤ (cR : Int) := by omega
          replace BR := Hid.mk (At.undT BR.out B1.out hk5)
          have r0 : wr.cell? ⟨kr, 0, none⟩ = some (.int .u64 L[i].b) := BR.out.2.1 0
          have r1 : wr.cell? ⟨kr, 1, none⟩ = some (.int .u64 L[i].n) := BR.out.2.1 1
          have r2 : wr.cell? ⟨kr, 2, none⟩ = some (.string (str L[i].data)) := BR.out.2.1 2
          have r3 : wr.cell? ⟨kr, 3, none⟩ = some (.slice sa L[i].slots.length sc) := BR.out.2.1 3
          have f3 : wr.frozen? ⟨kr, 3, none⟩ = false := BR.out.2.2 3
          go_upto_region 12 with fail
          have BR2 : Hid (At (wr.setCell ⟨kr, 3, none⟩ (.slice (some ⟨gR, 0, none⟩) L[i].slots.length cR)) kr #[.int .u64 L[i].b, .int .u64 L[i].n, .string (str L[i].data), .slice (some ⟨gR, 0, none⟩) L[i].slots.length cR]) := Hid.mk (BR.out.set 3 (.slice (some ⟨gR, 0, none⟩) L[i].slots.length cR) (by simp))
          have hT2 : LtIn (w.heap.size + 1 + 1) wr av rv Z 0 := hT.out.below B1.out
          have hTs := Hid.mk (hT2.setFar hFar.out 3 (.slice (some ⟨gR, 0, none⟩) L[i].slots.length cR))
          have hRs := Hid.mk (slR.setFar hR.out (Nat.lt_of_lt_of_le hk5 (Nat.le_refl _)) 3 (.slice (some ⟨gR, 0, none⟩) L[i].slots.length cR))
          have A0s := Hid.mk ((At.undT A0.out B1.out (Nat.lt_trans (by omega) hk5)).set_other (k' := kr) (j := 3) (.slice (some ⟨gR, 0, none⟩) L[i].slots.length cR) (by omega))
          have A1s := Hid.mk ((At.undT A1.out B1.out (Nat.lt_trans hkw hk5)).set_other (k' := kr) (j := 3) (.slice (some ⟨gR, 0, none⟩) L[i].slots.length cR) (by omega))
          have hBs : Hid (Below w.heap.size w (wr.setCell ⟨kr, 3, none⟩ (.slice (some ⟨gR, 0, none⟩) L[i].slots.length cR))) := Hid.mk ((hB.out.trans (B1.out.mono hB.out.size)).setCell (p := ⟨kr, 3, none⟩) (by show w.heap.size ≤ kr; omega) _)
          have hsz : W5.heap.size ≤ (wr.setCell ⟨kr, 3, none⟩ (.slice (some ⟨gR, 0, none⟩) L[i].slots.length cR)).heap.size := by simpa using B1.out.size
          have hgs := Hid.mk (fun z (hz : z ∈ Z) => Nat.lt_of_lt_of_le (hFar.out.s z hz) (Nat.le_of_lt hk5))
          clear BR hT hT2 hR A0 A1 hB B1 r0 r1 r2 r3 f3 c3 e3 hFar hg2 hs hb
          generalize wr.setCell ⟨kr, 3, none⟩ (.slice (some ⟨gR, 0, none⟩) L[i].slots.length cR) = W11 at *
          clear wr
          have m0 : W11.cell? ⟨w.heap.size + 1, 0, none⟩ = some av := A1s.out.2.1 0
          have q1 := Hid.mk (own_below hTs.out.all ((Gr.refl W11).alloc (.cells #[.int .u64 L[i].b, .int .u64 L[i].n, .string (str L[i].data), .slice (some ⟨gR, 0, none⟩) L[i].slots.length cR] 40)).below)
          have q2 := Hid.mk (At.new W11 #[.int .u64 L[i].b, .int .u64 L[i].n, .string (str L[i].data), .slice (some ⟨gR, 0, none⟩) L[i].slots.length cR] 40)
          have hfa := Hid.mk (fit_all hF.out (show Z.length + 0 < L.length + 6 by rw [hZl.out]; omega))
          refine wp_region_lit ?_
          refine wpList_plain rfl (fun K hK => ?_)
          go_simp
          with_reducible refine hK _ _ ?_
          clear hK K
          try simp only [Act.put, List.setIfInBounds_toArray, List.set_cons_zero, List.set_cons_succ]
          refine wpList_plain rfl (fun K hK => ?_)
          go_simp
          with_reducible refine hK _ _ ?_
          clear hK K
          try simp only [Act.put, List.setIfInBounds_toArray, List.set_cons_zero, List.set_cons_succ]
          refine wpList_plain rfl (fun K hK => ?_)
          refine wp_load_mid _ _ rfl _ 0 rfl [Value.int .u64 L[i].b, .int .u64 L[i].n, .string (str L[i].data), .slice (some ⟨gR, 0, none⟩) L[i].slots.length cR] _ BR2.out.range Try.underlying40 rfl (by kernel_rfl) (hK _ _ ?_)
          clear hK K
          try simp only [Act.put, List.setIfInBounds_toArray, List.set_cons_zero, List.set_cons_succ]
          refine wpList_plain rfl (fun K hK => ?_)
          go_simp
          with_reducible refine hK _ _ ?_
          clear hK K
          try simp only [Act.put, List.setIfInBounds_toArray, List.set_cons_zero, List.set_cons_succ]
          refine wpList_append_t rfl (.tmp 46) (.tmp 48) 22 40 _ 4 56 rfl Try.underlying22 infoReg rfl (by decide) (by decide) (w.heap.size + 1 + 1) av (Z.length + 0) (Z.flatMap Zr.reg ++ mks 0) [.int .u64 L[i].b, .int .u64 L[i].n, .string (str L[i].data), .slice (some ⟨gR, 0, none⟩) L[i].slots.length cR] rfl q1.out W11.heap.size rfl q2.out rfl (by simp [Value.oneCell']) hfa.out (by simp; omega) ?_
          intro gA cA wA k1 k2 k3
          have A1a := At.grownT (A1s.out.alloc (.cells #[.int .u64 L[i].b, .int .u64 L[i].n, .string (str L[i].data), .slice (some ⟨gR, 0, none⟩) L[i].slots.length cR] 40)) k2 (fun e => by have := (own_block hTs.out.all _ e).1; omega)
          have A0a := At.grownT (A0s.out.alloc (.cells #[.int .u64 L[i].b, .int .u64 L[i].n, .string (str L[i].data), .slice (some ⟨gR, 0, none⟩) L[i].slots.length cR] 40)) k2 (fun e => by have := (own_block hTs.out.all _ e).1; omega)
          have m1 : wA.cell? ⟨w.heap.size + 1, 0, none⟩ = some av := A1a.2.1 0
          have f1 : wA.frozen? ⟨w.heap.size + 1, 0, none⟩ = false := A1a.2.2 0
          replace k1 := Hid.mk k1
          replace k2 := Hid.mk k2
          replace A0a := Hid.mk A0a
          replace A1a := Hid.mk A1a
          clear q1 q2 hfa m0
          try simp only [Act.put, List.setIfInBounds_toArray, List.set_cons_zero, List.set_cons_succ]
          refine wpList_plain rfl (fun K hK => ?_)
          go_simp
          with_reducible refine hK _ _ ?_
          clear hK K
          try simp only [Act.put, List.setIfInBounds_toArray, List.set_cons_zero, List.set_cons_succ]
          refine wpList_plain rfl (fun K hK => ?_)
          go_simp
          with_reducible refine hK _ _ ?_
          clear hK K
          try simp only [Act.put]
          clear m1 f1
          have nA0 := Hid.mk (A0a.out.set_other (k' := w.heap.size + 1) (j := 0) (.slice (some ⟨gA, 0, none⟩) (Z.length + 0 + 1) cA) (by omega))
          have nA1 : Hid (At (wA.setCell ⟨w.heap.size + 1, 0, none⟩ (.slice (some ⟨gA, 0, none⟩) (Z.length + 0 + 1) cA)) (w.heap.size + 1) #[(.slice (some ⟨gA, 0, none⟩) (Z.length + 0 + 1) cA), rv, .int .i64 L.length]) := Hid.mk (A1a.out.set 0 (.slice (some ⟨gA, 0, none⟩) (Z.length + 0 + 1) cA) (by simp))
          have nAll := Hid.mk (own_setNe (k := w.heap.size + 1) (o := 0) (u := .slice (some ⟨gA, 0, none⟩) (Z.length + 0 + 1) cA) k1.out (fun g e => by have := (own_block k1.out g e).1; omega))
          have nRows := Hid.mk (keepRow (q := w.heap.size + 1) (o := 0) (u := .slice (some ⟨gA, 0, none⟩) (Z.length + 0 + 1) cA) _ hTs.out.rows hTs.out.all (by decide) k2.out (by omega))
          have nSl := Hid.mk (fun z (hz : z ∈ Z) => keepRow (q := w.heap.size + 1) (o := 0) (u := .slice (some ⟨gA, 0, none⟩) (Z.length + 0 + 1) cA) _ (hTs.out.sl z hz) hTs.out.all (by decide) k2.out (by omega))
          have nR := Hid.mk (keepRow (q := w.heap.size + 1) (o := 0) (u := .slice (some ⟨gA, 0, none⟩) (Z.length + 0 + 1) cA) _ hRs.out hTs.out.all (by decide) k2.out (by omega))
          have nB : Hid (Below w.heap.size w (wA.setCell ⟨w.heap.size + 1, 0, none⟩ (.slice (some ⟨gA, 0, none⟩) (Z.length + 0 + 1) cA))) := Hid.mk (((hBs.out.trans (((Gr.refl W11).alloc _).below.mono hBs.out.size)).trans (Below.of_grown k2.out (Nat.le_trans hBs.out.size (by simp)) (fun b r => by have := (own_block hTs.out.all b r).1; omega))).setCell (p := ⟨w.heap.size + 1, 0, none⟩) (by show w.heap.size ≤ w.heap.size + 1; omega) _)
          have hN := Hid.mk hTs.out.ne
          have nsz : W5.heap.size ≤ (wA.setCell ⟨w.heap.size + 1, 0, none⟩ (.slice (some ⟨gA, 0, none⟩) (Z.length + 0 + 1) cA)).heap.size := by have := k2.out.size; simp at this ⊢; omega
          clear k1 k2 k3 A0a A1a A0s A1s hTs hRs hBs BR2 hsz
          go_upto_region 13 with fail
          generalize wA.setCell ⟨w.heap.size + 1, 0, none⟩ (.slice (some ⟨gA, 0, none⟩) (Z.length + 0 + 1) cA) = W12 at *
          clear wA
          have m0 : W12.cell? ⟨w.heap.size + 1, 1, none⟩ = some rv := nA1.out.2.1 1
          have q1 := Hid.mk (own_below nRows.out ((Gr.refl W12).alloc (.cells #[.slice (some ⟨gR, 0, none⟩) (L[i].slots.length + 6) cR] 38)).below)
          have q2 := Hid.mk (At.new W12 #[.slice (some ⟨gR, 0, none⟩) (L[i].slots.length + 6) cR] 38)
          have hfa := Hid.mk (fit_rows hF.out (show Z.length < L.length + 6 by rw [hZl.out]; omega))
          refine wp_region_lit ?_
          refine wpList_plain rfl (fun K hK => ?_)
          go_simp
          with_reducible refine hK _ _ ?_
          clear hK K
          try simp only [Act.put, List.setIfInBounds_toArray, List.set_cons_zero, List.set_cons_succ]
          refine wpList_plain rfl (fun K hK => ?_)
          go_simp
          with_reducible refine hK _ _ ?_
          clear hK K
          try simp only [Act.put, List.setIfInBounds_toArray, List.set_cons_zero, List.set_cons_succ]
          refine wpList_plain rfl (fun K hK => ?_)
          go_simp
          with_reducible refine hK _ _ ?_
          clear hK K
          try simp only [Act.put, List.setIfInBounds_toArray, List.set_cons_zero, List.set_cons_succ]
          refine wpList_plain rfl (fun K hK => ?_)
          go_simp
          with_reducible refine hK _ _ ?_
          clear hK K
          try simp only [Act.put, List.setIfInBounds_toArray, List.set_cons_zero, List.set_cons_succ]
          refine wpList_append_t rfl (.tmp 52) (.tmp 54) 24 38 _ 1 24 rfl Try.underlying24 infoSls rfl (by decide) (by decide) (w.heap.size + 1 + 1) rv Z.length (Z.flatMap Zr.row) [.slice (some ⟨gR, 0, none⟩) (L[i].slots.length + 6) cR] rfl q1.out W12.heap.size rfl q2.out rfl (by simp [Value.oneCell']) hfa.out (by simp; omega) ?_
          intro gB cB wB k1 k2 k3
          have A1a := At.grownT (nA1.out.alloc (.cells #[.slice (some ⟨gR, 0, none⟩) (L[i].slots.length + 6) cR] 38)) k2 (fun e => by have := (own_block nRows.out _ e).1; omega)
          have A0a := At.grownT (nA0.out.alloc (.cells #[.slice (some ⟨gR, 0, none⟩) (L[i].slots.length + 6) cR] 38)) k2 (fun e => by have := (own_block nRows.out _ e).1; omega)
          have m1 : wB.cell? ⟨w.heap.size + 1, 1, none⟩ = some rv := A1a.2.1 1
          have f1 : wB.frozen? ⟨w.heap.size + 1, 1, none⟩ = false := A1a.2.2 1
          replace k1 := Hid.mk k1
          replace k2 := Hid.mk k2
          replace A0a := Hid.mk A0a
          replace A1a := Hid.mk A1a
          clear q1 q2 hfa m0
          try simp only [Act.put, List.setIfInBounds_toArray, List.set_cons_zero, List.set_cons_succ]
          refine wpList_plain rfl (fun K hK => ?_)
          go_simp
          with_reducible refine hK _ _ ?_
          clear hK K
          try simp only [Act.put, List.setIfInBounds_toArray, List.set_cons_zero, List.set_cons_succ]
          refine wpList_plain rfl (fun K hK => ?_)
          go_simp
          with_reducible refine hK _ _ ?_
          clear hK K
          try simp only [Act.put]
          clear m1 f1
          have xA0 := Hid.mk (A0a.out.set_other (k' := w.heap.size + 1) (j := 1) (.slice (some ⟨gB, 0, none⟩) (Z.length + 1) cB) (by omega))
          have xA1 : Hid (At (wB.setCell ⟨w.heap.size + 1, 1, none⟩ (.slice (some ⟨gB, 0, none⟩) (Z.length + 1) cB)) (w.heap.size + 1) #[(.slice (some ⟨gA, 0, none⟩) (Z.length + 0 + 1) cA), (.slice (some ⟨gB, 0, none⟩) (Z.length + 1) cB), .int .i64 L.length]) := Hid.mk (A1a.out.set 1 (.slice (some ⟨gB, 0, none⟩) (Z.length + 1) cB) (by simp))
          have xRows := own_setNe (k := w.heap.size + 1) (o := 1) (u := (.slice (some ⟨gB, 0, none⟩) (Z.length + 1) cB)) k1.out (fun g e => by have := (own_block k1.out g e).1; omega)
          have xAll := keepRow (q := w.heap.size + 1) (o := 1) (u := (.slice (some ⟨gB, 0, none⟩) (Z.length + 1) cB)) _ nAll.out nRows.out (by decide) k2.out (by omega)
          have xSl := fun z (hz : z ∈ Z) => keepRow (q := w.heap.size + 1) (o := 1) (u := (.slice (some ⟨gB, 0, none⟩) (Z.length + 1) cB)) _ (nSl.out z hz) nRows.out (by decide) k2.out (by omega)
          have xR := keepRow (q := w.heap.size + 1) (o := 1) (u := (.slice (some ⟨gB, 0, none⟩) (Z.length + 1) cB)) _ nR.out nRows.out (by decide) k2.out (by omega)
          have xB : Hid (Below w.heap.size w (wB.setCell ⟨w.heap.size + 1, 1, none⟩ (.slice (some ⟨gB, 0, none⟩) (Z.length + 1) cB))) := Hid.mk (((nB.out.trans (((Gr.refl W12).alloc _).below.mono nB.out.size)).trans (Below.of_grown k2.out (Nat.le_trans nB.out.size (by simp)) (fun b r => by have := (own_block nRows.out b r).1; omega))).setCell (p := ⟨w.heap.size + 1, 1, none⟩) (by show w.heap.size ≤ w.heap.size + 1; omega) _)
          have xT : Hid (LtIn (w.heap.size + 1 + 1) (wB.setCell ⟨w.heap.size + 1, 1, none⟩ (.slice (some ⟨gB, 0, none⟩) (Z.length + 1) cB)) (.slice (some ⟨gA, 0, none⟩) (Z.length + 0 + 1) cA) (.slice (some ⟨gB, 0, none⟩) (Z.length + 1) cB) (Z ++ [(⟨L[i], gR, cR⟩ : Zr)]) 0) := Hid.mk (lt_more xAll xRows xSl (slR.lower xR (by omega)) hN.out (fun z hz => Nat.ne_of_lt (Nat.lt_of_lt_of_le (hgs.out z hz) hg1)))
          have xZ : Hid ((Z ++ [(⟨L[i], gR, cR⟩ : Zr)]).map Zr.r = L.take (i + 1)) := Hid.mk (by rw [List.map_append, hZ.out, List.take_add_one, List.getElem?_eq_getElem hlt]; rfl)
          clear k1 k2 k3 A0a A1a nA0 nA1 nAll nRows nSl nR nB nsz hN hgs xRows xAll xSl xR
          go_wp2_with fail
          refine ⟨⟨i + 1, _, _, _, ?_, hlt, xZ, xA0, xA1, xT, xB⟩, ?_⟩
          · first | rfl | rw [next_wT hlt hF.out.n] | go_num
          · first | exact next_mT hlt | (rw [next_wT hlt hF.out.n]; exact next_mT hlt)
    · have hi1 : ¬ (i : Int) < (L.length : Int) := fun q => hlt (Int.ofNat_lt.1 q)
      have ei : i = L.length := Nat.le_antisymm hi (Nat.le_of_not_lt hlt)
      have hZ2 : Hid (Z.map Zr.r = L) := Hid.mk (by rw [hZ.out, ei, List.take_length])
      have hZl : Hid (Z.length = L.length) := Hid.mk (by have := congrArg List.length hZ2.out; rwa [List.length_map] at this)
      clear hZ ei hlt hi
      go_upto_region 15 with fail
      have T0 := hT
      have B0 := hB
      have D0 := A0
      have D1 := A1
      clear hT hB A0 A1
      go_loopw [8] (fun x wr => ∃ (k : Nat) (av : Value), x = .int .i64 k ∧ k ≤ 6 ∧ Hid (At wr w.heap.size #[.slice none 0 0, .slice none 0 0, .int .i64 0]) ∧ Hid (At wr (w.heap.size + 1) #[av, rv, .int .i64 L.length]) ∧ Hid (LtIn (w.heap.size + 1 + 1) wr av rv Z k) ∧ Hid (Below w.heap.size w wr)) (fun x _ => 6 - (intOf x).toNat)
      case atStart => exact ⟨0, _, rfl, Nat.zero_le _, D0, D1, T0, B0⟩
      case round =>
        clear D0 D1 T0 B0
        clear av
        obtain ⟨k, av, rfl, hk, A0, A1, hT, hB⟩ := hrel
        by_cases hkl : k < 6
        · have hk1 : (k : Int) < 6 := by omega
          have m0 : wr.cell? ⟨w.heap.size + 1, 0, none⟩ = some av := A1.out.2.1 0
          have hsz : w.heap.size + 1 + 1 ≤ wr.heap.size := A1.out.1
          have q1 := Hid.mk (own_below hT.out.all ((Gr.refl wr).alloc (.cells #[.int .u64 77, .int .u64 0, .string ⟨#[]⟩, .slice none 0 0] 40)).below)
          have q2 := Hid.mk (At.new wr #[.int .u64 77, .int .u64 0, .string ⟨#[]⟩, .slice none 0 0] 40)
          have hfa := Hid.mk (fit_all hF.out (show Z.length + k < L.length + 6 by rw [hZl.out]; omega))
          go_upto_region 17 with fail
          refine wp_region_lit ?_
          refine wpList_plain rfl (fun K hK => ?_)
          go_simp
          with_reducible refine hK _ _ ?_
          clear hK K
          try simp only [Act.put, List.setIfInBounds_toArray, List.set_cons_zero, List.set_cons_succ]
          refine wpList_plain rfl (fun K hK => ?_)
          go_simp
          with_reducible refine hK _ _ ?_
          clear hK K
          try simp only [Act.put, List.setIfInBounds_toArray, List.set_cons_zero, List.set_cons_succ]
          refine wpList_plain rfl (fun K hK => ?_)
          go_simp
          with_reducible refine hK _ _ ?_
          clear hK K
          try simp only [Act.put, List.setIfInBounds_toArray, List.set_cons_zero, List.set_cons_succ]
          refine wpList_plain rfl (fun K hK => ?_)
          go_simp
          with_reducible refine hK _ _ ?_
          clear hK K
          try simp only [Act.put, List.setIfInBounds_toArray, List.set_cons_zero, List.set_cons_succ]
          refine wpList_append_t rfl (.tmp 62) (.tmp 64) 22 40 _ 4 56 rfl Try.underlying22 infoReg rfl (by decide) (by decide) (w.heap.size + 1 + 1) av (Z.length + k) (Z.flatMap Zr.reg ++ mks k) [.int .u64 77, .int .u64 0, .string ⟨#[]⟩, .slice none 0 0] rfl q1.out wr.heap.size rfl q2.out rfl (by simp [Value.oneCell']) hfa.out (by simp; omega) ?_
          intro gA cA wA k1 k2 k3
          have A1a := At.grownT (A1.out.alloc (.cells #[.int .u64 77, .int .u64 0, .string ⟨#[]⟩, .slice none 0 0] 40)) k2 (fun e => by have := (own_block hT.out.all _ e).1; omega)
          have A0a := At.grownT (A0.out.alloc (.cells #[.int .u64 77, .int .u64 0, .string ⟨#[]⟩, .slice none 0 0] 40)) k2 (fun e => by have := (own_block hT.out.all _ e).1; omega)
          have m1 : wA.cell? ⟨w.heap.size + 1, 0, none⟩ = some av := A1a.2.1 0
          have f1 : wA.frozen? ⟨w.heap.size + 1, 0, none⟩ = false := A1a.2.2 0
          replace k1 := Hid.mk k1
          replace k2 := Hid.mk k2
          replace A0a := Hid.mk A0a
          replace A1a := Hid.mk A1a
          clear q1 q2 hfa m0
          try simp only [Act.put, List.setIfInBounds_toArray, List.set_cons_zero, List.set_cons_succ]
          refine wpList_plain rfl (fun K hK => ?_)
          go_simp
          with_reducible refine hK _ _ ?_
          clear hK K
          try simp only [Act.put, List.setIfInBounds_toArray, List.set_cons_zero, List.set_cons_succ]
          refine wpList_plain rfl (fun K hK => ?_)
          go_simp
          with_reducible refine hK _ _ ?_
          clear hK K
          try simp only [Act.put]
          clear m1 f1
          have nA0 := Hid.mk (A0a.out.set_other (k' := w.heap.size + 1) (j := 0) (.slice (some ⟨gA, 0, none⟩) (Z.length + k + 1) cA) (by omega))
          have nA1 : Hid (At (wA.setCell ⟨w.heap.size + 1, 0, none⟩ (.slice (some ⟨gA, 0, none⟩) (Z.length + k + 1) cA)) (w.heap.size + 1) #[(.slice (some ⟨gA, 0, none⟩) (Z.length + k + 1) cA), rv, .int .i64 L.length]) := Hid.mk (A1a.out.set 0 (.slice (some ⟨gA, 0, none⟩) (Z.length + k + 1) cA) (by simp))
          have nAll := own_setNe (k := w.heap.size + 1) (o := 0) (u := (.slice (some ⟨gA, 0, none⟩) (Z.length + k + 1) cA)) k1.out (fun g e => by have := (own_block k1.out g e).1; omega)
          have nRows := keepRow (q := w.heap.size + 1) (o := 0) (u := (.slice (some ⟨gA, 0, none⟩) (Z.length + k + 1) cA)) _ hT.out.rows hT.out.all (by decide) k2.out (by omega)
          have nSl := fun z (hz : z ∈ Z) => keepRow (q := w.heap.size + 1) (o := 0) (u := (.slice (some ⟨gA, 0, none⟩) (Z.length + k + 1) cA)) _ (hT.out.sl z hz) hT.out.all (by decide) k2.out (by omega)
          have nB : Hid (Below w.heap.size w (wA.setCell ⟨w.heap.size + 1, 0, none⟩ (.slice (some ⟨gA, 0, none⟩) (Z.length + k + 1) cA))) := Hid.mk (((hB.out.trans (((Gr.refl wr).alloc _).below.mono hB.out.size)).trans (Below.of_grown k2.out (Nat.le_trans hB.out.size (by simp)) (fun b r => by have := (own_block hT.out.all b r).1; omega))).setCell (p := ⟨w.heap.size + 1, 0, none⟩) (by show w.heap.size ≤ w.heap.size + 1; omega) _)
          have nT := Hid.mk (lt_mark nAll nRows nSl hT.out.ne)
          clear k1 k2 k3 A0a A1a A0 A1 hT hB nAll nRows nSl hsz
          go_wp2_with fail
          exact ⟨⟨k + 1, _, by go_num, by omega, nA0, nA1, nT, nB⟩, by simp [intOf]; omega⟩
        · have hk1 : ¬ (k : Int) < 6 := by omega
          have ek : k = 6 := by omega
          subst ek
          go_upto_region 18 with fail
          have th := Hid.mk (A0.out.there 0 3 (by simp))
          have a3 := Hid.mk (A1.out.range)
          have nT := Hid.mk (LtIn.setsLow hT.out (q := w.heap.size) (by omega) [av, rv, .int .i64 L.length] 0)
          have nB : Hid (Below w.heap.size w (wr.setCells w.heap.size 0 [av, rv, .int .i64 L.length])) := Hid.mk (hB.out.trans (kp_sets wr w.heap.size [av, rv, .int .i64 L.length] 0 (Nat.le_of_lt A0.out.1)))
          have s2 := Hid.mk (A0.out.setAll [av, rv, .int .i64 L.length] rfl)
          have ho := Hid.mk (show ∀ u ∈ [av, rv, Value.int .i64 L.length], u.oneCell' = true from one_lent hT.out)
          clear A0 A1 hT hB
          refine wp_region_lit ?_
          refine wpList_load_mid rfl _ _ rfl _ 0 rfl [av, rv, .int .i64 L.length] _ a3.out Try.underlying26 rfl (by kernel_rfl) ?_
          simp only [Act.put, List.setIfInBounds_toArray, List.set_cons_zero, List.set_cons_succ]
          refine wpList_store_mid rfl _ _ _ rfl _ _ (List.toArray [av, rv, .int .i64 L.length]) rfl rfl th.out (by kernel_rfl) (all_oneCell_toArray ho.out) ?_
          simp only [Act.put]
          have s5 := Hid.mk (s2.out.range)
          clear s2 th a3
          generalize World.setCells _ _ _ _ = W5 at *
          have hrun := Hid.mk (run_loadVar_mid (P := Try.prog) W5 w.heap.size 0 26 [av, rv, .int .i64 L.length] _ s5.out Try.underlying26 rfl (by kernel_rfl))
          clear s5 ho
          go_wp2_with fail
          refine bodyPost_ret (v := .agg #[av, rv, .int .i64 L.length]) ?_ rfl ⟨av, rv, rfl, Z, hZ2.out, nT.out, nB.out⟩
          exact results_rowT Try.results6 _ _ rfl hrun.out
end T
end Go.Proofs.Ytikbbolgobhmiaa
