import Derived.Test.YtfidlchgmgmcbaaGreatDoorJ48
import Derived.Test.YtfidlchgmgmcbaaGreatDoorJ42
namespace Go.Proofs.YtfidlchgmgmcbaaGreatDoor
namespace F
open Go.RowKit
open T

structure Bs (L : List Ins) (k : Nat) (w : World) (lo : Nat) (v : Value) (R : List Bk) : Prop where
 row : BR w lo v R
 nxs : ∀ i (h : i < R.length), i < k → IOwn w lo R[i].nx (nxtI L (R[i].l : Int))
 nil : ∀ i (h : i < R.length), k ≤ i → R[i].nx = .slice none 0 0
 ne : ∀ i (h : i < R.length) g, R[i].nx.ownBlock = some g → v.ownBlock ≠ some g
 pw : ∀ i j (hi : i < R.length) (hj : j < R.length) g, i < j → R[i].nx.ownBlock = some g → R[j].nx.ownBlock ≠ some g
theorem Bs.below {L : List Ins} {k : Nat} {w w1 : World} {lo : Nat} {v : Value} {R : List Bk} (h : Bs L k w lo v R) (hb : Below w.heap.size w w1) : Bs L k w1 lo v R :=
 ⟨own_below h.row hb, fun i hi e => own_below (h.nxs i hi e) hb, h.nil, h.ne, h.pw⟩
theorem Bs.next {L : List Ins} {w w1 : World} {lo g cap : Nat} {R0 R1 : List Bk} {x : Bk} (h : Bs L R0.length w lo (.slice (some ⟨g, 0, none⟩) (R0 ++ x :: R1).length cap) (R0 ++ x :: R1)) (hb : Below w.heap.size w w1) (v : Value) (hv : IOwn w1 w.heap.size v (nxtI L (x.l : Int))) (hlo : lo ≤ w.heap.size) :
   Bs L (R0.length + 1) (w1.setCell ⟨g, R0.length * 3 + 2, none⟩ v) lo (.slice (some ⟨g, 0, none⟩) (R0 ++ x :: R1).length cap) (R0 ++ ⟨x.f, x.l, v⟩ :: R1) := by
 have hr := BR.put (h.below hb).row ⟨x.f, x.l, v⟩ 2 (by omega) v rfl
 have hg : g < w.heap.size := (World.ownsRow.lt h.row g rfl).2
 have hs : Kp (fun q => q = g) w1 (w1.setCell ⟨g, R0.length * 3 + 2, none⟩ v) := Kp.set (S := fun q => q = g) w1 _ _ rfl
 have hvg : ∀ q, v.ownBlock = some q → w.heap.size ≤ q := fun q r => (World.ownsRow.lt hv q r).1
 have old : ∀ i (hi : i < (R0 ++ (⟨x.f, x.l, v⟩ : Bk) :: R1).length) (hne : i ≠ R0.length), ∃ hi' : i < (R0 ++ x :: R1).length, (R0 ++ (⟨x.f, x.l, v⟩ : Bk) :: R1)[i] = (R0 ++ x :: R1)[i] := fun i hi hne => by
   have hi' : i < (R0 ++ x :: R1).length := by simpa using hi
   refine ⟨hi', ?_⟩
   by_cases e : i < R0.length
   · rw [List.getElem_append_left e, List.getElem_append_left e]
   · rw [List.getElem_append_right (by omega), List.getElem_append_right (by omega)]
     obtain ⟨m, hm⟩ : ∃ m, i - R0.length = m + 1 := ⟨i - R0.length - 1, by omega⟩
     simp only [hm, List.getElem_cons_succ]
 have new : ∀ (hi : R0.length < (R0 ++ (⟨x.f, x.l, v⟩ : Bk) :: R1).length), (R0 ++ (⟨x.f, x.l, v⟩ : Bk) :: R1)[R0.length] = ⟨x.f, x.l, v⟩ := fun hi => by simp
 have oldb : ∀ i (hi : i < (R0 ++ x :: R1).length) q, (R0 ++ x :: R1)[i].nx.ownBlock = some q → q < w.heap.size := fun i hi q r => by
   by_cases e : i < R0.length
   · exact (World.ownsRow.lt (h.nxs i hi e) q r).2
   · rw [h.nil i hi (by omega)] at r; cases r
 refine ⟨hr, fun i hi e => ?_, fun i hi e => ?_, fun i hi q r => ?_, fun i j hi hj q hij r => ?_⟩
 · by_cases e2 : i = R0.length
   · subst e2
     rw [new hi]
     exact own_kp (own_lower hv hlo) hs (fun q r e3 => by have := hvg q r; omega)
   · obtain ⟨hi', eq⟩ := old i hi e2
     rw [eq]
     refine own_kp (own_below (h.nxs i hi' (by omega)) hb) hs (fun q r e3 => ?_)
     subst e3
     exact h.ne i hi' q r rfl
 · obtain ⟨hi', eq⟩ := old i hi (by omega)
   rw [eq]
   exact h.nil i hi' (by omega)
 · by_cases e2 : i = R0.length
   · subst e2
     rw [new hi] at r
     have := hvg q r
     intro e3
     have : g = q := by simpa [Value.ownBlock] using e3
     omega
   · obtain ⟨hi', eq⟩ := old i hi e2
     rw [eq] at r
     exact h.ne i hi' q r
 · by_cases e2 : i = R0.length
   · subst e2
     rw [new hi] at r
     obtain ⟨hj', eq⟩ := old j hj (by omega)
     rw [eq]
     intro e3
     have := oldb j hj' q e3
     have := hvg q r
     omega
   · obtain ⟨hi', eq⟩ := old i hi e2
     rw [eq] at r
     by_cases e4 : j = R0.length
     · subst e4
       rw [new hj]
       intro e3
       have := oldb i hi' q r
       have := hvg q e3
       omega
     · obtain ⟨hj', eq2⟩ := old j hj e4
       rw [eq2]
       exact h.pw i j hi' hj' q hij r
def L1 (L : List Ins) (f : Nat → Bool) (w2 : World) (j : Nat) (v : Value) (wr : World) : Prop :=
 Hid (∃ R, Bs L 0 wr w2.heap.size v R ∧ R.map Bk.fl = blF f j ∧ Below w2.heap.size w2 wr)
def L2 (L : List Ins) (f : Nat → Bool) (w2 : World) (k : Nat) (v : Value) (wr : World) : Prop :=
 Hid (∃ R, Bs L k wr w2.heap.size v R ∧ R.map Bk.fl = blF f L.length ∧ Below w2.heap.size w2 wr)
theorem L1.start (L : List Ins) (f : Nat → Bool) (w : World) : L1 L f w 0 (.slice none 0 0) w :=
 Hid.mk ⟨[], ⟨⟨rfl, .inl ⟨rfl, rfl⟩⟩, fun i h => by simp at h, fun i h => by simp at h, fun i h => by simp at h, fun i j h => by simp at h⟩, rfl, Below.refl _ _⟩
theorem L1.app {L : List Ins} {f : Nat → Bool} {w2 wr w3 w4 : World} {j g cap : Nat} {v : Value} {R : List Bk} (h : Bs L 0 wr w2.heap.size v R) (he : R.map Bk.fl = blF f j) (hb : Below w2.heap.size w2 wr) (hf : f j = true) (h3 : Below wr.heap.size wr w3)
   (ho : BR w4 w2.heap.size (.slice (some ⟨g, 0, none⟩) (R.length + 1) cap) (R ++ [⟨j, 0, .slice none 0 0⟩])) (hg : w3.grownBy w4 v.ownBlock) :
   L1 L f w2 (j + 1) (.slice (some ⟨g, 0, none⟩) (R.length + 1) cap) (w4.setCell ⟨g, R.length * 3 + 1, none⟩ (.int .i64 (j : Int))) ∧ (∃ y, w4.cell? ⟨g, R.length * 3 + 1, none⟩ = some y) ∧ w4.frozen? ⟨g, R.length * 3 + 1, none⟩ = false ∧ g < w4.heap.size := by
 have e : R.length + 1 = (R ++ (⟨j, 0, .slice none 0 0⟩ : Bk) :: []).length := by simp
 have ho' : BR w4 w2.heap.size (.slice (some ⟨g, 0, none⟩) (R ++ (⟨j, 0, .slice none 0 0⟩ : Bk) :: []).length cap) (R ++ (⟨j, 0, .slice none 0 0⟩ : Bk) :: []) := by rw [← e]; exact ho
 have hr := BR.put ho' ⟨j, j, .slice none 0 0⟩ 1 (by omega) (.int .i64 (j : Int)) rfl
 have hlo : w2.heap.size ≤ wr.heap.size := hb.size
 have hB : Below w2.heap.size w3 w4 := Below.of_grown hg (Nat.le_trans hlo h3.size) (fun q r => (World.ownsRow.lt h.row q r).1)
 have hgl := World.ownsRow.lt ho g rfl
 refine ⟨Hid.mk ⟨R ++ [⟨j, j, .slice none 0 0⟩], ⟨by rw [e]; exact hr, fun i hi q => by omega, fun i hi _ => ?_, fun i hi q r => ?_, fun i k hi hk q _ r => ?_⟩, ?_, ((hb.trans (h3.mono hlo)).trans hB).setCell hgl.1 _⟩, ⟨_, BR.cell ho' 1 (by omega)⟩, ?_, hgl.2⟩
 · by_cases q : i < R.length
   · rw [List.getElem_append_left q]; exact h.nil i q (by omega)
   · rw [List.getElem_append_right (by omega)]; simp
 · have : (R ++ [(⟨j, j, .slice none 0 0⟩ : Bk)])[i].nx = .slice none 0 0 := by
     by_cases q : i < R.length
     · rw [List.getElem_append_left q]; exact h.nil i q (by omega)
     · rw [List.getElem_append_right (by omega)]; simp
   rw [this] at r
   cases r
 · have : (R ++ [(⟨j, j, .slice none 0 0⟩ : Bk)])[i].nx = .slice none 0 0 := by
     by_cases q : i < R.length
     · rw [List.getElem_append_left q]; exact h.nil i q (by omega)
     · rw [List.getElem_append_right (by omega)]; simp
   rw [this] at r
   cases r
 · rw [List.map_append, he, blF, if_pos hf]; rfl
 · exact World.ownsRow.frozenAt ho' _
theorem L1.on {L : List Ins} {f : Nat → Bool} {w2 wr w3 : World} {j : Nat} {v : Value} {R : List Bk} {x : Bk} (h : Bs L 0 wr w2.heap.size v (R ++ [x])) (he : (R ++ [x]).map Bk.fl = blF f j) (hb : Below w2.heap.size w2 wr) (hf : f j = false) (h3 : Below wr.heap.size wr w3) :
   ∃ g cap, v = .slice (some ⟨g, 0, none⟩) (R.length + 1) cap ∧ L1 L f w2 (j + 1) v (w3.setCell ⟨g, R.length * 3 + 1, none⟩ (.int .i64 (j : Int))) ∧ (∃ y, w3.cell? ⟨g, R.length * 3 + 1, none⟩ = some y) ∧ w3.frozen? ⟨g, R.length * 3 + 1, none⟩ = false ∧ g < w3.heap.size := by
 obtain ⟨g, cap, rfl, h1, h2⟩ := h.row.here (by simp)
 have q := h.below h3
 have hr := BR.put (R0 := R) (R1 := []) q.row ⟨x.f, j, x.nx⟩ 1 (by omega) (.int .i64 (j : Int)) rfl
 have ex : x.nx = .slice none 0 0 := by
   have := h.nil R.length (by simp) (by omega)
   simpa using this
 have enx : ∀ i (hi : i < (R ++ [(⟨x.f, j, x.nx⟩ : Bk)]).length), (R ++ [(⟨x.f, j, x.nx⟩ : Bk)])[i].nx = .slice none 0 0 := fun i hi => by
   by_cases e : i < R.length
   · rw [List.getElem_append_left e]
     have := h.nil i (by simp; omega) (by omega)
     rwa [List.getElem_append_left e] at this
   · rw [List.getElem_append_right (by omega)]; simp [ex]
 have hlo : w2.heap.size ≤ wr.heap.size := hb.size
 refine ⟨g, cap, by simp, Hid.mk ⟨R ++ [⟨x.f, j, x.nx⟩], ⟨hr, fun i hi q => by omega, fun i hi _ => enx i hi, fun i hi q r => ?_, fun i k hi hk q _ r => ?_⟩, ?_, (hb.trans (h3.mono hlo)).setCell h1 _⟩, ⟨_, BR.cell (R0 := R) (R1 := []) q.row 1 (by omega)⟩, World.ownsRow.frozenAt q.row _, Nat.lt_of_lt_of_le h2 h3.size⟩
 · rw [enx i hi] at r; cases r
 · rw [enx i hi] at r; cases r
 · rw [blF, if_neg (by simp [hf]), ← he, List.map_append, List.map_append]
   show _ = upL j (R.map Bk.fl ++ [(x.f, x.l)])
   rw [upL_app]
   rfl
end F
end Go.Proofs.YtfidlchgmgmcbaaGreatDoor


namespace Go.Proofs.YtfidlchgmgmcbaaGreatDoor
set_option maxRecDepth 100000
set_option maxHeartbeats 40000000
namespace F
open Go.RowKit
open T

theorem Bs.lower {L : List Ins} {k : Nat} {w : World} {lo lo' : Nat} {v : Value} {R : List Bk} (h : Bs L k w lo v R) (hb : lo' ≤ lo) : Bs L k w lo' v R := by
 refine ⟨⟨h.row.1, ?_⟩, fun i hi e => own_lower (h.nxs i hi e) hb, h.nil, h.ne, h.pw⟩
 rcases h.row.2 with h2 | ⟨g, cap, cur, hv, hbg, rest⟩
 · exact .inl h2
 · exact .inr ⟨g, cap, cur, hv, by omega, rest⟩
theorem Blocks_any (L : List Ins) (E : List Int) (ca ea : Option Addr) (cc ec : Nat) (w : World) (hL : LIn w.heap.size w ca L) (hE : NIn w.heap.size w ea E) (hn : L.length < 2000000) (he : E.length ≤ 4000000) :
   Calls Tryz.prog 12 #[.slice ca L.length cc, .slice ea E.length ec] w fun e w' => ∃ v R, e = .returned v ∧ Bs L R.length w' w.heap.size v R ∧ R.map Bk.fl = blF (firF L E) L.length ∧ Below w.heap.size w w' := by
 have hF := firstsOf_any L E ca ea cc ec w hL hE hn he
 have hX := fun W (q : Below w.heap.size w W) pc => Next_any L ca cc pc W ((hL.below q).mono q.size) hn
 have hfz := fir_zero L E
 generalize firF L E = f at *
 have hH := fun X W (h : SIn W X L.length f) j hj => has_any X L.length j f W h hn hj
 unfold sv at *
 replace hF := Hid.mk hF
 replace hX := Hid.mk hX
 replace hH := Hid.mk hH
 replace hL := Hid.mk hL
 replace hE := Hid.mk hE
 replace hfz := Hid.mk hfz
 go_enter Tryz.func12, Tryz.ntmps12
 go_wp2_with (first | (go_at_call 32; refine hF.out.mono ?_; rintro x w1 ⟨X, rfl, a1, a2, a3⟩; replace a1 := Hid.mk a1; replace a3 := Hid.mk a3))
 have hB := At.new w1 #[.slice (some ⟨X, 0, none⟩) ((L.length + 63) / 64) ((L.length + 63) / 64), .int .i64 L.length] 94
 have hX2 := a1.out.below ((Below.refl _ w1).alloc (Nat.le_refl _) (.cells #[.slice (some ⟨X, 0, none⟩) ((L.length + 63) / 64) ((L.length + 63) / 64), .int .i64 L.length] 94)) a1.out.lt
 have hW2 := a3.out.alloc a3.out.size (.cells #[.slice (some ⟨X, 0, none⟩) ((L.length + 63) / 64) ((L.length + 63) / 64), .int .i64 L.length] 94)
 generalize hbx : w1.heap.size = bx at *
 generalize (w1.alloc (.cells #[.slice (some ⟨X, 0, none⟩) ((L.length + 63) / 64) ((L.length + 63) / 64), .int .i64 L.length] 94)) = w2 at *
 generalize (L.length + 63) / 64 = nw at *
 have hst := L1.start L f w2
 have hbl := hB.1
 have hbs := hW2.size
 clear a1 a3 a2 hbx
 replace hB := Hid.mk hB
 replace hX2 := Hid.mk hX2
 replace hW2 := Hid.mk hW2
 clear w1
 go_loopw [6, 14] (fun v x wr => ∃ j : Nat, x = .int .i64 j ∧ j ≤ L.length ∧ L1 L f w2 j v wr) (fun _ x _ => L.length - (intOf x).toNat)
 case atStart => exact ⟨0, rfl, by omega, hst⟩
 case round =>
   clear hst
   obtain ⟨j, rfl, hj, hI⟩ := hrel
   obtain ⟨R, h1, h2, h3⟩ := hI.out
   clear hI
   by_cases hlt : j < L.length
   · have z0 : wr.cell? ⟨bx, 0, none⟩ = some (.slice (some ⟨X, 0, none⟩) nw nw) := (h3.cell (p := ⟨bx, 0, none⟩) hbl).trans (hB.out.2.1 0)
     have z1 : wr.cell? ⟨bx, 1, none⟩ = some (.int .i64 L.length) := (h3.cell (p := ⟨bx, 1, none⟩) hbl).trans (hB.out.2.1 1)
     have hh := Hid.mk (hH.out X wr (hX2.out.below h3 hX2.out.lt) j hlt)
     have hi1 : (j : Int) < L.length := by omega
     have hRl : R.length ≤ j := by have := blF_len f j; rw [← h2, List.length_map] at this; exact this
     cases ef : f j with
     | true =>
       rw [ef] at hh
       have hsz := h3.size
       obtain ⟨va, vc, rfl⟩ := h1.row.slice
       have hap := fun w3 w4 g cap (q1 : Below wr.heap.size wr w3) ho hg => L1.app (w3 := w3) (w4 := w4) (g := g) (cap := cap) h1 h2 h3 ef q1 ho hg
       have hrw := fun W (q : Below wr.heap.size wr W) => (h1.below q).row
       replace hap := Hid.mk hap
       replace hrw := Hid.mk hrw
       replace h1 := Hid.mk h1
       replace h2 := Hid.mk h2
       replace h3 := Hid.mk h3
       replace hRl := Hid.mk hRl
       go_wp2_with (first | (go_at_call 33; refine hh.out.mono ?_; rintro x w3 ⟨rfl, q1⟩; have hs3 := q1.size; replace q1 := Hid.mk q1) | (at_builtin; refine wpList_append_blk rfl (.tmp 20) (.tmp 23) rfl w2.heap.size (.slice va R.length vc) R ⟨j, 0, .slice none 0 0⟩ rfl (hrw.out _ (q1.out.alloc hs3 _)) w3.heap.size rfl (At.new _ _ _) rfl (by have := hRl.out; omega) (by simp; omega) ?_))
       intro g cap w4 g1 g2 g3 g4
       obtain ⟨k1, ⟨y, k2⟩, k3, k4⟩ := hap.out _ w4 g cap (q1.out.alloc hs3 _) g1 g2
       have hRi : (R.length : Int) ≤ 3000000 := by have := hRl.out; omega
       replace g1 := Hid.mk g1
       replace g2 := Hid.mk g2
       go_wp2_with fail
       go_roundw
       all_goals first | exact ⟨j + 1, by simp, by omega, k1⟩ | (simp only [intOf]; omega)
     | false =>
       rw [ef] at hh
       have hj0 : 0 < j := by
         rcases Nat.eq_zero_or_pos j with r | r
         · subst r; rw [hfz.out] at ef; cases ef
         · exact r
       have hne := blF_ne f hfz.out j hj0
       rcases List.eq_nil_or_concat R with r | ⟨R0, x, r⟩
       · subst r; exact absurd h2.symm (by simpa using hne)
       · rw [List.concat_eq_append] at r
         subst r
         have hon := fun w3 (q1 : Below wr.heap.size wr w3) => L1.on (w3 := w3) h1 h2 h3 ef q1
         obtain ⟨g, cap, rfl, hlo, hgl⟩ := h1.row.here (by simp)
         have hRi : (R0.length : Int) ≤ 3000000 := by simp at hRl; omega
         simp only [List.length_append, List.length_singleton] at hon ⊢
         replace hon := Hid.mk hon
         replace h1 := Hid.mk h1
         replace h2 := Hid.mk h2
         replace h3 := Hid.mk h3
         replace hRl := Hid.mk hRl
         replace hne := Hid.mk hne
         go_wp2_with (first | (go_at_call 33; refine hh.out.mono ?_; rintro x w3 ⟨rfl, q1⟩; obtain ⟨g', cap', eg, k1, ⟨y, k2⟩, k3, k4⟩ := hon.out w3 q1; injection eg with eg1 eg2 eg3; injection eg1 with eg1; injection eg1 with eg1; subst eg1 eg3; replace q1 := Hid.mk q1))
         go_roundw
         all_goals first | exact ⟨j + 1, by simp, by omega, k1⟩ | (simp only [intOf]; omega)
   · have hi1 : ¬ (j : Int) < L.length := by omega
     have ej : j = L.length := by omega
     subst ej
     have hRl : R.length ≤ L.length := by have := blF_len f L.length; rw [← h2, List.length_map] at this; exact this
     have h0 : L2 L f w2 0 u6 wr := Hid.mk ⟨R, h1, h2, h3⟩
     obtain ⟨va, vc, rfl⟩ := h1.row.slice
     have hlen : (blF f L.length).length = R.length := by rw [← h2, List.length_map]
     clear h1 h2 h3
     generalize R.length = m at *
     clear R
     replace hlen := Hid.mk hlen
     go_wp2_with fail
     rename World => wo
     go_loopw [35] (fun x wr => ∃ k : Nat, x = .int .i64 k ∧ k ≤ m ∧ L2 L f w2 k (.slice va m vc) wr) (fun x _ => m - (intOf x).toNat)
     case atStart => exact ⟨0, rfl, by omega, h0⟩
     case round =>
       clear h0
       obtain ⟨k, rfl, hk, hI⟩ := hrel
       obtain ⟨R, h1, h2, h3⟩ := hI.out
       clear hI
       have hm : R.length = m := by rw [← hlen.out, ← h2, List.length_map]
       by_cases hlt : k < m
       · have hkl : k < R.length := by omega
         obtain ⟨R0, x, R1, rfl, hk0⟩ : ∃ R0 x R1, R = R0 ++ x :: R1 ∧ R0.length = k := ⟨R.take k, R[k], R.drop (k + 1), by rw [List.getElem_cons_drop, List.take_append_drop], by simp; omega⟩
         subst hk0
         obtain ⟨g, cap, ev, hlo, hgl⟩ := h1.row.here (by simp)
         rw [hm] at ev
         injection ev with ev1 ev2 ev3
         subst ev1 ev3
         rw [← hm] at h1
         have hnx := fun w3 (q1 : Below wr.heap.size wr w3) v' hv' => h1.next q1 v' hv' h3.size
         have c1 : wr.cell? ⟨g, R0.length * 3 + 1, none⟩ = some (.int .i64 x.l) := BR.cell h1.row 1 (by omega)
         have c2 := fun w3 (q1 : Below wr.heap.size wr w3) => BR.cell (h1.below q1).row 2 (by omega)
         have fr := fun w3 (q1 : Below wr.heap.size wr w3) => World.ownsRow.frozenAt (h1.below q1).row (R0.length * 3 + 2)
         have hXx := hX.out wr (hW2.out.trans (h3.mono hbs)) (x.l : Int)
         have hi1 : (R0.length : Int) < m := by omega
         have hfl : (R0 ++ (⟨x.f, x.l, .slice none 0 0⟩ : Bk) :: R1).map Bk.fl = blF f L.length := by rw [← h2]; simp [Bk.fl]
         rw [hm] at hnx
         have hB3 : ∀ (w3 : World) (a : Addr) (v' : Value), Below wr.heap.size wr w3 → w2.heap.size ≤ a.block → Below w2.heap.size w2 (w3.setCell a v') := fun w3 a v' q1 q2 => (h3.trans (q1.mono h3.size)).setCell q2 _
         replace h1 := Hid.mk h1
         replace h2 := Hid.mk h2
         replace h3 := Hid.mk h3
         replace hnx := Hid.mk hnx
         replace c2 := Hid.mk c2
         replace fr := Hid.mk fr
         replace hXx := Hid.mk hXx
         replace hfl := Hid.mk hfl
         replace hB3 := Hid.mk hB3
         replace hm := Hid.mk hm
         go_wp2_with (first | (go_at_call 8; refine hXx.out.mono ?_; rintro y w3 ⟨v', rfl, q1, q2⟩; obtain ⟨va', vc', rfl⟩ := own_slice q1; have d1 := c2.out w3 q2; have d2 := fr.out w3 q2; have d3 := Nat.lt_of_lt_of_le hgl q2.size; simp only [Bk.vals, List.getElem?_cons_succ, List.getElem?_cons_zero] at d1; have d4 := Hid.mk (hnx.out w3 q2 _ q1); have d5 := Hid.mk (hB3.out w3 ⟨g, R0.length * 3 + 2, none⟩ (.slice va' (nxtI L (x.l : Int)).length vc') q2 hlo); replace q1 := Hid.mk q1; replace q2 := Hid.mk q2))
         go_roundw
         all_goals first | exact ⟨R0.length + 1, by simp, by omega, Hid.mk ⟨_, d4.out, by rw [← hfl.out]; simp [Bk.fl], d5.out⟩⟩ | (simp only [intOf]; omega)
       · have hi1 : ¬ (k : Int) < m := by omega
         have ek : k = R.length := by omega
         subst ek
         replace h1 := Hid.mk h1
         replace h2 := Hid.mk h2
         replace h3 := Hid.mk h3
         replace hm := Hid.mk hm
         go_wp2_with fail
         go_ret
         exact ⟨_, rfl, R, h1.out.lower hbs, h2.out, hW2.out.trans (h3.out.mono hbs)⟩
end F
end Go.Proofs.YtfidlchgmgmcbaaGreatDoor


namespace Go.Proofs.YtfidlchgmgmcbaaGreatDoor
set_option maxRecDepth 100000
set_option maxHeartbeats 40000000
namespace F
open Go.RowKit
open T

def smp : List Ins := [⟨1, 0, 0, 0, 0⟩, ⟨21, 0, 0, 0, 4⟩, ⟨11, 0, 0, 0, 0⟩, ⟨20, 0, 0, 0, 1⟩, ⟨27, 0, 0, 0, 0⟩, ⟨32, 0, 0, 0, 0⟩]
theorem smp_n : nxtI smp 1 = [2, 4] := by decide
theorem smp_h1 : (hdF smp 6).1 1 = true := by decide
theorem smp_h0 : (hdF smp 6).1 0 = false := by decide
theorem smp_b : blF (firF smp [0]) 6 = [(0, 0), (1, 1), (2, 3), (4, 4), (5, 5)] := by decide
theorem smp_fol : ∀ p q, p < 6 → folB smp p q = true → (p = 0 ∧ q = 1) ∨ (p = 1 ∧ (q = 2 ∨ q = 4)) ∨ (p = 2 ∧ q = 3) ∨ (p = 3 ∧ q = 1) := by
 intro p q hp h
 have hq := folB_lt h
 have hq : q < 6 := hq
 have : ∀ p : Fin 6, ∀ q : Fin 6, folB smp p.val q.val = true → (p.val = 0 ∧ q.val = 1) ∨ (p.val = 1 ∧ (q.val = 2 ∨ q.val = 4)) ∨ (p.val = 2 ∧ q.val = 3) ∨ (p.val = 3 ∧ q.val = 1) := by decide
 exact this ⟨p, hp⟩ ⟨q, hq⟩ h
theorem smp_R {R : List Bk} (h : R.map Bk.fl = blF (firF smp [0]) 6) : ∃ r0 r1 n r3 r4, R = [r0, r1] ++ ⟨2, 3, n⟩ :: [r3, r4] := by
 rw [smp_b] at h
 have hl : R.length = 5 := by have := congrArg List.length h; simpa using this
 obtain ⟨r0, r1, ⟨f, l, n⟩, r3, r4, rfl⟩ : ∃ r0 r1 r2 r3 r4, R = [r0, r1, r2, r3, r4] := by
   rcases R with _ | ⟨r0, _ | ⟨r1, _ | ⟨r2, _ | ⟨r3, _ | ⟨r4, _ | ⟨r5, R⟩⟩⟩⟩⟩⟩ <;> simp at hl
   exact ⟨r0, r1, r2, r3, r4, rfl⟩
 simp [Bk.fl] at h
 obtain ⟨_, _, ⟨h1, h2⟩, _, _⟩ := h
 subst h1 h2
 exact ⟨r0, r1, n, r3, r4, rfl⟩
theorem smp_l4 : rchB smp [0] (-1) 4 = true := by
 rw [rchB_iff]
 exact Rch.step (p := 1) (Rch.step (p := 0) (Rch.base (by simp) (by decide) (by decide)) (by decide) (by decide)) (by decide) (by decide)
theorem smp_l5 : rchB smp [0] (-1) 5 = false := by
 cases h : rchB smp [0] (-1) 5 with
 | false => rfl
 | true =>
   rw [rchB_iff] at h
   have key : ∀ q, Rch smp [0] (-1) q → q ≠ 5 := by
     intro q hq
     induction hq with
     | base h1 _ _ => simp at h1; omega
     | step h1 h2 h3 ih =>
       have := smp_fol _ _ h1.lt h2
       omega
   exact absurd rfl (key 5 h)
theorem smp_d1 : domB smp [0] 1 4 = true := by
 have h : rchB smp [0] 1 4 = false := by
   cases h : rchB smp [0] 1 4 with
   | false => rfl
   | true =>
     rw [rchB_iff] at h
     have key : ∀ q, Rch smp [0] 1 q → q = 0 := by
       intro q hq
       induction hq with
       | base h1 _ _ => simp at h1; omega
       | step h1 h2 h3 ih =>
         subst ih
         have := smp_fol _ _ (by omega) h2
         omega
     exact absurd (key 4 h) (by omega)
 have e1 : thB smp.length 1 = true := by decide
 have e2 : thB smp.length 4 = true := by decide
 show (thB smp.length 1 && thB smp.length 4 && (decide ((1 : Int) = 4) || !rchB smp [0] (-1) 4 || !rchB smp [0] 1 4)) = true
 rw [e1, e2, h, smp_l4]
 rfl
theorem smp_d2 : domB smp [0] 2 4 = false := by
 have h : rchB smp [0] 2 4 = true := by
   rw [rchB_iff]
   exact Rch.step (p := 1) (Rch.step (p := 0) (Rch.base (by simp) (by decide) (by decide)) (by decide) (by decide)) (by decide) (by decide)
 have e1 : thB smp.length 2 = true := by decide
 have e2 : thB smp.length 4 = true := by decide
 show (thB smp.length 2 && thB smp.length 4 && (decide ((2 : Int) = 4) || !rchB smp [0] (-1) 4 || !rchB smp [0] 2 4)) = false
 rw [e1, e2, h, smp_l4]
 rfl
theorem lin_at {w : World} {k : Nat} {L : List Ins} (h : At w k (flat L).toArray) : LIn (k + 1) w (some ⟨k, 0, none⟩) L := by
 intro i hi
 have hc : ∀ j, j < 5 → w.cell? ⟨k, 0 + i * 5 + j, none⟩ = (L[i]).vals[j]? := fun j hj => by
   rw [h.2.1, List.getElem?_toArray, Nat.zero_add, flat_get L i j hi hj]
 exact ⟨k, 0, rfl, Nat.lt_succ_self _, h.1, hc 0 (by omega), hc 1 (by omega), hc 2 (by omega), hc 3 (by omega), hc 4 (by omega)⟩
theorem boolA_at {w : World} {g n : Nat} {f : Nat → Bool} (h : At w g (boolA n f)) (k : Nat) (hk : k < n) : w.cell? ⟨g, k, none⟩ = some (.bool (f k)) := by
 rw [h.2.1]
 simp [boolA, hk]
theorem sample_any (w : World) : Calls Tryz.prog 9 #[] w fun e w' => e = .returned (.slice (some ⟨w.heap.size, 0, none⟩) 6 6) ∧ w' = w.alloc (.cells (flat smp).toArray 57) := by
 go_enter Tryz.func9, Tryz.ntmps9
 go_wp2_with fail
 go_ret
 exact ⟨rfl, rfl⟩
theorem own_here {w : World} {lo : Nat} {v : Value} {l : List Int} (h : IOwn w lo v l) (hl : l ≠ []) : ∃ g cap, v = .slice (some ⟨g, 0, none⟩) l.length cap ∧ lo ≤ g ∧ g < w.heap.size := by
 rcases h.2 with ⟨_, h0⟩ | ⟨g, cap, cur, hv, hb, hh, _⟩
 · exact absurd (List.length_eq_zero_iff.1 h0) hl
 · exact ⟨g, cap, hv, hb, (Array.getElem?_eq_some_iff.1 hh).1⟩
theorem head_any (w : World) : Calls Tryz.prog 4 #[] w fun e w' => e = .returned (.bool true) ∧ Below w.heap.size w w' := by
 have hA := At.new w (flat smp).toArray 57
 have hL0 : LIn (w.heap.size + 1) (w.alloc (.cells (flat smp).toArray 57)) (some ⟨w.heap.size, 0, none⟩) smp := lin_at hA
 have hW0 : Below w.heap.size w (w.alloc (.cells (flat smp).toArray 57)) := by (repeat (first | assumption | with_reducible exact Below.refl _ _ | with_reducible refine Below.alloc ?_ (by simp <;> omega) _ | with_reducible refine Below.setCell ?_ (by simp <;> omega) _ | with_reducible refine Below.drew ?_))
 have hS := sample_any w
 have hs1 : (w.alloc (.cells (flat smp).toArray 57)).heap.size = w.heap.size + 1 := World.size_alloc _ _
 generalize (w.alloc (.cells (flat smp).toArray 57)) = w1 at *
 have hL := fun W (q : Below w1.heap.size w1 W) => (hL0.below (q.mono (by omega))).mono (show w.heap.size + 1 ≤ W.heap.size by have := q.size; omega)
 have hN := fun W (q : Below w1.heap.size w1 W) => Next_any smp (some ⟨w.heap.size, 0, none⟩) 6 1 W (hL W q) (by decide)
 have hR := fun W (q : Below w1.heap.size w1 W) => Reached_any smp [0] 6 1 (some ⟨w.heap.size, 0, none⟩) (some ⟨W.heap.size, 0, none⟩) (W.alloc (.cells #[.int .i64 0] 3)) (hL _ (q.alloc q.size _)) (nin_one W 0) (fun e => by cases e) (by decide) (by decide)
 have hH := fun W (q : Below w1.heap.size w1 W) => Heads_any smp (some ⟨w.heap.size, 0, none⟩) 6 W (hL W q) (by decide)
 have hB := fun W (q : Below w1.heap.size w1 W) => Blocks_any smp [0] (some ⟨w.heap.size, 0, none⟩) (some ⟨W.heap.size, 0, none⟩) 6 1 (W.alloc (.cells #[.int .i64 0] 3)) (hL _ (q.alloc q.size _)) (nin_one W 0) (by decide) (by decide)
 have hD := fun a W (q : Below w1.heap.size w1 W) => Dominates_any smp [0] 6 1 (some ⟨w.heap.size, 0, none⟩) (some ⟨W.heap.size, 0, none⟩) a 4 (W.alloc (.cells #[.int .i64 0] 3)) (hL _ (q.alloc q.size _)) (nin_one W 0) (fun e => by cases e) (by decide) (by decide)
 rw [smp_n] at hN
 have e6 : smp.length = 6 := rfl
 simp only [e6, List.length_cons, List.length_nil, Nat.zero_add] at hN hR hH hB hD
 replace hL0 := Hid.mk hL0
 replace hA := Hid.mk hA
 replace hW0 := Hid.mk hW0
 replace hS := Hid.mk hS
 replace hN := Hid.mk hN
 replace hR := Hid.mk hR
 replace hH := Hid.mk hH
 replace hB := Hid.mk hB
 replace hD := Hid.mk hD
 clear hL e6
 go_enter Tryz.func4, Tryz.ntmps4
 go_wp2_with (first | (go_at_call 9; refine hS.out.mono ?_; rintro x w1' ⟨rfl, rfl⟩) | (go_at_call 8; refine (hN.out _ (Below.refl _ _)).mono ?_; rintro x w2 ⟨v, rfl, n1, n2⟩; obtain ⟨gn, cn, rfl, n3, n4⟩ := own_here n1 (by simp); have nc0 := own_cell n1 0 (by simp); have nc1 := own_cell n1 1 (by simp); simp only [List.getElem_cons_zero, List.getElem_cons_succ] at nc0 nc1; clear n1; replace n2 := Hid.mk n2; replace nc0 := Hid.mk nc0; replace nc1 := Hid.mk nc1) | (go_at_call 10; refine (hR.out _ n2.out).mono ?_; rintro x w3 ⟨gl, rfl, l1, l2, l3⟩; have lc4 := (boolA_at l2 4 (by omega)).trans (by rw [smp_l4]); have lc5 := (boolA_at l2 5 (by omega)).trans (by rw [smp_l5]); have lt3 := l2.1; have b3 := ((Below.refl _ w2).alloc (Nat.le_refl _) _).trans (l3.mono (by simp)); have c3 := Hid.mk (n2.out.trans (b3.mono n2.out.size)); clear l1 l2 l3; replace b3 := Hid.mk b3; replace lc4 := Hid.mk lc4; replace lc5 := Hid.mk lc5) | (go_at_call 11; refine (hH.out _ c3.out).mono ?_; rintro x w4 ⟨gh, rfl, h1, h2, h3⟩; have hc1 := (boolA_at h2 1 (by omega)).trans (by rw [smp_h1]); have hc0 := (boolA_at h2 0 (by omega)).trans (by rw [smp_h0]); have lt4 := h2.1; have c4 := Hid.mk (c3.out.trans (h3.mono c3.out.size)); clear h1 h2; have b4 := Hid.mk h3; clear h3; replace hc1 := Hid.mk hc1; replace hc0 := Hid.mk hc0) | (go_at_call 12; refine (hB.out _ c4.out).mono ?_; rintro x w5 ⟨v, R, rfl, k1, k2, k3⟩; obtain ⟨r0, r1, nn, r3, r4, rfl⟩ := smp_R k2; obtain ⟨gb, cb, rfl, k4, k5⟩ := k1.row.here (by simp); have bc0 := BR.cell k1.row 0 (by omega); have bc1 := BR.cell k1.row 1 (by omega); simp only [Bk.vals, List.length_cons, List.length_nil, List.getElem?_cons_zero, List.getElem?_cons_succ] at bc0 bc1; simp only [List.length_append, List.length_cons, List.length_nil]; have b5 := ((Below.refl _ w4).alloc (Nat.le_refl _) _).trans (k3.mono (by simp)); have c5 := Hid.mk (c4.out.trans (b5.mono c4.out.size)); clear k1 k2 k3 k4; replace b5 := Hid.mk b5; replace bc0 := Hid.mk bc0; replace bc1 := Hid.mk bc1) | (go_at_call 13; refine (hD.out _ _ c6.out).mono ?_; rintro x w7 ⟨rfl, d1⟩; rw [smp_d2]; have b7 := ((Below.refl _ w6).alloc (Nat.le_refl _) _).trans (d1.mono (by simp)); have c7 := Hid.mk (c6.out.trans (b7.mono c6.out.size)); have t57 := b6.out.trans (b7.mono b6.out.size); have t47 := b5.out.trans (t57.mono b5.out.size); have t37 := b4.out.trans (t47.mono b4.out.size); have t27 := b3.out.trans (t37.mono b3.out.size); have f0 := (t27.cell (p := ⟨gn, 0, none⟩) n4).trans nc0.out; have f1 := (t27.cell (p := ⟨gn, 1, none⟩) n4).trans nc1.out; have f2 := (t37.cell (p := ⟨gl, 4, none⟩) lt3).trans lc4.out; have f3 := (t37.cell (p := ⟨gl, 5, none⟩) lt3).trans lc5.out; have f4 := (t47.cell (p := ⟨gh, 1, none⟩) lt4).trans hc1.out; have f5 := (t47.cell (p := ⟨gh, 0, none⟩) lt4).trans hc0.out; have f6 : w7.cell? ⟨gb, 6, none⟩ = some (.int .i64 2) := (t57.cell (p := ⟨gb, 6, none⟩) k5).trans bc0.out; have f7 : w7.cell? ⟨gb, 7, none⟩ = some (.int .i64 3) := (t57.cell (p := ⟨gb, 7, none⟩) k5).trans bc1.out; clear t27 t37 t47 t57 d1 b7) | (go_at_call 13; refine (hD.out _ _ c5.out).mono ?_; rintro x w6 ⟨rfl, d1⟩; rw [smp_d1]; have b6 := ((Below.refl _ w5).alloc (Nat.le_refl _) _).trans (d1.mono (by simp)); have c6 := Hid.mk (c5.out.trans (b6.mono c5.out.size)); clear d1; replace b6 := Hid.mk b6))
 go_ret
 exact ⟨rfl, hW0.out.trans (c7.out.mono (by omega))⟩
end F
end Go.Proofs.YtfidlchgmgmcbaaGreatDoor


namespace Go.Proofs.YtfidlchgmgmcbaaGreatDoor
namespace C
open Go.RowKit
open T (Sep Ob Kp Mf TgIn boxOb Fm Tc Ed Vl Cp Bx tgOb mRow updV flt)

theorem run_alloc_sn (W : World) : (Instr.alloc 41 true (.tuple #[])).run Tryz.prog W = .ok (.pointer (some ⟨W.heap.size, 0, none⟩)) (W.alloc (.cells (snR zS).toArray 41)) := by
 have : (Instr.alloc 41 true (.tuple #[])).run Tryz.prog W = .ok (.pointer (some ⟨W.heap.size, 0, none⟩)) (W.alloc (.cells Tryz.zeroCells41 41)) := by kernel_rfl
 rw [this, show Tryz.zeroCells41 = (snR zS).toArray by rw [← zero_sn]]
theorem wp_alloc_sn {o : Oper} {a : Act} {K : Act → World → Prop} {Q : Exit → Act → World → Prop} {w : World} (ho : o.op = .alloc 41) (h : K (a.put o.dst (.pointer (some ⟨w.heap.size, 0, none⟩))) (w.alloc (.cells (snR zS).toArray 41))) : o.wp Tryz.prog a w K Q := by
 unfold Oper.wp execOp
 simp only [ho, run_alloc_sn, Sem.run_bind, Sem.run_pure, Result.andThen_ok]
 exact h
end C
end Go.Proofs.YtfidlchgmgmcbaaGreatDoor
