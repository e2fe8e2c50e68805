/-
  Stage 8, flow: FlowReached, walked (mkreach8.py).
-/
import Derived.Test.YtjmknpkmbghgdaaFFullB
namespace Go.Proofs.Ytjmknpkmbghgdaa
namespace F
open Go.RowKit
open T

/-- What is lent, and where. -/
structure FS (w : World) (gl gi : Nat) (M : List Ins) (E : List Int) (W : World) : Prop where
  be : Below w.heap.size w W
  cl : At W gl (insA (M ++ mkI8))
  en : At W gi (numA (E ++ mkN))
theorem FS.below {w W W1 : World} {gl gi : Nat} {M : List Ins} {E : List Int} (h : FS w gl gi M E W) (hb : Below W.heap.size W W1) : FS w gl gi M E W1 :=
  ⟨h.be.trans (hb.mono h.be.size), at_below h.cl hb h.cl.1, at_below h.en hb h.en.1⟩
theorem FS.kp {w W W1 : World} {gl gi p q : Nat} {M : List Ins} {E : List Int} (h : FS w gl gi M E W) (hk : Kp (fun k => k = p ∨ k = q) W W1) (h1 : gl ≠ p ∧ gl ≠ q ∧ gi ≠ p ∧ gi ≠ q) (h2 : w.heap.size ≤ p ∧ w.heap.size ≤ q) : FS w gl gi M E W1 :=
  ⟨h.be.trans (hk.below h.be.size (fun k r => by omega)), at_kp h.cl hk (by omega), at_kp h.en hk (by omega)⟩
theorem at_kp2 {W W1 : World} {p q g : Nat} {cs : Array Value} (h : At W g cs) (hk : Kp (fun k => k = p ∨ k = q) W W1) (h1 : g ≠ p ∧ g ≠ q) : At W1 g cs := at_kp h hk (by omega)
theorem copy_back {w : World} {g : Nat} {l M : List Ins} {va : Option Addr} {vc : Nat} (ty : TypeId) (h : At w g (insA l)) (hM : LIn w.heap.size w va M) (hnil : NilOk va M.length vc) (hl : M.length ≤ l.length) (c : Nat) :
    (Builtin.copy_ #[22, 22] ty #[.slice (some ⟨g, 0, none⟩) M.length c, .slice va M.length vc]).run Try.prog w = .ok (goInt M.length) (w.setCells g 0 (flat M)) := by
  obtain ⟨i0, hi0, hz0, hz1, hz2⟩ := info_parts' (t := 62) (z := .agg #[.int .u8 0, .int .i64 0, .int .i64 0, .int .i64 0, .int .i64 0]) (s := 5) (b := 40) (by kernel_rfl)
  cases va with
  | none =>
    obtain ⟨h0, rfl⟩ := hnil rfl
    have e0 : M = [] := List.length_eq_zero_iff.1 h0
    subst e0
    exact run_copy_nil (P := Try.prog) w 22 22 ty 62 ⟨g, 0, none⟩ 0 c Try.underlying22 (by rw [hi0]; rfl)
  | some ad =>
    have hmin : Nat.min M.length M.length = M.length := Nat.min_self _
    have hsz := insA_size l
    have := run_copy_k (P := Try.prog) w 22 22 ty 62 5 g 0 M.length c ad M.length vc (flat M) Try.underlying22 (by rw [hi0]; simp [hz1]) (by rw [hmin]; exact flat_length M) (fun j v hj => ?_) (fun j hj => ?_) (fun j hj => h.2.2 _) (fun v hv => ?_)
    · rw [hmin] at this
      exact this
    · have hjl : j < M.length * 5 := by have := (List.getElem?_eq_some_iff.1 hj).1; rwa [flat_length] at this
      have hq : j / 5 < M.length := by omega
      have hm : j % 5 < 5 := Nat.mod_lt _ (by omega)
      obtain ⟨b, off, e, _, _, hc⟩ := hM (j / 5) hq
      cases e
      have hg := flat_get M (j / 5) (j % 5) hq hm
      rw [show j / 5 * 5 + j % 5 = j by omega, hj] at hg
      rw [addr_add]
      obtain ⟨c0, c1, c2, c3, c4⟩ := hc
      have hm2 : j % 5 = 0 ∨ j % 5 = 1 ∨ j % 5 = 2 ∨ j % 5 = 3 ∨ j % 5 = 4 := by omega
      rcases hm2 with r | r | r | r | r <;> rw [r] at hg
      · rw [show off + j = off + j / 5 * 5 by omega, c0]; exact hg.symm
      · rw [show off + j = off + j / 5 * 5 + 1 by omega, c1]; exact hg.symm
      · rw [show off + j = off + j / 5 * 5 + 1 + 1 by omega, c2]; exact hg.symm
      · rw [show off + j = off + j / 5 * 5 + 1 + 1 + 1 by omega, c3]; exact hg.symm
      · rw [show off + j = off + j / 5 * 5 + 1 + 1 + 1 + 1 by omega, c4]; exact hg.symm
    · rw [flat_length] at hj
      rw [Nat.zero_add, h.2.1, Array.getElem?_eq_getElem (by omega)]
      rfl
    · obtain ⟨y, _, hy⟩ := List.mem_flatMap.1 hv
      simp only [Ins.vals, List.mem_cons, List.not_mem_nil, or_false] at hy
      rcases hy with rfl | rfl | rfl | rfl | rfl <;> rfl
/-- The code that is lent, written over. -/
theorem FS.turn {w W : World} {gl gi : Nat} {M M' : List Ins} {E : List Int} (h : FS w gl gi M E W) (hl : M'.length = M.length) (hlo : w.heap.size ≤ gl) (hne : gi ≠ gl) : FS w gl gi M' E (W.setCells gl 0 (flat M')) := by
  have hk : Kp (fun k => k = gl) W (W.setCells gl 0 (flat M')) := kp_setCells (fun k => k = gl) gl rfl _ 0 W
  have hsz := insA_size (M ++ mkI8)
  refine ⟨h.be.trans (hk.below h.be.size (fun k r => by omega)), ?_, at_kp h.en hk hne⟩
  have := at_cells h.cl (flat M') (by rw [flat_length, hsz, hl]; simp; omega)
  have e2 : (flat M' ++ (insA (M ++ mkI8)).toList.drop (flat M').length).toArray = insA (M' ++ mkI8) := by
    unfold insA
    rw [flat_app, List.toList_toArray, flat_app]
    have e3 : (flat M').length = (flat M).length := by rw [flat_length, flat_length, hl]
    rw [e3, List.drop_left]
  rw [e2] at this
  exact this
set_option maxRecDepth 100000 in
set_option maxHeartbeats 16000000 in
theorem walk_FlowReached (L : List Ins) (cc : Nat) (ca : Option Addr) (E : List Int) (ec : Nat) (ea : Option Addr) (w : World) (hL : LIn w.heap.size w ca L) (hcn : NilOk ca L.length cc) (hE : NIn w.heap.size w ea E) (hnil : NilOk ea E.length ec) (hn : L.length ≤ 1900000) (he : E.length ≤ 1900000) :
    Calls Try.prog 8 #[.slice ca L.length cc, .slice ea E.length ec] w fun e w' => e = .returned (.bool true) ∧ Below w.heap.size w w' := by
  have hH := head_any w
  have hl := fun W (q : Below w.heap.size w W) => lent_any L ca cc W ((hL.below q).mono q.size) hcn hn
  have hi := fun W (q : Below w.heap.size w W) => lentInts_any E ea ec W ((hE.below q).mono q.size) hnil he
  have hRe := fun W gl gi M (h : FS w gl gi M E W) (hm : M.length = L.length) => Reached_any M E (L.length + 8) (E.length + 8) (some ⟨gl, 0, none⟩) (some ⟨gi, 0, none⟩) W ((lin_front h.cl).mono h.cl.1) ((nin_front h.en).mono h.en.1) (fun e => by cases e) (by omega) (by omega)
  have hHe : ∀ W gl gi M (h : FS w gl gi M E W) (hm : M.length = L.length), Calls Try.prog 26 #[.slice (some ⟨gl, 0, none⟩) M.length (L.length + 8)] W fun e w' => ∃ g, e = .returned (.slice (some ⟨g, 0, none⟩) M.length M.length) ∧ W.heap.size ≤ g ∧ At w' g (boolA M.length (hK M M.length)) ∧ Below W.heap.size W w' := fun W gl gi M h hm => by
    refine (Heads_any M (some ⟨gl, 0, none⟩) (L.length + 8) W ((lin_front h.cl).mono h.cl.1) (by omega)).mono ?_
    rintro e w' ⟨g, h1, h2, h3, h4⟩
    refine ⟨g, h1, h2, ?_, h4⟩
    rw [boolA_congr (g := (hdF M M.length).1) (fun k hk => (hd_eq M k hk).symm)]
    exact h3
  have hRD := fun W (q : Below w.heap.size w W) => ReachedD_any L E cc ec ca ea W ((hL.below q).mono q.size) ((hE.below q).mono q.size) (by omega) (by omega)
  have hHD := fun W (q : Below w.heap.size w W) => HeadsD_any L cc ca W ((hL.below q).mono q.size) (by omega)
  have hRT := fun W va vc (q : Below w.heap.size w W) (h : LIn W.heap.size W va L.reverse) => ReachedD_any L.reverse E vc ec va ea W h ((hE.below q).mono q.size) (by simp; omega) (by omega)
  have hHT := fun W va vc (h : LIn W.heap.size W va L.reverse) => HeadsD_any L.reverse vc va W h (by simp; omega)
  have hg := fun W g (q : Below w.heap.size w W) (h : At W g (insA (L ++ mkI8))) => given_any L ca cc g W ((hL.below q).mono q.size) h hn
  have hk := fun W g (q : Below w.heap.size w W) (h : At W g (numA (E ++ mkN))) => givenInts_any E ea ec g W ((hE.below q).mono q.size) h he
  have hbk := fun W (q : Below w.heap.size w W) => backwards_any L ca cc W ((hL.below q).mono q.size) hn
  have hq := fun (n : Nat) (hn : n < 2000000) g h f W (h1 : At W g (boolA n f)) (h2 : At W h (boolA n f)) => truthsEq_any n n n g h f W h1 h2 hn
  have hf := fun (n : Nat) (hn : n ≤ 1900000) g h f1 f2 W (h1 : At W g (boolA n f1)) (h2 : At W h (boolA n f2)) (hne : g ≠ h) => full_any g h n f1 f2 W h1 h2 hne hn
  have hrl : L.reverse.length = L.length := List.length_reverse
  replace hL := Hid.mk hL
  replace hcn := Hid.mk hcn
  replace hE := Hid.mk hE
  replace hnil := Hid.mk hnil
  replace hH := Hid.mk hH
  replace hl := Hid.mk hl
  replace hi := Hid.mk hi
  replace hRe := Hid.mk hRe
  replace hHe := Hid.mk hHe
  replace hRD := Hid.mk hRD
  replace hHD := Hid.mk hHD
  replace hRT := Hid.mk hRT
  replace hHT := Hid.mk hHT
  replace hg := Hid.mk hg
  replace hk := Hid.mk hk
  replace hbk := Hid.mk hbk
  replace hq := Hid.mk hq
  replace hf := Hid.mk hf
  replace hrl := Hid.mk hrl
  go_enter Try.func8, Try.ntmps8
  go_wp2_with fail
  refine hH.out.mono ?_
  rintro x w1 ⟨rfl, q1⟩
  replace q1 := Hid.mk q1
  go_wp2_with fail
  refine (hl.out _ q1.out).mono ?_
  rintro x w2 ⟨rfl, l1, l2⟩
  have hlo := q1.out.size
  have c2 := Hid.mk (q1.out.trans (l2.mono q1.out.size))
  replace l1 := Hid.mk l1
  clear l2
  generalize w1.heap.size = gl at *
  go_wp2_with fail
  refine (hi.out _ c2.out).mono ?_
  rintro x w3 ⟨rfl, i1, i2⟩
  have hl3 := at_below l1.out i2 l1.out.1
  have hli : Hid (gl ≠ w2.heap.size) := Hid.mk (Nat.ne_of_lt l1.out.1)
  have st : Hid (FS w gl w2.heap.size L E w3) := Hid.mk ⟨c2.out.trans (i2.mono c2.out.size), hl3, i1⟩
  clear i1 i2 hl3 c2 l1
  generalize w2.heap.size = gi at *
  go_wp2_with fail
  refine (hRe.out _ gl gi L st.out rfl).mono ?_
  rintro x w4 ⟨gA, rfl, h2, h3, h4⟩
  have nlA : Hid (gl ≠ gA) := Hid.mk (Nat.ne_of_lt (Nat.lt_of_lt_of_le st.out.cl.1 h2))
  have niA : Hid (gi ≠ gA) := Hid.mk (Nat.ne_of_lt (Nat.lt_of_lt_of_le st.out.en.1 h2))
  have loA : Hid (w.heap.size ≤ gA) := Hid.mk (Nat.le_trans st.out.be.size h2)
  replace st := Hid.mk (st.out.below h4)
  have A := Hid.mk h3
  clear h2 h3 h4
  go_wp2_with fail
  refine (hHe.out _ gl gi L st.out rfl).mono ?_
  rintro x w5 ⟨gB, rfl, h2, h3, h4⟩
  have neAB : Hid (gA ≠ gB) := Hid.mk (Nat.ne_of_lt (Nat.lt_of_lt_of_le A.out.1 h2))
  have nlB : Hid (gl ≠ gB) := Hid.mk (Nat.ne_of_lt (Nat.lt_of_lt_of_le st.out.cl.1 h2))
  have niB : Hid (gi ≠ gB) := Hid.mk (Nat.ne_of_lt (Nat.lt_of_lt_of_le st.out.en.1 h2))
  have loB : Hid (w.heap.size ≤ gB) := Hid.mk (Nat.le_trans st.out.be.size h2)
  replace st := Hid.mk (st.out.below h4)
  replace A := Hid.mk (at_below A.out h4 A.out.1)
  have B := Hid.mk h3
  clear h2 h3 h4
  go_wp2_with fail
  refine (hRD.out _ st.out.be).mono ?_
  rintro x w6 ⟨gP, rfl, h2, h3, h4⟩
  have neAP : Hid (gA ≠ gP) := Hid.mk (Nat.ne_of_lt (Nat.lt_of_lt_of_le A.out.1 h2))
  have neBP : Hid (gB ≠ gP) := Hid.mk (Nat.ne_of_lt (Nat.lt_of_lt_of_le B.out.1 h2))
  have nlP : Hid (gl ≠ gP) := Hid.mk (Nat.ne_of_lt (Nat.lt_of_lt_of_le st.out.cl.1 h2))
  have niP : Hid (gi ≠ gP) := Hid.mk (Nat.ne_of_lt (Nat.lt_of_lt_of_le st.out.en.1 h2))
  have loP : Hid (w.heap.size ≤ gP) := Hid.mk (Nat.le_trans st.out.be.size h2)
  replace st := Hid.mk (st.out.below h4)
  replace A := Hid.mk (at_below A.out h4 A.out.1)
  replace B := Hid.mk (at_below B.out h4 B.out.1)
  have P := Hid.mk h3
  clear h2 h3 h4
  go_wp2_with fail
  refine (hq.out L.length (by omega) gA gP _ _ A.out P.out).mono ?_
  rintro x w7 ⟨rfl, h4⟩
  clear P
  replace st := Hid.mk (st.out.below h4)
  replace A := Hid.mk (at_below A.out h4 A.out.1)
  replace B := Hid.mk (at_below B.out h4 B.out.1)
  clear h4
  go_wp2_with fail
  refine (hHD.out _ st.out.be).mono ?_
  rintro x w8 ⟨gQ, rfl, h2, h3, h4⟩
  have neAQ : Hid (gA ≠ gQ) := Hid.mk (Nat.ne_of_lt (Nat.lt_of_lt_of_le A.out.1 h2))
  have neBQ : Hid (gB ≠ gQ) := Hid.mk (Nat.ne_of_lt (Nat.lt_of_lt_of_le B.out.1 h2))
  have nlQ : Hid (gl ≠ gQ) := Hid.mk (Nat.ne_of_lt (Nat.lt_of_lt_of_le st.out.cl.1 h2))
  have niQ : Hid (gi ≠ gQ) := Hid.mk (Nat.ne_of_lt (Nat.lt_of_lt_of_le st.out.en.1 h2))
  have loQ : Hid (w.heap.size ≤ gQ) := Hid.mk (Nat.le_trans st.out.be.size h2)
  replace st := Hid.mk (st.out.below h4)
  replace A := Hid.mk (at_below A.out h4 A.out.1)
  replace B := Hid.mk (at_below B.out h4 B.out.1)
  have Q := Hid.mk h3
  clear h2 h3 h4
  go_wp2_with fail
  refine (hq.out L.length (by omega) gB gQ _ _ B.out Q.out).mono ?_
  rintro x w9 ⟨rfl, h4⟩
  clear Q
  replace st := Hid.mk (st.out.below h4)
  replace A := Hid.mk (at_below A.out h4 A.out.1)
  replace B := Hid.mk (at_below B.out h4 B.out.1)
  clear h4
  go_wp2_with fail
  refine (hRe.out _ gl gi L st.out rfl).mono ?_
  rintro x w10 ⟨gC, rfl, h2, h3, h4⟩
  have neAC : Hid (gA ≠ gC) := Hid.mk (Nat.ne_of_lt (Nat.lt_of_lt_of_le A.out.1 h2))
  have neBC : Hid (gB ≠ gC) := Hid.mk (Nat.ne_of_lt (Nat.lt_of_lt_of_le B.out.1 h2))
  have nlC : Hid (gl ≠ gC) := Hid.mk (Nat.ne_of_lt (Nat.lt_of_lt_of_le st.out.cl.1 h2))
  have niC : Hid (gi ≠ gC) := Hid.mk (Nat.ne_of_lt (Nat.lt_of_lt_of_le st.out.en.1 h2))
  have loC : Hid (w.heap.size ≤ gC) := Hid.mk (Nat.le_trans st.out.be.size h2)
  replace st := Hid.mk (st.out.below h4)
  replace A := Hid.mk (at_below A.out h4 A.out.1)
  replace B := Hid.mk (at_below B.out h4 B.out.1)
  have C := Hid.mk h3
  clear h2 h3 h4
  go_wp2_with fail
  refine (hHe.out _ gl gi L st.out rfl).mono ?_
  rintro x w11 ⟨gD, rfl, h2, h3, h4⟩
  have neAD : Hid (gA ≠ gD) := Hid.mk (Nat.ne_of_lt (Nat.lt_of_lt_of_le A.out.1 h2))
  have neBD : Hid (gB ≠ gD) := Hid.mk (Nat.ne_of_lt (Nat.lt_of_lt_of_le B.out.1 h2))
  have neCD : Hid (gC ≠ gD) := Hid.mk (Nat.ne_of_lt (Nat.lt_of_lt_of_le C.out.1 h2))
  have nlD : Hid (gl ≠ gD) := Hid.mk (Nat.ne_of_lt (Nat.lt_of_lt_of_le st.out.cl.1 h2))
  have niD : Hid (gi ≠ gD) := Hid.mk (Nat.ne_of_lt (Nat.lt_of_lt_of_le st.out.en.1 h2))
  have loD : Hid (w.heap.size ≤ gD) := Hid.mk (Nat.le_trans st.out.be.size h2)
  replace st := Hid.mk (st.out.below h4)
  replace A := Hid.mk (at_below A.out h4 A.out.1)
  replace B := Hid.mk (at_below B.out h4 B.out.1)
  replace C := Hid.mk (at_below C.out h4 C.out.1)
  have D := Hid.mk h3
  clear h2 h3 h4
  go_wp2_with fail
  refine (hRD.out _ st.out.be).mono ?_
  rintro x w12 ⟨gR, rfl, h2, h3, h4⟩
  have neAR : Hid (gA ≠ gR) := Hid.mk (Nat.ne_of_lt (Nat.lt_of_lt_of_le A.out.1 h2))
  have neBR : Hid (gB ≠ gR) := Hid.mk (Nat.ne_of_lt (Nat.lt_of_lt_of_le B.out.1 h2))
  have neCR : Hid (gC ≠ gR) := Hid.mk (Nat.ne_of_lt (Nat.lt_of_lt_of_le C.out.1 h2))
  have neDR : Hid (gD ≠ gR) := Hid.mk (Nat.ne_of_lt (Nat.lt_of_lt_of_le D.out.1 h2))
  have nlR : Hid (gl ≠ gR) := Hid.mk (Nat.ne_of_lt (Nat.lt_of_lt_of_le st.out.cl.1 h2))
  have niR : Hid (gi ≠ gR) := Hid.mk (Nat.ne_of_lt (Nat.lt_of_lt_of_le st.out.en.1 h2))
  have loR : Hid (w.heap.size ≤ gR) := Hid.mk (Nat.le_trans st.out.be.size h2)
  replace st := Hid.mk (st.out.below h4)
  replace A := Hid.mk (at_below A.out h4 A.out.1)
  replace B := Hid.mk (at_below B.out h4 B.out.1)
  replace C := Hid.mk (at_below C.out h4 C.out.1)
  replace D := Hid.mk (at_below D.out h4 D.out.1)
  have R := Hid.mk h3
  clear h2 h3 h4
  go_wp2_with fail
  refine (hq.out L.length (by omega) gC gR _ _ C.out R.out).mono ?_
  rintro x w13 ⟨rfl, h4⟩
  clear R
  replace st := Hid.mk (st.out.below h4)
  replace A := Hid.mk (at_below A.out h4 A.out.1)
  replace B := Hid.mk (at_below B.out h4 B.out.1)
  replace C := Hid.mk (at_below C.out h4 C.out.1)
  replace D := Hid.mk (at_below D.out h4 D.out.1)
  clear h4
  go_wp2_with fail
  refine (hHD.out _ st.out.be).mono ?_
  rintro x w14 ⟨gS, rfl, h2, h3, h4⟩
  have neAS : Hid (gA ≠ gS) := Hid.mk (Nat.ne_of_lt (Nat.lt_of_lt_of_le A.out.1 h2))
  have neBS : Hid (gB ≠ gS) := Hid.mk (Nat.ne_of_lt (Nat.lt_of_lt_of_le B.out.1 h2))
  have neCS : Hid (gC ≠ gS) := Hid.mk (Nat.ne_of_lt (Nat.lt_of_lt_of_le C.out.1 h2))
  have neDS : Hid (gD ≠ gS) := Hid.mk (Nat.ne_of_lt (Nat.lt_of_lt_of_le D.out.1 h2))
  have nlS : Hid (gl ≠ gS) := Hid.mk (Nat.ne_of_lt (Nat.lt_of_lt_of_le st.out.cl.1 h2))
  have niS : Hid (gi ≠ gS) := Hid.mk (Nat.ne_of_lt (Nat.lt_of_lt_of_le st.out.en.1 h2))
  have loS : Hid (w.heap.size ≤ gS) := Hid.mk (Nat.le_trans st.out.be.size h2)
  replace st := Hid.mk (st.out.below h4)
  replace A := Hid.mk (at_below A.out h4 A.out.1)
  replace B := Hid.mk (at_below B.out h4 B.out.1)
  replace C := Hid.mk (at_below C.out h4 C.out.1)
  replace D := Hid.mk (at_below D.out h4 D.out.1)
  have S := Hid.mk h3
  clear h2 h3 h4
  go_wp2_with fail
  refine (hq.out L.length (by omega) gD gS _ _ D.out S.out).mono ?_
  rintro x w15 ⟨rfl, h4⟩
  clear S
  replace st := Hid.mk (st.out.below h4)
  replace A := Hid.mk (at_below A.out h4 A.out.1)
  replace B := Hid.mk (at_below B.out h4 B.out.1)
  replace C := Hid.mk (at_below C.out h4 C.out.1)
  replace D := Hid.mk (at_below D.out h4 D.out.1)
  clear h4
  go_wp2_with fail
  refine (hf.out L.length (by omega) gA gB _ _ _ A.out B.out (neAB.out)).mono ?_
  rintro x w16 ⟨rfl, h1, h2, h3⟩
  replace st := Hid.mk (st.out.kp h3 ⟨nlA.out, nlB.out, niA.out, niB.out⟩ ⟨loA.out, loB.out⟩)
  replace C := Hid.mk (at_kp2 C.out h3 ⟨neAC.out.symm, neBC.out.symm⟩)
  replace D := Hid.mk (at_kp2 D.out h3 ⟨neAD.out.symm, neBD.out.symm⟩)
  replace A := Hid.mk h1
  replace B := Hid.mk h2
  clear h1 h2 h3
  go_wp2_with fail
  refine (hf.out L.length (by omega) gD gC _ _ _ D.out C.out (neCD.out.symm)).mono ?_
  rintro x w17 ⟨rfl, h1, h2, h3⟩
  replace st := Hid.mk (st.out.kp h3 ⟨nlD.out, nlC.out, niD.out, niC.out⟩ ⟨loD.out, loC.out⟩)
  replace A := Hid.mk (at_kp2 A.out h3 ⟨neAD.out, neAC.out⟩)
  replace B := Hid.mk (at_kp2 B.out h3 ⟨neBD.out, neBC.out⟩)
  replace D := Hid.mk h1
  replace C := Hid.mk h2
  clear h1 h2 h3
  go_wp2_with fail
  refine (hf.out L.length (by omega) gA gC _ _ _ A.out C.out (neAC.out)).mono ?_
  rintro x w18 ⟨rfl, h1, h2, h3⟩
  replace st := Hid.mk (st.out.kp h3 ⟨nlA.out, nlC.out, niA.out, niC.out⟩ ⟨loA.out, loC.out⟩)
  replace B := Hid.mk (at_kp2 B.out h3 ⟨neAB.out.symm, neBC.out⟩)
  replace D := Hid.mk (at_kp2 D.out h3 ⟨neAD.out.symm, neCD.out.symm⟩)
  replace A := Hid.mk h1
  replace C := Hid.mk h2
  clear h1 h2 h3
  go_wp2_with fail
  refine (hf.out L.length (by omega) gB gD _ _ _ B.out D.out (neBD.out)).mono ?_
  rintro x w19 ⟨rfl, h1, h2, h3⟩
  replace st := Hid.mk (st.out.kp h3 ⟨nlB.out, nlD.out, niB.out, niD.out⟩ ⟨loB.out, loD.out⟩)
  replace A := Hid.mk (at_kp2 A.out h3 ⟨neAB.out, neAD.out⟩)
  replace C := Hid.mk (at_kp2 C.out h3 ⟨neBC.out.symm, neCD.out⟩)
  replace B := Hid.mk h1
  replace D := Hid.mk h2
  clear h1 h2 h3
  clear A
  clear B
  clear C
  clear D
  go_wp2_with fail
  refine (hRe.out _ gl gi L st.out rfl).mono ?_
  rintro x w20 ⟨gX, rfl, h2, h3, h4⟩
  have nlX : Hid (gl ≠ gX) := Hid.mk (Nat.ne_of_lt (Nat.lt_of_lt_of_le st.out.cl.1 h2))
  have niX : Hid (gi ≠ gX) := Hid.mk (Nat.ne_of_lt (Nat.lt_of_lt_of_le st.out.en.1 h2))
  have loX : Hid (w.heap.size ≤ gX) := Hid.mk (Nat.le_trans st.out.be.size h2)
  replace st := Hid.mk (st.out.below h4)
  have X := Hid.mk h3
  clear h2 h3 h4
  go_wp2_with fail
  refine (hHe.out _ gl gi L st.out rfl).mono ?_
  rintro x w21 ⟨gY, rfl, h2, h3, h4⟩
  have neXY : Hid (gX ≠ gY) := Hid.mk (Nat.ne_of_lt (Nat.lt_of_lt_of_le X.out.1 h2))
  have nlY : Hid (gl ≠ gY) := Hid.mk (Nat.ne_of_lt (Nat.lt_of_lt_of_le st.out.cl.1 h2))
  have niY : Hid (gi ≠ gY) := Hid.mk (Nat.ne_of_lt (Nat.lt_of_lt_of_le st.out.en.1 h2))
  have loY : Hid (w.heap.size ≤ gY) := Hid.mk (Nat.le_trans st.out.be.size h2)
  replace st := Hid.mk (st.out.below h4)
  replace X := Hid.mk (at_below X.out h4 X.out.1)
  have Y := Hid.mk h3
  clear h2 h3 h4
  go_wp2_with fail
  refine (hRD.out _ st.out.be).mono ?_
  rintro x w22 ⟨gT, rfl, h2, h3, h4⟩
  have neXT : Hid (gX ≠ gT) := Hid.mk (Nat.ne_of_lt (Nat.lt_of_lt_of_le X.out.1 h2))
  have neYT : Hid (gY ≠ gT) := Hid.mk (Nat.ne_of_lt (Nat.lt_of_lt_of_le Y.out.1 h2))
  have nlT : Hid (gl ≠ gT) := Hid.mk (Nat.ne_of_lt (Nat.lt_of_lt_of_le st.out.cl.1 h2))
  have niT : Hid (gi ≠ gT) := Hid.mk (Nat.ne_of_lt (Nat.lt_of_lt_of_le st.out.en.1 h2))
  have loT : Hid (w.heap.size ≤ gT) := Hid.mk (Nat.le_trans st.out.be.size h2)
  replace st := Hid.mk (st.out.below h4)
  replace X := Hid.mk (at_below X.out h4 X.out.1)
  replace Y := Hid.mk (at_below Y.out h4 Y.out.1)
  have T := Hid.mk h3
  clear h2 h3 h4
  go_wp2_with fail
  refine (hq.out L.length (by omega) gX gT _ _ X.out T.out).mono ?_
  rintro x w23 ⟨rfl, h4⟩
  clear T
  replace st := Hid.mk (st.out.below h4)
  replace X := Hid.mk (at_below X.out h4 X.out.1)
  replace Y := Hid.mk (at_below Y.out h4 Y.out.1)
  clear h4
  go_wp2_with fail
  refine (hHD.out _ st.out.be).mono ?_
  rintro x w24 ⟨gU, rfl, h2, h3, h4⟩
  have neXU : Hid (gX ≠ gU) := Hid.mk (Nat.ne_of_lt (Nat.lt_of_lt_of_le X.out.1 h2))
  have neYU : Hid (gY ≠ gU) := Hid.mk (Nat.ne_of_lt (Nat.lt_of_lt_of_le Y.out.1 h2))
  have nlU : Hid (gl ≠ gU) := Hid.mk (Nat.ne_of_lt (Nat.lt_of_lt_of_le st.out.cl.1 h2))
  have niU : Hid (gi ≠ gU) := Hid.mk (Nat.ne_of_lt (Nat.lt_of_lt_of_le st.out.en.1 h2))
  have loU : Hid (w.heap.size ≤ gU) := Hid.mk (Nat.le_trans st.out.be.size h2)
  replace st := Hid.mk (st.out.below h4)
  replace X := Hid.mk (at_below X.out h4 X.out.1)
  replace Y := Hid.mk (at_below Y.out h4 Y.out.1)
  have U := Hid.mk h3
  clear h2 h3 h4
  go_wp2_with fail
  refine (hq.out L.length (by omega) gY gU _ _ Y.out U.out).mono ?_
  rintro x w25 ⟨rfl, h4⟩
  clear U
  replace st := Hid.mk (st.out.below h4)
  replace X := Hid.mk (at_below X.out h4 X.out.1)
  replace Y := Hid.mk (at_below Y.out h4 Y.out.1)
  clear h4
  clear X
  clear Y
  go_wp2_with fail
  refine (hg.out _ gl st.out.be st.out.cl).mono ?_
  rintro x w26 ⟨rfl, h4⟩
  replace st := Hid.mk (st.out.below h4)
  clear h4
  go_wp2_with fail
  refine (hbk.out _ st.out.be).mono ?_
  rintro x w27 ⟨v, rfl, b1, h4⟩
  have hglp : gl < w26.heap.size := st.out.cl.1
  replace st := Hid.mk (st.out.below h4)
  obtain ⟨va, vc, rfl, b2⟩ := b1.form
  have b3 : NilOk va L.reverse.length vc := fun e => by
    rcases b1.2 with ⟨r, _⟩ | ⟨g', c', cur, r, _⟩
    · injection r with r1 r2 r3; exact ⟨r2, r3⟩
    · injection r with r1 r2 r3; rw [e] at r1; cases r1
  have hcp := copy_back (c := L.length + 8) 3 st.out.cl b2 b3 (by simp)
  have b4 : LOwn (w27.setCells gl 0 (flat L.reverse)) w26.heap.size (.slice va L.reverse.length vc) L.reverse := own_kp b1 (kp_setCells (fun k => k = gl) gl rfl _ 0 w27) (fun k r => by have := (World.ownsRow.lt b1 k r).1; omega)
  have st2 : Hid (FS w gl gi L.reverse E (w27.setCells gl 0 (flat L.reverse))) := Hid.mk (st.out.turn hrl.out hlo (fun e => hli.out e.symm))
  obtain ⟨va', vc', ev, b5⟩ := b4.form
  injection ev with ev1 ev2 ev3
  subst ev1 ev3
  have T := Hid.mk b5
  clear st b1 b2 b3 b4 b5 h4 hglp
  have st := st2
  clear st2
  rw [hrl.out] at hcp ⊢
  generalize w27.setCells gl 0 (flat L.reverse) = w28 at *
  go_wp2_with fail
  have hterm := hRe.out _ gl gi L.reverse st.out hrl.out
  rw [hrl.out] at hterm
  refine hterm.mono ?_
  rintro x w29 ⟨gX, rfl, h2, h3, h4⟩
  replace st := Hid.mk (st.out.below h4)
  replace T := Hid.mk ((T.out.below h4).mono h4.size)
  have X := Hid.mk h3
  clear h2 h3 h4 hterm
  go_wp2_with fail
  have hterm := hHe.out _ gl gi L.reverse st.out hrl.out
  rw [hrl.out] at hterm
  refine hterm.mono ?_
  rintro x w30 ⟨gY, rfl, h2, h3, h4⟩
  replace st := Hid.mk (st.out.below h4)
  replace X := Hid.mk (at_below X.out h4 X.out.1)
  replace T := Hid.mk ((T.out.below h4).mono h4.size)
  have Y := Hid.mk h3
  clear h2 h3 h4 hterm
  go_wp2_with fail
  have hterm := hRT.out _ va vc st.out.be T.out
  rw [hrl.out] at hterm
  refine hterm.mono ?_
  rintro x w31 ⟨gT1, rfl, h2, h3, h4⟩
  replace st := Hid.mk (st.out.below h4)
  replace X := Hid.mk (at_below X.out h4 X.out.1)
  replace Y := Hid.mk (at_below Y.out h4 Y.out.1)
  replace T := Hid.mk ((T.out.below h4).mono h4.size)
  have T1 := Hid.mk h3
  clear h2 h3 h4 hterm
  go_wp2_with fail
  refine (hq.out L.length (by omega) gX gT1 _ _ X.out T1.out).mono ?_
  rintro x w32 ⟨rfl, h4⟩
  clear T1
  replace st := Hid.mk (st.out.below h4)
  replace X := Hid.mk (at_below X.out h4 X.out.1)
  replace Y := Hid.mk (at_below Y.out h4 Y.out.1)
  replace T := Hid.mk ((T.out.below h4).mono h4.size)
  clear h4
  go_wp2_with fail
  have hterm := hHT.out _ va vc T.out
  rw [hrl.out] at hterm
  refine hterm.mono ?_
  rintro x w33 ⟨gU1, rfl, h2, h3, h4⟩
  replace st := Hid.mk (st.out.below h4)
  replace X := Hid.mk (at_below X.out h4 X.out.1)
  replace Y := Hid.mk (at_below Y.out h4 Y.out.1)
  replace T := Hid.mk ((T.out.below h4).mono h4.size)
  have U1 := Hid.mk h3
  clear h2 h3 h4 hterm
  go_wp2_with fail
  refine (hq.out L.length (by omega) gY gU1 _ _ Y.out U1.out).mono ?_
  rintro x w34 ⟨rfl, h4⟩
  clear U1
  replace st := Hid.mk (st.out.below h4)
  replace X := Hid.mk (at_below X.out h4 X.out.1)
  replace Y := Hid.mk (at_below Y.out h4 Y.out.1)
  replace T := Hid.mk ((T.out.below h4).mono h4.size)
  clear h4
  go_wp2_with fail
  refine (hk.out _ gi st.out.be st.out.en).mono ?_
  rintro x w35 ⟨rfl, h4⟩
  have cE := Hid.mk (st.out.be.trans (h4.mono st.out.be.size))
  clear h4
  go_wp2_with fail
  go_ret
  exact ⟨rfl, cE.out⟩
end F
end Go.Proofs.Ytjmknpkmbghgdaa
