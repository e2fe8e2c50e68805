import Derived.Test.YtdlcphinjnnhcaaGreatDoorK20
import Derived.Test.YtdlcphinjnnhcaaGreatDoorK16
import Derived.Test.YtdlcphinjnnhcaaGreatDoorK19
namespace Go.Proofs.YtdlcphinjnnhcaaGreatDoor
set_option maxRecDepth 100000
set_option maxHeartbeats 40000000
namespace Bd
open Go.RowKit
open F (own_slice own_nin boolA folB folB_lt take_snoc)

theorem least_any (a : Int) (w : World) : Calls Tryz.prog 62 #[.int .u64 a, .int .u64 1099511627777] w fun e w' => e = .returned (.int .u64 (tpD a)) ∧ w' = w := by
 by_cases h : a < 1099511627777
 · have e : tpD a = a := by unfold tpD; omega
   rw [e]
   clear e
   go_enter Tryz.func62, Tryz.ntmps62
   go_wp2_with fail
   go_ret
   exact ⟨rfl, rfl⟩
 · have e : tpD a = 1099511627777 := by unfold tpD; omega
   rw [e]
   clear e
   have h2 : (1099511627777 : Int) ≤ a := by omega
   go_enter Tryz.func62, Tryz.ntmps62
   go_wp2_with fail
   go_ret
   exact ⟨rfl, rfl⟩
def allD (dn : Nat → Bool) (N : List Int) : Bool := N.all fun y => dn y.toNat
def smN (L : List Ins) (dn : Nat → Bool) (bh : Nat → Int) (own ovr : Int) (pc : Nat) : Int := if allD dn (nxD L pc) = true then tpD (mostD L bh ovr pc (nxD L pc) + own) else 0
theorem ovr_val {L : List Ins} {pc : Nat} (hp : pc < L.length) : ovB L pc = (decide ((pc : Int) = L.length - 1) && !(L[pc].op == 20 || L[pc].op == 26 || L[pc].op == 27 || L[pc].op == 28 || L[pc].op == 32)) := by
 unfold ovB
 rw [List.getElem?_eq_getElem hp]
 have : decide (pc + 1 = L.length) = decide ((pc : Int) = L.length - 1) := by
   by_cases h : pc + 1 = L.length
   · rw [decide_eq_true h, decide_eq_true (by omega)]
   · rw [decide_eq_false h, decide_eq_false (by omega)]
 rw [this]
theorem allD_snoc (dn : Nat → Bool) (N : List Int) (y : Int) : allD dn (N ++ [y]) = (allD dn N && dn y.toNat) := by unfold allD; rw [List.all_append]; simp
theorem allD_no {dn : Nat → Bool} {N : List Int} {k : Nat} (h : k < N.length) (hd : dn N[k].toNat = false) : allD dn N = false := by
 unfold allD
 rw [List.all_eq_false]
 exact ⟨N[k], List.getElem_mem h, by rw [hd]; simp⟩
theorem sumD_any (L : List Ins) (ca : Option Addr) (cc : Nat) (pc g1 g2 : Nat) (dn : Nat → Bool) (bh : Nat → Int) (own ovr : Int) (w : World) (hL : LIn w.heap.size w ca L) (hp : pc < L.length) (hn : L.length < 2000000) (hd : At w g1 (boolA L.length dn)) (hb : Ir .u64 w g2 L.length bh) (ho : 0 ≤ ovr ∧ ovr ≤ 1) (hw : 0 ≤ own ∧ own ≤ 1099511627777) (hbh : ∀ q, q < L.length → dn q = true → 0 ≤ bh q ∧ bh q ≤ 1099511627777) :
   Calls Tryz.prog 47 #[.slice ca L.length cc, .int .i64 pc, .slice (some ⟨g1, 0, none⟩) L.length L.length, .slice (some ⟨g2, 0, none⟩) L.length L.length, .int .u64 own, .int .u64 ovr] w fun e w' => e = .returned (.tuple #[.int .u64 (smN L dn bh own ovr pc), .bool (allD dn (nxD L pc))]) ∧ Below w.heap.size w w' := by
 have hX := Hz.mk (nextD_any L ca cc pc w hL hp hn)
 have hLe := Hz.mk least_any
 obtain ⟨b, off, rfl, hb0, hbw, five⟩ := hL pc hp
 have hop : Hz (∀ W, Below w.heap.size w W → W.cell? ⟨b, off + pc * 5, none⟩ = some (.int .u8 L[pc].op)) := Hz.mk (fun W q => (q.cell (p := ⟨b, _, none⟩) hb0).trans five.1)
 have hov := Hz.mk (ovr_val hp)
 have hp1 : (pc : Int) < L.length := by omega
 have hyq : Hz (∀ y ∈ nxD L pc, ∃ q : Nat, y = q ∧ folB L pc q = true) := Hz.mk (fun y hy => (mem_nxD hp y).1 hy)
 have hNl : (nxD L pc).length ≤ L.length + 2 := nxD_len L pc
 have hsm : Hz (smN L dn bh own ovr pc = if allD dn (nxD L pc) = true then tpD (mostD L bh ovr pc (nxD L pc) + own) else 0) := Hz.mk rfl
 have hms := Hz.mk (fun N y => mostD_snoc L bh ovr pc N y)
 have hmi := Hz.mk (fun N h => mostD_in (L := L) (bh := bh) (ovr := ovr) (by omega) (pc := pc) N h)
 have hm0 : Hz (mostD L bh ovr pc [] = if ovB L pc = true then ovr else 0) := Hz.mk rfl
 have hlw : wrap64 ((L.length : Int) - 1) = (L.length : Int) - 1 := by unfold wrap64; omega
 have hlx : IntKind.i64.wrap ((L.length : Int) - 1) = (L.length : Int) - 1 := by rw [IntKind.wrap_i64]; omega
 generalize nxD L pc = N at *
 generalize smN L dn bh own ovr pc = sm at *
 generalize mostD L bh ovr pc = mo at *
 generalize hoB : ovB L pc = ob at *
 generalize L[pc].op = op at *
 replace hd := Hz.mk hd
 replace hb := Hz.mk hb
 replace hL := Hz.mk hL
 replace hbh := Hz.mk hbh
 replace hoB := Hz.mk hoB
 clear five
 go_enter Tryz.func47, Tryz.ntmps47
 go_upto_region 2 with (go_at_call 61; refine hX.out.mono ?_; rintro z W ⟨v', rfl, n1, n2⟩; obtain ⟨na, nc, rfl⟩ := own_slice n1; have hlo := own_nin n1; replace n1 := Hz.mk n1; replace n2 := Hz.mk n2; replace hlo := Hz.mk hlo)
 have c0 := hop.out W n2.out
 have hbW : b < W.heap.size := Nat.lt_of_lt_of_le hbw n2.out.size
 have hd1 := Hz.mk (at_past hd.out n2.out)
 have hb1 := Hz.mk (hb.out.below n2.out)
 clear hX hop hd hb hL
 go_upto_region 4 with fail
 go_cut [50] (fun x wx => x = .bool ob ∧ W = wx)
 case first =>
   by_cases q : (pc : Int) = (L.length : Int) - 1
   · have q1 : ((pc : Int) == (L.length : Int) - 1) = true := by rw [beq_iff_eq]; exact q
     have ho2 := hov.out
     rw [decide_eq_true q, Bool.true_and] at ho2
     replace q := Hz.mk q
     clear hov
     by_cases h1 : op = 20
     · subst h1
       replace ho2 := Hz.mk ho2
       go_wp2_with fail
       go_meet
       exact ⟨by rw [ho2.out]; rfl, rfl⟩
     by_cases h2 : op = 26
     · subst h2
       replace ho2 := Hz.mk ho2
       go_wp2_with fail
       go_meet
       exact ⟨by rw [ho2.out]; rfl, rfl⟩
     by_cases h3 : op = 27
     · subst h3
       replace ho2 := Hz.mk ho2
       go_wp2_with fail
       go_meet
       exact ⟨by rw [ho2.out]; rfl, rfl⟩
     by_cases h4 : op = 28
     · subst h4
       replace ho2 := Hz.mk ho2
       go_wp2_with fail
       go_meet
       exact ⟨by rw [ho2.out]; rfl, rfl⟩
     by_cases h5 : op = 32
     · subst h5
       replace ho2 := Hz.mk ho2
       go_wp2_with fail
       go_meet
       exact ⟨by rw [ho2.out]; rfl, rfl⟩
     have e1 : (op == 20) = false := by simpa using h1
     have e2 : (op == 26) = false := by simpa using h2
     have e3 : (op == 27) = false := by simpa using h3
     have e4 : (op == 28) = false := by simpa using h4
     have e5 : (op == 32) = false := by simpa using h5
     rw [e1, e2, e3, e4, e5] at ho2
     have f1 : (op != 20) = true := by simpa using h1
     have f2 : (op != 26) = true := by simpa using h2
     have f3 : (op != 27) = true := by simpa using h3
     have f4 : (op != 28) = true := by simpa using h4
     have f5 : (op != 32) = true := by simpa using h5
     clear h1 h2 h3 h4 h5 e1 e2 e3 e4 e5
     replace ho2 := Hz.mk ho2
     go_wp2_with fail
     go_meet
     exact ⟨by rw [ho2.out]; rfl, rfl⟩
   · have q1 : ((pc : Int) == (L.length : Int) - 1) = false := by rw [beq_eq_false_iff_ne]; exact q
     have ho2 := hov.out
     rw [decide_eq_false q, Bool.false_and] at ho2
     replace ho2 := Hz.mk ho2
     replace q := Hz.mk q
     clear hov
     go_wp2_with fail
     go_meet
     exact ⟨by rw [ho2.out], rfl⟩
 case rest =>
   obtain ⟨e50, hwx⟩ := hcut
   subst hwx
   subst e50
   clear c0
   go_upto_if 50 with fail
   go_cut [15] (fun x wx => x = .int .u64 (mo []) ∧ W = wx)
   case first =>
     have hm1 := hm0.out
     cases ob with
     | true =>
       rw [if_pos rfl] at hm1
       replace hm1 := Hz.mk hm1
       go_wp2_with fail
       go_meet
       exact ⟨by rw [hm1.out], rfl⟩
     | false =>
       rw [if_neg Bool.false_ne_true] at hm1
       replace hm1 := Hz.mk hm1
       go_wp2_with fail
       go_meet
       exact ⟨by rw [hm1.out], rfl⟩
   case rest =>
     obtain ⟨e15, hwx⟩ := hcut
     subst hwx
     subst e15
     go_upto_region 7 with fail
     go_loopw [15, 17] (fun m x wr => ∃ k : Nat, m = .int .u64 (mo (N.take k)) ∧ x = .int .i64 k ∧ k ≤ N.length ∧ Hz (allD dn (N.take k) = true) ∧ W = wr) (fun _ x _ => N.length - (intOf x).toNat)
     case atStart => exact ⟨0, rfl, rfl, by omega, Hz.mk rfl, rfl⟩
     case round =>
       obtain ⟨k, rfl, rfl, hk, hall, hwx⟩ := hrel
       subst hwx
       have hbd := hmi.out (N.take k) (fun y hy => by
         obtain ⟨q, rfl, hq⟩ := hyq.out y (List.mem_of_mem_take hy)
         rw [Int.toNat_natCast]
         have h1 := List.all_eq_true.1 hall.out _ hy
         rw [Int.toNat_natCast] at h1
         exact (hbh.out q (folB_lt hq) h1).2)
       by_cases hkl : k < N.length
       · obtain ⟨b', off', ena, hb0', hb1', hck⟩ := hlo.out k hkl
         have ki1 : (k : Int) < N.length := by omega
         obtain ⟨q, eyq, hfq⟩ := hyq.out N[k] (List.getElem_mem hkl)
         have htk := take_snoc N k hkl
         have hno := fun h => allD_no (dn := dn) (N := N) hkl h
         rw [eyq] at hck htk hno
         rw [Int.toNat_natCast] at hno
         have hql := folB_lt hfq
         have hqi : (q : Int) < L.length := by omega
         have zq := bool_at hd1.out q hql
         have zb := hb1.out.c q hql
         have hz1 := hd1.out.1
         have hz2 := hb1.out.lt
         have hsn := hms.out (N.take k) (q : Int)
         have hal := allD_snoc dn (N.take k) (q : Int)
         rw [← htk] at hsn hal
         rw [Int.toNat_natCast] at hsn hal
         cases ena
         cases hdq : dn q with
         | false =>
           have hfin := hno hdq
           have hs2 := hsm.out
           rw [hfin, if_neg Bool.false_ne_true] at hs2
           rw [hdq] at zq
           replace hno := Hz.mk hno
           replace hfin := Hz.mk hfin
           replace hs2 := Hz.mk hs2
           replace hsn := Hz.mk hsn
           replace hal := Hz.mk hal
           replace htk := Hz.mk htk
           replace eyq := Hz.mk eyq
           replace hfq := Hz.mk hfq
           replace hdq := Hz.mk hdq
           generalize mo (N.take k) = mk at *
           go_wp2_with fail
           refine bodyPost_ret (v := .tuple #[.int .u64 0, .bool false]) (by simp [results, Tryz.results47, go_sem]) rfl ?_
           exact ⟨by rw [hs2.out, hfin.out], n2.out⟩
         | true =>
           rw [hdq] at zq hal
           rw [hall.out, Bool.true_and] at hal
           have hq2 := hbh.out q hql hdq
           replace hno := Hz.mk hno
           replace hal := Hz.mk hal
           replace htk := Hz.mk htk
           replace eyq := Hz.mk eyq
           replace hfq := Hz.mk hfq
           replace hdq := Hz.mk hdq
           generalize hmk : mo (N.take k) = mk at *
           replace hmk := Hz.mk hmk
           by_cases hgt : mk < bh q
           · have hs2 : Hz (mo (N.take (k + 1)) = bh q) := Hz.mk (by rw [hsn]; omega)
             clear hsn
             generalize hbq : bh q = bq at *
             replace hbq := Hz.mk hbq
             go_wp2_with fail
             go_roundw
             all_goals first | exact ⟨k + 1, by rw [hs2.out], by first | rfl | simp, by omega, hal, by trivial⟩ | (simp only [intOf]; omega)
           · have hs2 : Hz (mo (N.take (k + 1)) = mk) := Hz.mk (by rw [hsn]; omega)
             have hgt2 : bh q ≤ mk := by omega
             clear hsn
             generalize hbq : bh q = bq at *
             replace hbq := Hz.mk hbq
             go_wp2_with fail
             go_roundw
             all_goals first | exact ⟨k + 1, by rw [hs2.out], by first | rfl | simp, by omega, hal, by trivial⟩ | (simp only [intOf]; omega)
       · have ki1 : ¬ (k : Int) < N.length := by omega
         have ek : N.take k = N := List.take_of_length_le (by omega)
         rw [ek] at hall hbd ⊢
         have hs2 := hsm.out
         rw [hall.out, if_pos rfl] at hs2
         have ha := Hz.mk hall.out
         generalize hmk : mo N = mk at *
         have w1 : IntKind.u64.wrap (mk + own) = mk + own := wrapU _ (by omega)
         replace hs2 := Hz.mk hs2
         replace hmk := Hz.mk hmk
         go_wp2_with (go_at_call 62; refine (hLe.out _ _).mono ?_; rintro r w3 ⟨rfl, rfl⟩)
         refine bodyPost_ret (v := .tuple #[.int .u64 (tpD (mk + own)), .bool true]) (by simp [results, Tryz.results47, go_sem]) rfl ?_
         exact ⟨by rw [hs2.out, ha.out], n2.out⟩
end Bd
end Go.Proofs.YtdlcphinjnnhcaaGreatDoor


namespace Go.Proofs.YtdlcphinjnnhcaaGreatDoor
namespace Bd
open Go.RowKit
open F (Rch rchB_iff)

theorem ca_in {L : List Ins} {F : Nat → Option Cst} (hF : ∀ g v, F g = some v → Fair v) (pc : Nat) : 0 ≤ caF L (sF F) pc ∧ caF L (sF F) pc ≤ 1099511627776 := by
 unfold caF sF
 cases L[pc]? with
 | none => dsimp only; omega
 | some k =>
   dsimp only
   split
   · cases hq : F k.m.toNat with
     | none => dsimp only; omega
     | some v =>
       have := hF _ v hq
       have h1 := this.s1
       have h2 := this.s2
       dsimp only
       omega
   · omega
theorem st_in {L : List Ins} {F : Nat → Option Cst} (hF : ∀ g v, F g = some v → Fair v) (pc : Nat) : 0 ≤ stF L (sF F) pc ∧ stF L (sF F) pc ≤ 1099511627777 := by
 have := ca_in (L := L) hF pc
 unfold stF
 rw [wrapU _ (by omega)]
 omega
theorem in_in {L : List Ins} {F : Nat → Option Cst} (hF : ∀ g v, F g = some v → Fair v) (pc : Nat) : 0 ≤ inF L (iF F) pc ∧ inF L (iF F) pc ≤ 1099511627777 := by
 unfold inF caF iF
 cases L[pc]? with
 | none => dsimp only; omega
 | some k =>
   dsimp only
   split
   · omega
   · split
     · cases hq : F k.m.toNat with
       | none => dsimp only; omega
       | some v =>
         have := hF _ v hq
         have h1 := this.i0
         have h2 := this.i1
         have h3 := this.s2
         dsimp only
         omega
     · omega
theorem st_over (L : List Ins) (sg : Nat → Int) : stF L sg L.length = 1 := by
 unfold stF caF
 rw [List.getElem?_eq_none (Nat.le_refl _)]
 show IntKind.u64.wrap (1 + 0) = 1
 exact wrapU _ (by omega)
theorem in_over (L : List Ins) (ig : Nat → Int) : inF L ig L.length = 0 := by
 unfold inF caF
 rw [List.getElem?_eq_none (Nat.le_refl _)]
structure WayR (L : List Ins) (F : Nat → Option Cst) (e : Nat) (s i : Int) (ok : Bool) : Prop where
 yes : ok = true → ∃ v u, sumS L (stF L (sF F)) e = some v ∧ s = tpD v ∧ sumS L (inF L (iF F)) e = some u ∧ i = tpD u
 no : ok = false → sumS L (stF L (sF F)) e = none
structure Gw (m : PImg) (F : Nat → Option Cst) (n : Int) (g : Nat) : Prop where
 fair : ∀ q v, F q = some v → Fair v
 snd : ∀ q, q < m.gates.length → ∀ v, F q = some v → ev (nxG m) (ctF m) (List.range m.gates.length) q = some v
 dn : ∀ q, q < m.gates.length → ∀ v, ev (nxG m) (ctF m) (List.range m.gates.length) q = some v → (v.c < n ∨ (v.c = n ∧ q < g)) → F q = some v
theorem some_all {α β : Type} {F : α → Option β} : ∀ (l : List α), (∀ x ∈ l, (F x).isSome = true) → ∃ vs : List β, l.map F = vs.map some
 | [], _ => ⟨[], rfl⟩
 | a :: l, h => by
   obtain ⟨vs, e⟩ := some_all (F := F) l (fun x hx => h x (by simp [hx]))
   obtain ⟨v, hv⟩ := Option.isSome_iff_exists.1 (h a (by simp))
   exact ⟨v :: vs, by rw [List.map_cons, List.map_cons, e, hv]⟩
theorem dpV_of {m : PImg} {g : Nat} {v : Int} (h : ev (nxG m) dpF (List.range m.gates.length) g = some v) : dpV m g = v := by unfold dpV; rw [h]
section
variable {m : PImg} {F : Nat → Option Cst} {n : Int} {g : Nat}
theorem Gw.start (hok : BOk m) : Gw m (fun _ => none) 0 0 := by
 refine ⟨fun _ _ h => (by cases h), fun _ _ _ h => (by cases h), fun q hq v hv h => ?_⟩
 have := (agree hok (List.mem_range.2 hq) hv).2.c0
 omega
theorem Gw.skip (h : Gw m F n g) (hok : BOk m) (hg : g < m.gates.length) (hd : dpV m g ≠ n) : Gw m F n (g + 1) := by
 refine ⟨h.fair, h.snd, fun q hq v hv h1 => ?_⟩
 by_cases e : q = g
 · subst e
   have := dpV_of (agree hok (List.mem_range.2 hq) hv).1
   exact h.dn q hq v hv (by omega)
 · exact h.dn q hq v hv (by omega)
theorem Gw.noth (h : Gw m F n g) (hn : ev (nxG m) (ctF m) (List.range m.gates.length) g = none) : Gw m F n (g + 1) := by
 refine ⟨h.fair, h.snd, fun q hq v hv h1 => ?_⟩
 by_cases e : q = g
 · subst e; rw [hn] at hv; cases hv
 · exact h.dn q hq v hv (by omega)
theorem Gw.put (h : Gw m F n g) (hok : BOk m) (hg : g < m.gates.length) {v : Cst} (hv : ev (nxG m) (ctF m) (List.range m.gates.length) g = some v) : Gw m (fun q => if q = g then some v else F q) n (g + 1) := by
 refine ⟨fun q x hx => ?_, fun q hq x hx => ?_, fun q hq x hx h1 => ?_⟩
 · split at hx
   · injection hx with hx
     rw [← hx]
     exact (agree hok (List.mem_range.2 hg) hv).2
   · exact h.fair q x hx
 · split at hx
   · rename_i e
     rw [e, hv, ← hx]
   · exact h.snd q hq x hx
 · split
   · rename_i e
     rw [e, hv] at hx
     exact hx
   · rename_i e
     exact h.dn q hq x hx (by omega)
theorem Gw.row (h : Gw m F n m.gates.length) : Gw m F (n + 1) 0 := ⟨h.fair, h.snd, fun q hq v hv h1 => h.dn q hq v hv (by omega)⟩
theorem Gw.over (h : Gw m F ((m.gates.length : Int) + 1) 0) (hok : BOk m) {q : Nat} (hq : q < m.gates.length) : F q = ev (nxG m) (ctF m) (List.range m.gates.length) q := by
 cases hv : ev (nxG m) (ctF m) (List.range m.gates.length) q with
 | some v =>
   have h1 := (agree hok (List.mem_range.2 hq) hv).1
   have hgl := hok.gl
   have := evd_le _ (by rw [List.length_range]; omega) q _ h1
   rw [List.length_range] at this
   exact h.dn q hq v hv (.inl (by omega))
 | none =>
   cases hF : F q with
   | none => rfl
   | some v => rw [h.snd q hq v hF] at hv; cases hv
theorem call_in {m : PImg} {g : Nat} {pc : Nat} (hr : Rch (gcode m g) [gent m g] (-1) pc) {k : Ins} (hk : (gcode m g)[pc]? = some k) (ho : k.op = 31) : k.m.toNat ∈ nxG m g := by
 unfold nxG calL
 refine List.mem_map.2 ⟨pc, List.mem_filter.2 ⟨List.mem_range.2 hr.lt, ?_⟩, ?_⟩
 · unfold calB
   rw [hk, rchB_iff.2 hr]
   simp [ho]
 · unfold imF
   rw [hk]
theorem entry_rch {m : PImg} (hok : BOk m) {g : Nat} (hg : g < m.gates.length) : ∃ e : Nat, gent m g = e ∧ e < (gcode m g).length ∧ Rch (gcode m g) [gent m g] (-1) e := by
 obtain ⟨kc, hkc, hgc, he0, he1⟩ := hok.gates g hg
 rw [gent_of hg, gcode_of hg hkc hgc]
 refine ⟨m.gates[g].e.toNat, by omega, by omega, Rch.base (by simp; omega) (by omega) (by omega)⟩
theorem Gw.find (h : Gw m F n g) (hok : BOk m) (hg : g < m.gates.length) (hd : dpV m g = n) (hk : ∀ x ∈ nxG m g, (F x).isSome = true) {e : Nat} (he : gent m g = e) {s i : Int} {ok : Bool} (hw : WayR (gcode m g) F e s i ok) :
   ev (nxG m) (ctF m) (List.range m.gates.length) g = if ok = true ∧ s < 1099511627777 then some ⟨s, n, i⟩ else none := by
 obtain ⟨vs, hvs⟩ := some_all (F := F) (nxG m g) hk
 have hin := fun x hx => List.mem_range.1 (nxG_in hok g (List.mem_range.2 hg) x hx)
 have hm : (nxG m g).map (ev (nxG m) (ctF m) (List.range m.gates.length)) = vs.map some := by
   rw [← hvs]
   refine List.map_congr_left fun x hx => ?_
   obtain ⟨v, hv⟩ := Option.isSome_iff_exists.1 (hk x hx)
   rw [hv, h.snd x (hin x hx) v hv]
 have h1 := ev_known (nxG_in hok) (List.mem_range.2 hg) hm
 have hag := fun v hv => agree hok (List.mem_range.2 hg) (v := v) hv
 rw [h1] at hag ⊢
 obtain ⟨en, e1, e2, e3⟩ := entry_rch hok hg
 have ee : en = e := by omega
 subst ee
 have hrow : ∀ pc k, Rch (gcode m g) [gent m g] (-1) pc → (gcode m g)[pc]? = some k → k.op = 31 → rowF (nxG m g) vs k.m.toNat = F k.m.toNat := fun pc k hr hk1 ho => by
   have hmem := call_in hr hk1 ho
   obtain ⟨v, hv⟩ := Option.isSome_iff_exists.1 (hk _ hmem)
   rw [rowF_at hvs hmem hv, hv]
 have c1 : ∀ q, Rch (gcode m g) [gent m g] (-1) q → stF (gcode m g) (sF (rowF (nxG m g) vs)) q = stF (gcode m g) (sF F) q := fun q hr => by
   unfold stF caF
   cases hk1 : (gcode m g)[q]? with
   | none => rfl
   | some k =>
     dsimp only
     by_cases ho : k.op = 31
     · rw [if_pos ho, if_pos ho]; unfold sF; rw [hrow q k hr hk1 ho]
     · rw [if_neg ho, if_neg ho]
 have c2 : ∀ q, Rch (gcode m g) [gent m g] (-1) q → inF (gcode m g) (iF (rowF (nxG m g) vs)) q = inF (gcode m g) (iF F) q := fun q hr => by
   unfold inF caF
   cases hk1 : (gcode m g)[q]? with
   | none => rfl
   | some k =>
     dsimp only
     by_cases h29 : k.op = 29
     · rw [if_pos h29, if_pos h29]
     · rw [if_neg h29, if_neg h29]
       by_cases ho : k.op = 31
       · rw [if_pos ho, if_pos ho]; unfold iF; rw [hrow q k hr hk1 ho]
       · rw [if_neg ho, if_neg ho]
 have s1 := sumS_congr c1 ((st_over _ _).trans (st_over _ _).symm) e3
 have s2 := sumS_congr c2 ((in_over _ _).trans (in_over _ _).symm) e3
 unfold ctF at hag ⊢
 rw [he, Int.toNat_natCast, s1, s2] at hag ⊢
 cases hb : ok with
 | false =>
   rw [hw.no hb, if_neg (by simp)]
 | true =>
   obtain ⟨v, u, w1, w2, w3, w4⟩ := hw.yes hb
   rw [w1, w3] at hag ⊢
   dsimp only [Option.getD_some] at hag ⊢
   by_cases hq : 1099511627776 < v
   · rw [if_pos hq, if_neg]
     rintro ⟨_, h2⟩
     rw [w2] at h2
     unfold tpD at h2
     omega
   · rw [if_neg hq] at hag ⊢
     obtain ⟨a1, a2⟩ := hag _ rfl
     have e4 := dpV_of a1
     have a3 := a2.i1
     have a4 := a2.i0
     have a5 := a2.s1
     dsimp only at e4 a3 a4 a5
     have e5 : s = v := by rw [w2]; unfold tpD; omega
     have e6 : i = u := by rw [w4]; unfold tpD; omega
     rw [if_pos ⟨rfl, by omega⟩, e5, e6, ← hd, e4]
theorem Gw.miss (h : Gw m F n g) (hok : BOk m) (hg : g < m.gates.length) (hd : dpV m g = n) (hk : ∃ x ∈ nxG m g, F x = none) : ev (nxG m) (ctF m) (List.range m.gates.length) g = none := by
 obtain ⟨x, hx, hF⟩ := hk
 have hin := nxG_in hok g (List.mem_range.2 hg) x hx
 cases hq : ev (nxG m) (ctF m) (List.range m.gates.length) g with
 | none => rfl
 | some y =>
   exfalso
   have h1 := (agree hok (List.mem_range.2 hg) hq).1
   have h2 := dpV_of h1
   cases hv : ev (nxG m) (ctF m) (List.range m.gates.length) x with
   | none => rw [ev_none (nxG_in hok) (List.mem_range.2 hg) hx hv] at hq; cases hq
   | some v =>
     have h3 := (agree hok hin hv).1
     have hgl := hok.gl
     have hall : ∀ c ∈ nxG m g, 0 ≤ dpV m c ∧ dpV m c ≤ 1000 ∧ ev (nxG m) dpF (List.range m.gates.length) c = some (dpV m c) := fun c hc => by
       cases hu : ev (nxG m) dpF (List.range m.gates.length) c with
       | none => rw [ev_none (nxG_in hok) (List.mem_range.2 hg) hc hu] at h1; cases h1
       | some u =>
         have hb := evd_le _ (by rw [List.length_range]; omega) c u hu
         rw [List.length_range] at hb
         rw [dpV_of hu]
         exact ⟨hb.1, by omega, rfl⟩
     have hm : (nxG m g).map (ev (nxG m) dpF (List.range m.gates.length)) = ((nxG m g).map (dpV m)).map some := by
       rw [List.map_map]
       exact List.map_congr_left fun c hc => (hall c hc).2.2
     have h4 := ev_known (nxG_in hok) (List.mem_range.2 hg) hm
     rw [h1] at h4
     unfold dpF at h4
     injection h4 with h4
     have h5 := (mx_dp (l := dpV m) (nxG m g) (fun c hc => ⟨(hall c hc).1, (hall c hc).2.1⟩)).up x hx
     rw [← h4, dpV_of h3] at h5
     rw [h.dn x (List.mem_range.1 hin) v hv (.inl (by omega))] at hF
     cases hF
end
end Bd
end Go.Proofs.YtdlcphinjnnhcaaGreatDoor


namespace Go.Proofs.YtdlcphinjnnhcaaGreatDoor
set_option maxRecDepth 100000
set_option maxHeartbeats 40000000
namespace Bd
open Go.RowKit
open F (boolA boolA_put boolA_new folB folB_lt setB cnt cnt_le cnt_setB cnt_congr aN make_bools make_row)

theorem make_u64s (n : Nat) (hn : n ≤ 2000000) (w : World) : (Instr.makeSlice 111 (.int .i64 n) (.int .i64 n)).run Tryz.prog w = .ok (.slice (some ⟨w.heap.size, 0, none⟩) n n) (w.alloc (.cells (Array.replicate n (.int .u64 0)) 34)) :=
 make_row (b := 8) Tryz.underlying111 (by kernel_rfl) rfl (by decide) n hn w
theorem Ir.new (w : World) (n : Nat) (t : TypeId) : Ir .u64 (w.alloc (.cells (Array.replicate n (.int .u64 0)) t)) w.heap.size n (fun _ => 0) := by
 have a := At.new w (Array.replicate n (Value.int .u64 0)) t
 exact ⟨a.1, a.2.2, fun q hq => by rw [a.2.1, Array.getElem?_replicate, if_pos hq]⟩
structure Wm (w : World) (bx : Array Value) (ka : Option Addr) (d s p : Nat) (L : List Ins) (dn : Nat → Bool) (st ip : Nat → Int) (wr : World) : Prop where
 x : At wr w.heap.size bx
 l : LIn w.heap.size wr ka L
 d : At wr d (boolA L.length dn)
 s : Ir .u64 wr s L.length st
 p : Ir .u64 wr p L.length ip
 b : Below w.heap.size w wr
section
variable {w : World} {bx : Array Value} {ka : Option Addr} {d s p : Nat} {L : List Ins} {dn : Nat → Bool} {st ip : Nat → Int} {wr wr' : World}
theorem Wm.past (h : Wm w bx ka d s p L dn st ip wr) (hb : Below wr.heap.size wr wr') : Wm w bx ka d s p L dn st ip wr' :=
 ⟨at_past h.x hb, h.l.below (hb.mono h.b.size), at_past h.d hb, h.s.below hb, h.p.below hb, h.b.trans (hb.mono h.b.size)⟩
theorem Ir.other {K : IntKind} {kr n : Nat} {F : Nat → Int} (h : Ir K wr kr n F) {b : Nat} (hb : kr ≠ b) (o : Nat) (v : Value) : Ir K (wr.setCell ⟨b, o, none⟩ v) kr n F := h.keep (kp_sets wr b [v] o) hb
theorem Wm.put (h : Wm w bx ka d s p L dn st ip wr) (hd : w.heap.size < d) (hs : w.heap.size < s) (hp : w.heap.size < p) (h1 : d ≠ s) (h2 : d ≠ p) (h3 : s ≠ p) {k : Nat} (hk : k < L.length) (a b : Int) : Wm w bx ka d s p L (fun q => if q = k then true else dn q) (fun q => if q = k then a else st q) (fun q => if q = k then b else ip q) (((wr.setCell ⟨s, k, none⟩ (.int .u64 a)).setCell ⟨p, k, none⟩ (.int .u64 b)).setCell ⟨d, k, none⟩ (.bool true)) := by
 have ad : At ((wr.setCell ⟨s, k, none⟩ (.int .u64 a)).setCell ⟨p, k, none⟩ (.int .u64 b)) d (boolA L.length dn) := (h.d.other h1 k [.int .u64 a]).other h2 k [.int .u64 b]
 have hb := ((h.b.setCell (p := ⟨s, k, none⟩) (Nat.le_of_lt hs) (.int .u64 a)).setCell (p := ⟨p, k, none⟩) (Nat.le_of_lt hp) (.int .u64 b)).setCell (p := ⟨d, k, none⟩) (Nat.le_of_lt hd) (.bool true)
 have hb2 : Below w.heap.size wr (((wr.setCell ⟨s, k, none⟩ (.int .u64 a)).setCell ⟨p, k, none⟩ (.int .u64 b)).setCell ⟨d, k, none⟩ (.bool true)) := (((Below.refl _ _).setCell (p := ⟨s, k, none⟩) (Nat.le_of_lt hs) (.int .u64 a)).setCell (p := ⟨p, k, none⟩) (Nat.le_of_lt hp) (.int .u64 b)).setCell (p := ⟨d, k, none⟩) (Nat.le_of_lt hd) (.bool true)
 exact ⟨((h.x.other (by omega) k [.int .u64 a]).other (by omega) k [.int .u64 b]).other (by omega) k [.bool true], h.l.below hb2, boolA_put ad k true hk (fun q _ => rfl), ((h.s.put hk a).other h3 _ _).other (fun e => h1 e.symm) _ _, ((h.p.other (fun e => h3 e.symm) _ _).put hk b).other (fun e => h2 e.symm) _ _, hb⟩
theorem allD_false {pc : Nat} (hp : pc < L.length) (h : allD dn (nxD L pc) = false) : ∃ q, folB L pc q = true ∧ dn q = false := by
 unfold allD at h
 rw [List.all_eq_false] at h
 obtain ⟨y, hy, hd⟩ := h
 obtain ⟨q, rfl, hq⟩ := (mem_nxD hp y).1 hy
 exact ⟨q, hq, by simpa using hd⟩
theorem allD_true {pc : Nat} (hp : pc < L.length) (h : allD dn (nxD L pc) = true) : ∀ q, folB L pc q = true → dn q = true := fun q hq => by
 have := List.all_eq_true.1 h (q : Int) ((mem_nxD hp _).2 ⟨q, rfl, hq⟩)
 rwa [Int.toNat_natCast] at this
end
section
variable {L : List Ins} {cF dF : Nat → Int} {d0 dn : Nat → Bool} {st ip : Nat → Int} {a : Bool} {p : Nat}
theorem Yw.bds (h : Yw L cF dF d0 dn st ip a p) (hc : ∀ pc, 0 ≤ cF pc ∧ cF pc ≤ 1099511627777) (hd : ∀ pc, 0 ≤ dF pc ∧ dF pc ≤ 1099511627777) (hl : L.length ≤ 400) : (∀ q, q < L.length → dn q = true → 0 ≤ st q ∧ st q ≤ 1099511627777) ∧ (∀ q, q < L.length → dn q = true → 0 ≤ ip q ∧ ip q ≤ 1099511627777) := by
 refine ⟨fun q hq h1 => ?_, fun q hq h1 => ?_⟩
 · obtain ⟨v, u, e1, e2, e3, e4⟩ := h.val q hq h1
   have := sumS_le hc hl e1
   rw [e2]; unfold tpD; omega
 · obtain ⟨v, u, e1, e2, e3, e4⟩ := h.val q hq h1
   have := sumS_le hd hl e3
   rw [e4]; unfold tpD; omega
theorem Yw.find (h : Yw L cF dF d0 dn st ip a p) (hc : ∀ pc, 0 ≤ cF pc ∧ cF pc ≤ 1099511627777) (hd : ∀ pc, 0 ≤ dF pc ∧ dF pc ≤ 1099511627777) (hl : L.length ≤ 400) (h1 : cF L.length = 1) (h0 : dF L.length = 0) {k : Nat} (hk : k < L.length) (ha : allD dn (nxD L k) = true) :
   ∃ v u, sumS L cF k = some v ∧ smN L dn st (cF k) 1 k = tpD v ∧ sumS L dF k = some u ∧ smN L dn ip (dF k) 0 k = tpD u := by
 have hall := allD_true hk ha
 obtain ⟨v, e1, e2⟩ := sumS_find hc hl (bh := st) hk (fun q hq => by
   obtain ⟨v, u, e1, e2, _, _⟩ := h.val q (folB_lt hq) (hall q hq)
   exact ⟨v, e1, e2⟩)
 obtain ⟨u, e3, e4⟩ := sumS_find hd hl (bh := ip) hk (fun q hq => by
   obtain ⟨v, u, _, _, e3, e4⟩ := h.val q (folB_lt hq) (hall q hq)
   exact ⟨u, e3, e4⟩)
 rw [h1] at e2
 rw [h0] at e4
 refine ⟨v, u, e1, ?_, e3, ?_⟩
 · unfold smN; rw [if_pos ha]; exact e2
 · unfold smN; rw [if_pos ha]; exact e4
end
theorem wayD_any (m : PImg) (ra ca ga : Option Addr) (rc cc gc : Nat) (g : Nat) (hg : g < m.gates.length) (hok : BOk m) (F : Nat → Option Cst) (hF : ∀ q v, F q = some v → Fair v) (kr : Nat) (w : World) (hm : ImgIn w.heap.size w ra ca ga m) (hc : Cr w kr m.gates.length F) :
   Calls Tryz.prog 31 #[imA m ra rc ca cc ga gc, .int .i64 g, .slice (some ⟨kr, 0, none⟩) m.gates.length m.gates.length] w fun e w' => ∃ s i ok, e = .returned (.tuple #[.int .u64 s, .int .u64 i, .bool ok]) ∧ WayR (gcode m g) F (gent m g).toNat s i ok ∧ Below w.heap.size w w' := by
 obtain ⟨k, hk, hgc, he0, he1⟩ := hok.gates g hg
 obtain ⟨hn, hco⟩ := hok.code k hk
 have hC := Hz.mk (fun W (q : Below w.heap.size w W) => codeD_any w.heap.size m ra ca ga rc cc gc g k hg hk hgc W (hm.below q) q.size)
 obtain ⟨b, off, xa, xc, ya, yc, rfl, h1, h2, c0, c1, -⟩ := hm.gates g hg
 have i1 : (g : Int) < (m.gates.length : Int) := by omega
 rw [gcode_of hg hk hgc, gent_of hg]
 have hcI : ∀ q, q < m.gates.length → ∃ kn cc, w.cell? ⟨kr, q * 4, none⟩ = some (.bool kn) ∧ w.cell? ⟨kr, q * 4 + 1, none⟩ = some (.int .u64 (sF F q)) ∧ w.cell? ⟨kr, q * 4 + 2, none⟩ = some (.int .u64 cc) ∧ w.cell? ⟨kr, q * 4 + 3, none⟩ = some (.int .u64 (iF F q)) := by
   rcases hc.costIn (B := kr + 1) (by omega) with e | ⟨b', e, _, _, e2⟩
   · omega
   · cases e; exact e2
 have hkr := hc.lt
 clear hm hc hgc c0
 unfold imA at *
 generalize m.comps[k].code = L at *
 generalize m.gates[g].e = e0 at *
 obtain ⟨en, rfl⟩ : ∃ en : Nat, e0 = (en : Int) := ⟨e0.toNat, by omega⟩
 have he2 : en < L.length := by omega
 rw [Int.toNat_natCast]
 have cB := fun pc => st_in (L := L) hF pc
 have dB := fun pc => in_in (L := L) hF pc
 have cO := st_over L (sF F)
 have dO := in_over L (iF F)
 have hstv : ∀ k, stF L (sF F) k = 1 + caF L (sF F) k := fun k => by
   have := ca_in (L := L) hF k
   unfold stF
   exact wrapU _ (by omega)
 have hca := fun k => ca_in (L := L) hF k
 have hmk1 := make_bools L.length (by omega)
 have hmk2 := make_u64s L.length (by omega)
 have hS := Hz.mk (fun ka kc W (hl : LIn W.heap.size W ka L) pc g1 g2 dn bh own ovr hp hd hb ho hw hbh => sumD_any L ka kc pc g1 g2 dn bh own ovr W hl hp (by omega) hd hb ho hw hbh)
 have hco := Hz.mk hco
 have hcF : Hz (∀ k (h : k < L.length), (L[k].op = 31 → stF L (sF F) k = 1 + sF F L[k].m.toNat ∧ inF L (iF F) k = iF F L[k].m.toNat) ∧ (L[k].op = 29 → stF L (sF F) k = 1 ∧ inF L (iF F) k = 1) ∧ (L[k].op ≠ 29 → L[k].op ≠ 31 → stF L (sF F) k = 1 ∧ inF L (iF F) k = 0)) := Hz.mk (fun k h => by
   refine ⟨fun ho => ?_, fun ho => ?_, fun ho1 ho2 => ?_⟩
   · rw [hstv]
     unfold inF caF
     rw [List.getElem?_eq_getElem h]
     dsimp only
     rw [if_pos ho, if_neg (by omega), if_pos ho]
     exact ⟨rfl, rfl⟩
   · rw [hstv]
     unfold inF caF
     rw [List.getElem?_eq_getElem h]
     dsimp only
     rw [if_neg (by omega), if_pos ho]
     exact ⟨rfl, rfl⟩
   · rw [hstv]
     unfold inF caF
     rw [List.getElem?_eq_getElem h]
     dsimp only
     rw [if_neg ho2, if_neg ho1, if_neg ho2]
     exact ⟨rfl, rfl⟩)
 have hsb : Hz (∀ q, 0 ≤ sF F q ∧ sF F q ≤ 1099511627776 ∧ 0 ≤ iF F q ∧ iF F q ≤ 1099511627776) := Hz.mk (fun q => by
   unfold sF iF
   cases hq : F q with
   | none => dsimp only; omega
   | some v =>
     have hv := hF q v hq
     have := hv.s1; have := hv.s2; have := hv.i0; have := hv.i1
     dsimp only
     omega)
 have hfin : Hz (∀ s i ok, (ok = true → ∃ v u, sumS L (stF L (sF F)) en = some v ∧ s = tpD v ∧ sumS L (inF L (iF F)) en = some u ∧ i = tpD u) → (ok = false → sumS L (stF L (sF F)) en = none) → WayR L F en s i ok) := Hz.mk (fun s i ok a3 a4 => ⟨a3, a4⟩)
 clear hstv hca
 generalize hcg : stF L (sF F) = cF at *
 generalize hdg : inF L (iF F) = dF at *
 generalize sF F = sf at *
 generalize iF F = nf at *
 replace cB := Hz.mk cB
 replace dB := Hz.mk dB
 replace cO := Hz.mk cO
 replace dO := Hz.mk dO
 replace hF := Hz.mk hF
 replace hcI := Hz.mk hcI
 clear hcg hdg
 go_enter Tryz.func31, Tryz.ntmps31
 go_upto_region 1 with fail
 refine wp_world (fun W => At W w.heap.size #[.slice ra m.regs.length rc, .slice ca m.comps.length cc, .slice (some ⟨b, off, none⟩) m.gates.length gc, .int .i64 m.depth] ∧ Below w.heap.size w W) ⟨At.new w _ _, (Below.refl _ _).alloc (Nat.le_refl _) _⟩ ?_
 rintro W ⟨A0, hB⟩
 have k0 : W.cell? ⟨w.heap.size, 0, none⟩ = some (.slice ra m.regs.length rc) := A0.2.1 0
 have k1 : W.cell? ⟨w.heap.size, 1, none⟩ = some (.slice ca m.comps.length cc) := A0.2.1 1
 have k2 : W.cell? ⟨w.heap.size, 2, none⟩ = some (.slice (some ⟨b, off, none⟩) m.gates.length gc) := A0.2.1 2
 have k3 : W.cell? ⟨w.heap.size, 3, none⟩ = some (.int .i64 m.depth) := A0.2.1 3
 replace A0 := Hz.mk A0
 have hWs := hB.size
 have hwlt := A0.out.1
 replace hB := Hz.mk hB
 go_upto_region 2 with (go_at_call 45; refine (hC.out _ hB.out).mono ?_; rintro r W1 ⟨ka, kc, rfl, l1, hB1⟩; replace l1 := Hz.mk l1; replace hB1 := Hz.mk hB1)
 clear k0 k1 k2 k3 hC
 have A1 := Hz.mk (at_past A0.out hB1.out)
 have hB2 := Hz.mk (hB.out.trans (hB1.out.mono hWs))
 have hW1 := hB1.out.size
 clear A0 hB hB1
 go_upto_region 3 with fail
 refine wp_world (fun X => At X W1.heap.size (boolA L.length fun _ => false) ∧ Below W1.heap.size W1 X) ⟨boolA_new W1 L.length 4, bl_alloc _ _⟩ ?_
 rintro X1 ⟨d0, x1⟩
 go_upto_region 4 with fail
 refine wp_world (fun X => Ir .u64 X X1.heap.size L.length (fun _ => 0) ∧ Below X1.heap.size X1 X) ⟨Ir.new X1 L.length 34, bl_alloc _ _⟩ ?_
 rintro X2 ⟨s0, x2⟩
 go_upto_region 5 with fail
 refine wp_world (fun X => Ir .u64 X X2.heap.size L.length (fun _ => 0) ∧ Below X2.heap.size X2 X) ⟨Ir.new X2 L.length 34, bl_alloc _ _⟩ ?_
 rintro X3 ⟨p0, x3⟩
 have hk1 : W1.heap.size < X1.heap.size := d0.1
 have hk2 : X1.heap.size < X2.heap.size := s0.lt
 have hk3 : X2.heap.size < X3.heap.size := p0.lt
 have x12 := x1.trans (x2.mono (Nat.le_of_lt hk1))
 have x13 := x12.trans (x3.mono (Nat.le_trans (Nat.le_of_lt hk1) (Nat.le_of_lt hk2)))
 have x23 := x2.trans (x3.mono (Nat.le_of_lt hk2))
 have sz : Hz (Wm w #[.slice ra m.regs.length rc, .slice ca m.comps.length cc, .slice (some ⟨b, off, none⟩) m.gates.length gc, .int .i64 m.depth] ka W1.heap.size X1.heap.size X2.heap.size L (fun _ => false) (fun _ => 0) (fun _ => 0) X3 ∧ Yq L cF dF (fun _ => false) (fun _ => 0) (fun _ => 0) true) := by
   exact Hz.mk ⟨⟨at_past A1.out x13, l1.out.below (x13.mono (Nat.le_trans hWs hW1)), at_past d0 x23, s0.below x3, p0, hB2.out.trans (x13.mono (Nat.le_trans hWs hW1))⟩, ⟨fun q _ h => (by cases h), fun h => (by cases h)⟩⟩
 clear d0 s0 p0 x1 x2 x3 A1 hmk1 hmk2 l1 x12 x13 x23 hB2
 have hwd : w.heap.size < W1.heap.size := by omega
 have hws : w.heap.size < X1.heap.size := by omega
 have hwp : w.heap.size < X2.heap.size := by omega
 have hds : W1.heap.size ≠ X1.heap.size := by omega
 have hdp : W1.heap.size ≠ X2.heap.size := by omega
 have hsp : X1.heap.size ≠ X2.heap.size := by omega
 have lw : wrap64 ((L.length : Int) - 1) = (L.length : Int) - 1 := by unfold wrap64; omega
 have lx : IntKind.i64.wrap ((L.length : Int) - 1) = (L.length : Int) - 1 := by rw [IntKind.wrap_i64]; omega
 clear hk1 hk2 hk3 hW1 hWs hwlt
 generalize W1.heap.size = d at *
 generalize X1.heap.size = s at *
 generalize X2.heap.size = p at *
 go_upto_region 6 with fail
 rename World => wo
 go_loopw [13] (fun bv wr => ∃ (a : Bool) (dn : Nat → Bool) (st ip : Nat → Int), bv = .bool a ∧ Hz (Wm w #[.slice ra m.regs.length rc, .slice ca m.comps.length cc, .slice (some ⟨b, off, none⟩) m.gates.length gc, .int .i64 m.depth] ka d s p L dn st ip wr ∧ Yq L cF dF dn st ip a)) (fun b wr => 2 * (L.length - cnt L.length (setB wr d)) + aN b)
 case atStart => exact ⟨true, _, _, _, rfl, sz⟩
 case round =>
   clear sz
   obtain ⟨a, dn0, st0, ip0, rfl, ⟨M, Y⟩⟩ := hrel
   cases a with
   | false =>
     have k2 : wr.cell? ⟨w.heap.size, 2, none⟩ = some (.slice (some ⟨b, off, none⟩) m.gates.length gc) := M.x.2.1 2
     have g1 : wr.cell? ⟨b, off + g * 4 + 1, none⟩ = some (.int .i64 en) := (M.b.cell (p := ⟨b, _, none⟩) h1).trans c1
     have g2 : b < wr.heap.size := Nat.lt_of_lt_of_le h2 M.b.size
     have z1 := bool_at M.d en he2
     have z2 := M.s.c en he2
     have z3 := M.p.c en he2
     have z4 := M.d.1
     have z5 := M.s.lt
     have z6 := M.p.lt
     have hR := hfin.out (st0 en) (ip0 en) (dn0 en) (fun h => by
       obtain ⟨v, u, e1, e2, e3, e4⟩ := Y.val en he2 h
       exact ⟨v, u, e1, e2, e3, e4⟩) (fun h => by
       cases hv : sumS L cF en with
       | none => rfl
       | some v => rw [Y.done he2 hv] at h; cases h)
     have hMb := Hz.mk M.b
     replace hR := Hz.mk hR
     replace M := Hz.mk M
     replace Y := Hz.mk Y
     generalize dn0 en = o1 at *
     generalize st0 en = o2 at *
     generalize ip0 en = o3 at *
     go_upto_region 27 with fail
     go_quiet (fail)
     all_goals
       go_wp2_with fail
       refine bodyPost_ret (v := .tuple #[.int .u64 o2, .int .u64 o3, .bool o1]) (by simp [results, Tryz.results31, go_sem]) rfl ?_
       exact ⟨_, _, _, rfl, hR.out, hMb.out.trans ((drewNb _ _).mono hMb.out.size)⟩
   | true =>
     have sB : Hz (Wm w #[.slice ra m.regs.length rc, .slice ca m.comps.length cc, .slice (some ⟨b, off, none⟩) m.gates.length gc, .int .i64 m.depth] ka d s p L dn0 st0 ip0 wr ∧ Yw L cF dF dn0 dn0 st0 ip0 false L.length) := Hz.mk ⟨M, Yw.start Y.val⟩
     have hm0 := cnt_setB M.d
     replace M := Hz.mk M
     replace Y := Hz.mk Y
     go_upto_region 9 with fail
     rename World => wp
     go_loopw [13, 14] (fun bv x wr => ∃ (a : Bool) (dn : Nat → Bool) (st ip : Nat → Int) (q : Nat), bv = .bool a ∧ x = .int .i64 ((q : Int) - 1) ∧ q ≤ L.length ∧ Hz (Wm w #[.slice ra m.regs.length rc, .slice ca m.comps.length cc, .slice (some ⟨b, off, none⟩) m.gates.length gc, .int .i64 m.depth] ka d s p L dn st ip wr ∧ Yw L cF dF dn0 dn st ip a q)) (fun _ x _ => (intOf x + 1).toNat)
     case atStart => exact ⟨false, _, _, _, L.length, rfl, rfl, by omega, sB⟩
     case round =>
       clear sB
       obtain ⟨a, dn, st, ip, q, rfl, rfl, hq, ⟨M, Y⟩⟩ := hrel
       cases q with
       | zero =>
         have e0 : ((0 : Nat) : Int) - 1 = -1 := rfl
         rw [e0]
         have hnew : Hz (Wm w #[.slice ra m.regs.length rc, .slice ca m.comps.length cc, .slice (some ⟨b, off, none⟩) m.gates.length gc, .int .i64 m.depth] ka d s p L dn st ip wr ∧ Yq L cF dF dn st ip a) := Hz.mk ⟨M, Y.over⟩
         have hm1 := cnt_setB M.d
         have hm2 := cnt_le L.length dn
         have hm3 : a = true → cnt L.length dn0 + 1 ≤ cnt L.length dn := Y.on
         have hm4 : a = false → cnt L.length dn = cnt L.length dn0 := fun e => cnt_congr L.length (Y.off e)
         have hme : 2 * (L.length - cnt L.length (setB wr d)) + aN (.bool a) < 2 * (L.length - cnt L.length (setB wp d)) + aN (.bool true) := by
           rw [hm1, hm0]
           cases a with
           | true => have := hm3 rfl; simp only [aN]; omega
           | false => have := hm4 rfl; simp only [aN]; omega
         replace M := Hz.mk M
         replace Y := Hz.mk Y
         replace hme := Hz.mk hme
         replace hm3 := Hz.mk hm3
         replace hm4 := Hz.mk hm4
         go_wp2_with fail
         go_roundw
         all_goals first | exact ⟨a, _, _, _, rfl, hnew⟩ | exact hme.out
       | succ k =>
         have e0 : ((k + 1 : Nat) : Int) - 1 = (k : Int) := by omega
         rw [e0]
         have hkl : k < L.length := by omega
         have hk0 : (0 : Int) ≤ k := by omega
         have hk1 : (k : Int) < L.length := by omega
         have kw : wrap64 ((k : Int) - 1) = (k : Int) - 1 := by unfold wrap64; omega
         have kx : IntKind.i64.wrap ((k : Int) - 1) = (k : Int) - 1 := by rw [IntKind.wrap_i64]; omega
         have z0 := bool_at M.d k hkl
         have zg := M.d.1
         cases hdn : dn k with
         | true =>
           have hnew : Hz (Wm w #[.slice ra m.regs.length rc, .slice ca m.comps.length cc, .slice (some ⟨b, off, none⟩) m.gates.length gc, .int .i64 m.depth] ka d s p L dn st ip wr ∧ Yw L cF dF dn0 dn st ip a k) := Hz.mk ⟨M, Y.skip hkl (.inl hdn)⟩
           rw [hdn] at z0
           replace hdn := Hz.mk hdn
           replace M := Hz.mk M
           replace Y := Hz.mk Y
           go_wp2_with fail
           go_roundw
           all_goals first | exact ⟨a, dn, st, ip, k, rfl, by first | rfl | simp, by omega, hnew⟩ | (simp only [intOf]; omega)
         | false =>
           rw [hdn] at z0
           obtain ⟨bb, oo, rfl, hbw, hbb, five⟩ := M.l k hkl
           have f0 := five.1
           have f4 := five.2.2.2.2
           clear five
           have hbd := Hz.mk (Y.bds cB.out dB.out hn)
           obtain ⟨q1, q2, q3⟩ := hcF.out k hkl
           replace hdn := Hz.mk hdn
           by_cases ho1 : L[k].op = 29
           · obtain ⟨hc1, hc2⟩ := q2 ho1
             rw [ho1] at f0
             clear q1 q2 q3
             replace hc1 := Hz.mk hc1
             replace hc2 := Hz.mk hc2
             replace ho1 := Hz.mk ho1
             replace M := Hz.mk M
             replace Y := Hz.mk Y
             go_upto_region 19 with fail
             have hs1 := Hz.mk (hS.out _ kc wr (M.out.l.mono M.out.b.size) k d s dn st (1) 1 hkl M.out.d M.out.s (by omega) (by omega) hbd.out.1)
             go_upto_region 20 with (go_at_call 47; refine hs1.out.mono ?_; rintro r W5 ⟨rfl, b5⟩; replace b5 := Hz.mk b5)
             have M5 := Hz.mk (M.out.past b5.out)
             clear M b5 hs1 f0 z0 zg f4
             have hs2 := Hz.mk (hS.out _ kc W5 (M5.out.l.mono M5.out.b.size) k d p dn ip (1) 0 hkl M5.out.d M5.out.p (by omega) (by omega) hbd.out.2)
             go_upto_region 21 with (go_at_call 47; refine hs2.out.mono ?_; rintro r W6 ⟨rfl, b6⟩; replace b6 := Hz.mk b6)
             have M6 := Hz.mk (M5.out.past b6.out)
             clear M5 b6 hs2
             cases hal : allD dn (nxD L k) with
             | false =>
               have hnew : Hz (Wm w #[.slice ra m.regs.length rc, .slice ca m.comps.length cc, .slice (some ⟨b, off, none⟩) m.gates.length gc, .int .i64 m.depth] (some ⟨bb, oo, none⟩) d s p L dn st ip W6 ∧ Yw L cF dF dn0 dn st ip a k) := Hz.mk ⟨M6.out, Y.out.skip hkl (.inr (allD_false hkl hal))⟩
               replace hal := Hz.mk hal
               go_wp2_with fail
               go_roundw
               all_goals first | exact ⟨a, dn, st, ip, k, rfl, by first | rfl | simp, by omega, hnew⟩ | (simp only [intOf]; omega)
             | true =>
               obtain ⟨v, u, e1, e2, e3, e4⟩ := Y.out.find cB.out dB.out hn cO.out dO.out hkl hal
               rw [hc1.out] at e2
               rw [hc2.out] at e4
               have hnew : Hz (Wm w #[.slice ra m.regs.length rc, .slice ca m.comps.length cc, .slice (some ⟨b, off, none⟩) m.gates.length gc, .int .i64 m.depth] (some ⟨bb, oo, none⟩) d s p L (fun q => if q = k then true else dn q) (fun q => if q = k then tpD v else st q) (fun q => if q = k then tpD u else ip q) (((W6.setCell ⟨s, k, none⟩ (.int .u64 (tpD v))).setCell ⟨p, k, none⟩ (.int .u64 (tpD u))).setCell ⟨d, k, none⟩ (.bool true)) ∧ Yw L cF dF dn0 (fun q => if q = k then true else dn q) (fun q => if q = k then tpD v else st q) (fun q => if q = k then tpD u else ip q) true k) := Hz.mk ⟨M6.out.put hwd hws hwp hds hdp hsp hkl _ _, Y.out.put hkl hdn.out e1 e3⟩
               rw [e2, e4]
               have y1 := bool_at M6.out.d k hkl
               have y2 := M6.out.s.c k hkl
               have y3 := M6.out.p.c k hkl
               have y4 := M6.out.d.1
               have y5 := M6.out.s.lt
               have y6 := M6.out.p.lt
               have y7 := M6.out.d.2.2 k
               have y8 := M6.out.s.fr k
               have y9 := M6.out.p.fr k
               generalize tpD v = tv at *
               generalize tpD u = tu at *
               generalize dn k = dk at *
               generalize st k = sk at *
               generalize ip k = ik at *
               replace hal := Hz.mk hal
               clear e1 e2 e3 e4
               go_wp2_with fail
               go_roundw
               all_goals first | exact ⟨true, _, _, _, k, rfl, by first | rfl | simp, by omega, hnew⟩ | (simp only [intOf]; omega)
           · by_cases ho2 : L[k].op = 31
             · obtain ⟨hc1, hc2⟩ := q1 ho2
               have hcl := hco.out L[k] (List.getElem_mem hkl) ho2
               have hmm : L[k].m = (L[k].m.toNat : Int) := by omega
               have hmG : L[k].m.toNat < m.gates.length := by omega
               rw [ho2] at f0
               rw [hmm] at f4
               have hsq := hsb.out L[k].m.toNat
               obtain ⟨kn, ccv, u0, u1, u2, u3⟩ := hcI.out L[k].m.toNat hmG
               clear q1 q2 q3 hmm hcl
               generalize L[k].m.toNat = mm at *
               have hmi : (mm : Int) < m.gates.length := by omega
               have v1 : wr.cell? ⟨kr, mm * 4 + 1, none⟩ = some (.int .u64 (sf mm)) := (M.b.cell (p := ⟨kr, _, none⟩) hkr).trans u1
               have v3 : wr.cell? ⟨kr, mm * 4 + 3, none⟩ = some (.int .u64 (nf mm)) := (M.b.cell (p := ⟨kr, _, none⟩) hkr).trans u3
               have vk : kr < wr.heap.size := Nat.lt_of_lt_of_le hkr M.b.size
               clear u0 u1 u2 u3
               generalize sf mm = sv at *
               generalize nf mm = nv at *
               have w1 : IntKind.u64.wrap (1 + sv) = 1 + sv := wrapU _ (by omega)
               have w2 : IntKind.u64.wrap nv = nv := wrapU _ (by omega)
               have w3 : IntKind.u64.wrap (0 + nv) = nv := by rw [Int.zero_add]; exact w2
               replace hc1 := Hz.mk hc1
               replace hc2 := Hz.mk hc2
               replace ho2 := Hz.mk ho2
               replace ho1 := Hz.mk ho1
               replace M := Hz.mk M
               replace Y := Hz.mk Y
               go_upto_region 19 with fail
               have hs1 := Hz.mk (hS.out _ kc wr (M.out.l.mono M.out.b.size) k d s dn st (1 + sv) 1 hkl M.out.d M.out.s (by omega) (by omega) hbd.out.1)
               go_upto_region 20 with (go_at_call 47; refine hs1.out.mono ?_; rintro r W5 ⟨rfl, b5⟩; replace b5 := Hz.mk b5)
               have M5 := Hz.mk (M.out.past b5.out)
               clear M b5 hs1 f0 z0 zg f4
               have hs2 := Hz.mk (hS.out _ kc W5 (M5.out.l.mono M5.out.b.size) k d p dn ip (nv) 0 hkl M5.out.d M5.out.p (by omega) (by omega) hbd.out.2)
               go_upto_region 21 with (go_at_call 47; refine hs2.out.mono ?_; rintro r W6 ⟨rfl, b6⟩; replace b6 := Hz.mk b6)
               have M6 := Hz.mk (M5.out.past b6.out)
               clear M5 b6 hs2
               cases hal : allD dn (nxD L k) with
               | false =>
                 have hnew : Hz (Wm w #[.slice ra m.regs.length rc, .slice ca m.comps.length cc, .slice (some ⟨b, off, none⟩) m.gates.length gc, .int .i64 m.depth] (some ⟨bb, oo, none⟩) d s p L dn st ip W6 ∧ Yw L cF dF dn0 dn st ip a k) := Hz.mk ⟨M6.out, Y.out.skip hkl (.inr (allD_false hkl hal))⟩
                 replace hal := Hz.mk hal
                 go_wp2_with fail
                 go_roundw
                 all_goals first | exact ⟨a, dn, st, ip, k, rfl, by first | rfl | simp, by omega, hnew⟩ | (simp only [intOf]; omega)
               | true =>
                 obtain ⟨v, u, e1, e2, e3, e4⟩ := Y.out.find cB.out dB.out hn cO.out dO.out hkl hal
                 rw [hc1.out] at e2
                 rw [hc2.out] at e4
                 have hnew : Hz (Wm w #[.slice ra m.regs.length rc, .slice ca m.comps.length cc, .slice (some ⟨b, off, none⟩) m.gates.length gc, .int .i64 m.depth] (some ⟨bb, oo, none⟩) d s p L (fun q => if q = k then true else dn q) (fun q => if q = k then tpD v else st q) (fun q => if q = k then tpD u else ip q) (((W6.setCell ⟨s, k, none⟩ (.int .u64 (tpD v))).setCell ⟨p, k, none⟩ (.int .u64 (tpD u))).setCell ⟨d, k, none⟩ (.bool true)) ∧ Yw L cF dF dn0 (fun q => if q = k then true else dn q) (fun q => if q = k then tpD v else st q) (fun q => if q = k then tpD u else ip q) true k) := Hz.mk ⟨M6.out.put hwd hws hwp hds hdp hsp hkl _ _, Y.out.put hkl hdn.out e1 e3⟩
                 rw [e2, e4]
                 have y1 := bool_at M6.out.d k hkl
                 have y2 := M6.out.s.c k hkl
                 have y3 := M6.out.p.c k hkl
                 have y4 := M6.out.d.1
                 have y5 := M6.out.s.lt
                 have y6 := M6.out.p.lt
                 have y7 := M6.out.d.2.2 k
                 have y8 := M6.out.s.fr k
                 have y9 := M6.out.p.fr k
                 generalize tpD v = tv at *
                 generalize tpD u = tu at *
                 generalize dn k = dk at *
                 generalize st k = sk at *
                 generalize ip k = ik at *
                 replace hal := Hz.mk hal
                 clear e1 e2 e3 e4
                 go_wp2_with fail
                 go_roundw
                 all_goals first | exact ⟨true, _, _, _, k, rfl, by first | rfl | simp, by omega, hnew⟩ | (simp only [intOf]; omega)
             · obtain ⟨hc1, hc2⟩ := q3 ho1 ho2
               have e29 : (L[k].op == 29) = false := by simpa using ho1
               have e31 : (L[k].op == 31) = false := by simpa using ho2
               clear q1 q2 q3
               generalize L[k].op = op at *
               replace hc1 := Hz.mk hc1
               replace hc2 := Hz.mk hc2
               replace ho2 := Hz.mk ho2
               replace ho1 := Hz.mk ho1
               replace M := Hz.mk M
               replace Y := Hz.mk Y
               go_upto_region 19 with fail
               have hs1 := Hz.mk (hS.out _ kc wr (M.out.l.mono M.out.b.size) k d s dn st (1) 1 hkl M.out.d M.out.s (by omega) (by omega) hbd.out.1)
               go_upto_region 20 with (go_at_call 47; refine hs1.out.mono ?_; rintro r W5 ⟨rfl, b5⟩; replace b5 := Hz.mk b5)
               have M5 := Hz.mk (M.out.past b5.out)
               clear M b5 hs1 f0 z0 zg f4
               have hs2 := Hz.mk (hS.out _ kc W5 (M5.out.l.mono M5.out.b.size) k d p dn ip (0) 0 hkl M5.out.d M5.out.p (by omega) (by omega) hbd.out.2)
               go_upto_region 21 with (go_at_call 47; refine hs2.out.mono ?_; rintro r W6 ⟨rfl, b6⟩; replace b6 := Hz.mk b6)
               have M6 := Hz.mk (M5.out.past b6.out)
               clear M5 b6 hs2
               cases hal : allD dn (nxD L k) with
               | false =>
                 have hnew : Hz (Wm w #[.slice ra m.regs.length rc, .slice ca m.comps.length cc, .slice (some ⟨b, off, none⟩) m.gates.length gc, .int .i64 m.depth] (some ⟨bb, oo, none⟩) d s p L dn st ip W6 ∧ Yw L cF dF dn0 dn st ip a k) := Hz.mk ⟨M6.out, Y.out.skip hkl (.inr (allD_false hkl hal))⟩
                 replace hal := Hz.mk hal
                 go_wp2_with fail
                 go_roundw
                 all_goals first | exact ⟨a, dn, st, ip, k, rfl, by first | rfl | simp, by omega, hnew⟩ | (simp only [intOf]; omega)
               | true =>
                 obtain ⟨v, u, e1, e2, e3, e4⟩ := Y.out.find cB.out dB.out hn cO.out dO.out hkl hal
                 rw [hc1.out] at e2
                 rw [hc2.out] at e4
                 have hnew : Hz (Wm w #[.slice ra m.regs.length rc, .slice ca m.comps.length cc, .slice (some ⟨b, off, none⟩) m.gates.length gc, .int .i64 m.depth] (some ⟨bb, oo, none⟩) d s p L (fun q => if q = k then true else dn q) (fun q => if q = k then tpD v else st q) (fun q => if q = k then tpD u else ip q) (((W6.setCell ⟨s, k, none⟩ (.int .u64 (tpD v))).setCell ⟨p, k, none⟩ (.int .u64 (tpD u))).setCell ⟨d, k, none⟩ (.bool true)) ∧ Yw L cF dF dn0 (fun q => if q = k then true else dn q) (fun q => if q = k then tpD v else st q) (fun q => if q = k then tpD u else ip q) true k) := Hz.mk ⟨M6.out.put hwd hws hwp hds hdp hsp hkl _ _, Y.out.put hkl hdn.out e1 e3⟩
                 rw [e2, e4]
                 have y1 := bool_at M6.out.d k hkl
                 have y2 := M6.out.s.c k hkl
                 have y3 := M6.out.p.c k hkl
                 have y4 := M6.out.d.1
                 have y5 := M6.out.s.lt
                 have y6 := M6.out.p.lt
                 have y7 := M6.out.d.2.2 k
                 have y8 := M6.out.s.fr k
                 have y9 := M6.out.p.fr k
                 generalize tpD v = tv at *
                 generalize tpD u = tu at *
                 generalize dn k = dk at *
                 generalize st k = sk at *
                 generalize ip k = ik at *
                 replace hal := Hz.mk hal
                 clear e1 e2 e3 e4
                 go_wp2_with fail
                 go_roundw
                 all_goals first | exact ⟨true, _, _, _, k, rfl, by first | rfl | simp, by omega, hnew⟩ | (simp only [intOf]; omega)
end Bd
end Go.Proofs.YtdlcphinjnnhcaaGreatDoor


namespace Go.Proofs.YtdlcphinjnnhcaaGreatDoor
set_option maxRecDepth 100000
set_option maxHeartbeats 40000000
namespace Bd
open Go.RowKit
open T (Kp)
open F (thB nxtI folB IOwn own_slice own_nin)

structure CTurn (B : Nat) (N : List Nat) (lo : Nat) (v : Value) (n : Nat) (L : List Ins) (ka : Option Addr) (kc kt kr ko k0 : Nat) (im : Array Value) (F : Nat → Option Cst) (c : Int) (wr : World) : Prop where
 v : IOwn wr lo v (N.map (fun q : Nat => (q : Int)))
 r : Cr wr kr n F
 o : At wr ko #[.bool true, .int .u64 0, .int .u64 c, .int .u64 0]
 t : At wr kt #[.slice ka L.length kc, .slice (some ⟨kr, 0, none⟩) n n]
 i : At wr k0 im
 z : At wr (k0 + 1) #[.bool false, .int .u64 0, .int .u64 0, .int .u64 0]
 l : LIn B wr ka L
 s : wr.heap.size ≥ lo
theorem CTurn.kp {B : Nat} {N : List Nat} {lo : Nat} {v : Value} {n : Nat} {L : List Ins} {ka : Option Addr} {kc kt kr ko k0 : Nat} {im : Array Value} {F : Nat → Option Cst} {c : Int} {wr w2 : World} {S : Nat → Prop} (h : CTurn B N lo v n L ka kc kt kr ko k0 im F c wr) (hk : Kp S wr w2) (hB : B ≤ wr.heap.size) (h0 : ∀ k, S k → B ≤ k ∧ k < lo ∧ k ≠ kr ∧ k ≠ ko ∧ k ≠ kt ∧ k ≠ k0 ∧ k ≠ k0 + 1) : CTurn B N lo v n L ka kc kt kr ko k0 im F c w2 :=
 ⟨own_kp' h.v hk (fun g hg q => by have := (h.v.lt g hg).1; have := (h0 g q).2.1; omega), h.r.keep hk (fun q => (h0 _ q).2.2.1 rfl), at_keep h.o hk (fun q => (h0 _ q).2.2.2.1 rfl), at_keep h.t hk (fun q => (h0 _ q).2.2.2.2.1 rfl), at_keep h.i hk (fun q => (h0 _ q).2.2.2.2.2.1 rfl), at_keep h.z hk (fun q => (h0 _ q).2.2.2.2.2.2 rfl), h.l.below (hk.below hB (fun k q => (h0 k q).1)), Nat.le_trans h.s hk.size⟩
theorem rowF_nil (N : List Nat) : rowF N [] = fun _ => none := by unfold rowF; cases N <;> rfl
theorem aft_above {ε : Type} {p : Pl} {enc : Option ε → Value} {nx : Nat → List Nat} {f : Nat → List ε → Option ε} {U : List Nat} {S S' : Nat → Prop} {M M0 : Nat → Option (Option ε)} {nn n0 : Nat} {w wr w2 : World} (h0 : Rem p enc w n0 M0) (h : Aft p enc nx f U S M nn w wr) (hk : Kp S' wr w2) (hS : ∀ k, S' k → w.heap.size ≤ k) : Aft p enc nx f U S M nn w w2 := by
 obtain ⟨M', nn', r1, r2, r3, r4, r5⟩ := h
 exact ⟨M', nn', r1.above h0 hk hS, r2, r3, r4, r5.trans hk (fun k q => .inr (hS k q))⟩
theorem cut_r {X Y : Prop} (h : T.Hid X → Y) (x : X) : Y := h ⟨x⟩
theorem costOf_any (B km : Nat) (m : PImg) (ra : Option Addr) (rc : Nat) (ca : Option Addr) (cc : Nat) (ga : Option Addr) (gc : Nat) (hok : BOk m) (p : Pl) (hp : p.qf = 40) (hbB : B ≤ p.b) (hkm : km ≠ p.b) (d : Nat)
   (hask : AskC (IEnv B km m ra rc ca cc ga gc) p encc tupc (nxG m) (ctF m) (List.range m.gates.length) d)
   (w : World) (n : Nat) (S : Nat → Prop) (M : Nat → Option (Option Cst)) (nn : Nat) (hE : IEnv B km m ra rc ca cc ga gc w) (hR : Rem p encc w nn M) (hS : Memo (nxG m) (ctF m) (List.range m.gates.length) (fun x => S x ∨ x = n) M) (hA : ∀ q, S q → Anc (nxG m) (ctF m) q n) (hn : n ∈ List.range m.gates.length) (hl : left (List.range m.gates.length) M ≤ d) (hb : nn + 2 * left (List.range m.gates.length) M ≤ 1000000) :
   Calls Tryz.prog 29 #[imA m ra rc ca cc ga gc, .int .i64 n, p.qv] w fun r w' => r = .returned (tupc (ev (nxG m) (ctF m) (List.range m.gates.length) n)) ∧ Aft p encc (nxG m) (ctF m) (List.range m.gates.length) (fun x => S x ∨ x = n) M nn w w' := by
 have hU := nxG_in hok
 have hqv : p.qv = .func (.func 40) #[] #[.pointer (some ⟨p.kA, 0, none⟩), .pointer (some ⟨p.kF, 0, none⟩), .pointer (some ⟨p.kQ, 0, none⟩)] := by unfold Pl.qv pv; rw [hp]
 rw [hqv]
 have hn2 := List.mem_range.1 hn
 obtain ⟨k, hk, hgc, hgr⟩ := hok.gates n hn2
 obtain ⟨hcl, hco⟩ := hok.code k hk
 have hgl16 := hok.gl
 have hCo := Hz.mk (fun W (q : Below w.heap.size w W) => codeOf_any B m ra ca ga rc cc gc n k hn2 hk hgc W (hE.m.below (q.mono hE.le)) (Nat.le_trans hE.le q.size))
 have hNx := Hz.mk (fun W (q : Below w.heap.size w W) => calledBy_any m ra ca ga rc cc gc n k hn2 hk hgc (by omega) hco W (((hE.m.mono hE.le).below q).mono q.size))
 have hNl : (nxG m n).length ≤ 2000 := by
   rw [nxG_of hn2 hk hgc]
   have := calL_len m.comps[k].code m.gates[n].e
   omega
 rw [← nxG_of hn2 hk hgc] at hNx
 have hq := Hz.mk (fun W (e : IEnv B km m ra rc ca cc ga gc W) (M' : Nat → Option (Option Cst)) (nn' : Nat) (h1 : Rem p encc W nn' M') (h2 : Memo (nxG m) (ctF m) (List.range m.gates.length) (fun x => S x ∨ x = n) M') (h3 : More M M') (h4 : nn' + 2 * left (List.range m.gates.length) M' ≤ nn + 2 * left (List.range m.gates.length) M) (c : Nat) (hc : c ∈ nxG m n) => hask W c (fun x => S x ∨ x = n) M' nn' e h1 h2 (fun q hq => by
   rcases hq with hq | hq
   · exact (hA q hq).trans (anc_child hc)
   · subst hq; exact anc_child hc) (hU n hn c hc) (Nat.le_trans (left_more h3) hl) (by omega))
 rw [hp] at hq
 unfold pv at hq
 have evd : ∀ vs : List Cst, (nxG m n).map (ev (nxG m) (ctF m) (List.range m.gates.length)) = vs.map some → ev (nxG m) (ctF m) (List.range m.gates.length) n = ctF m n vs := fun vs h => ev_known hU hn h
 have evn : ∀ c, c ∈ nxG m n → ev (nxG m) (ctF m) (List.range m.gates.length) c = none → ev (nxG m) (ctF m) (List.range m.gates.length) n = none := fun c hc h => ev_none hU hn hc h
 have hstart : Aft p encc (nxG m) (ctF m) (List.range m.gates.length) (fun x => S x ∨ x = n) M nn w w := ⟨M, nn, hR, hS, More.refl M, Nat.le_refl _, Kp.refl _ _⟩
 have hEk := Hz.mk (fun W (q : Kp (fun k => k = p.b) w W) => hE.keep q hbB hkm)
 have hpb := hR.m.lt
 obtain ⟨bg, offg, xa, xc, ya, yc, hga, hbg1, hbg2, _, hge, -⟩ := hE.m.gates n hn2
 subst hga
 have hin : (n : Int) < (m.gates.length : Int) := by omega
 have hgin : ∀ c ∈ nxG m n, c < m.gates.length := fun c hc => List.mem_range.1 (hU n hn c hc)
 rw [← gcode_of hn2 hk hgc] at hCo hco hcl hgr
 rw [← gent_of hn2] at hge hgr
 have hle := Hz.mk hE.le
 have hct := Hz.mk (fun vs => (show ctF m n vs = match sumS (gcode m n) (stF (gcode m n) (sF (rowF (nxG m n) vs))) (gent m n).toNat with
   | none => none
   | some s => if 1099511627776 < s then none else some ⟨s, mcL vs, (sumS (gcode m n) (inF (gcode m n) (iF (rowF (nxG m n) vs))) (gent m n).toNat).getD 0⟩ from rfl))
 replace hE := Hz.mk hE
 replace hS := Hz.mk hS
 replace hR := Hz.mk hR
 replace hA := Hz.mk hA
 replace hU := Hz.mk hU
 replace hn := Hz.mk hn
 replace hstart := Hz.mk hstart
 replace evd := Hz.mk evd
 replace evn := Hz.mk evn
 replace hco := Hz.mk hco
 replace hgin := Hz.mk hgin
 clear hask hqv hb hl hgc hk hok
 generalize hN : nxG m n = N at *
 generalize hev : ev (nxG m) (ctF m) (List.range m.gates.length) = evv at *
 generalize List.range m.gates.length = U at *
 generalize gcode m n = L at *
 generalize gent m n = e0 at *
 unfold imA at *
 go_enter Tryz.func29, Tryz.ntmps29
 go_upto_region 1 with fail
 refine wp_world (fun W => At W w.heap.size #[.slice ra m.regs.length rc, .slice ca m.comps.length cc, .slice (some ⟨bg, offg, none⟩) m.gates.length gc, .int .i64 m.depth] ∧ At W (w.heap.size + 1) #[.bool false, .int .u64 0, .int .u64 0, .int .u64 0] ∧ Below w.heap.size w W) ⟨(At.new w _ _).alloc _, by simpa using At.new (w.alloc (.cells #[.slice ra m.regs.length rc, .slice ca m.comps.length cc, .slice (some ⟨bg, offg, none⟩) m.gates.length gc, .int .i64 m.depth] 26)) #[.bool false, .int .u64 0, .int .u64 0, .int .u64 0] 36, ((Below.refl _ _).alloc (Nat.le_refl _) _).alloc (by simp) _⟩ ?_
 rintro W ⟨A0, A1, hB⟩
 have hWs := hB.size
 have KS : ∀ X, Below W.heap.size W X → X.cell? ⟨w.heap.size, 0, none⟩ = some (.slice ra m.regs.length rc) ∧ X.cell? ⟨w.heap.size, 1, none⟩ = some (.slice ca m.comps.length cc) ∧ X.cell? ⟨w.heap.size, 2, none⟩ = some (.slice (some ⟨bg, offg, none⟩) m.gates.length gc) ∧ X.cell? ⟨w.heap.size, 3, none⟩ = some (.int .i64 m.depth) := fun X q => by
   have a := (at_keep A0 (Kp.of_below (S := fun _ => False) q) id).2.1
   exact ⟨a 0, a 1, a 2, a 3⟩
 replace A0 := Hz.mk A0
 replace A1 := Hz.mk A1
 replace hB := Hz.mk hB
 replace KS := Hz.mk KS
 have hBW : B ≤ W.heap.size := Nat.le_trans hle.out hWs
 have hmk := make_costs m.gates.length (by omega)
 apply cut_r
 · intro key
   go_region_held3 (fun X => X.cell? ⟨w.heap.size, 0, none⟩ = some (.slice ra m.regs.length rc) ∧ X.cell? ⟨w.heap.size, 1, none⟩ = some (.slice ca m.comps.length cc) ∧ X.cell? ⟨w.heap.size, 2, none⟩ = some (.slice (some ⟨bg, offg, none⟩) m.gates.length gc) ∧ X.cell? ⟨w.heap.size, 3, none⟩ = some (.int .i64 m.depth)) ((refine KS.out _ ?_; (repeat (first | with_reducible assumption | with_reducible exact Below.refl _ _ | with_reducible refine Below.alloc ?_ (by first | omega | (simp <;> omega)) _ | with_reducible refine Below.setCell ?_ (by first | omega | (simp <;> omega)) _ | with_reducible refine Below.drew ?_)))) (first | (go_at_call 41; refine (hCo.out _ (hB.out.trans (Below.mono (by (repeat (first | with_reducible assumption | with_reducible exact Below.refl _ _ | with_reducible refine Below.alloc ?_ (by first | omega | (simp <;> omega)) _ | with_reducible refine Below.setCell ?_ (by first | omega | (simp <;> omega)) _ | with_reducible refine Below.drew ?_))) hWs))).mono ?_; rintro y w1 ⟨ka, kc, rfl, q0, q1⟩; have Q1 : Below W.heap.size W w1 := Below.trans (by (repeat (first | with_reducible assumption | with_reducible exact Below.refl _ _ | with_reducible refine Below.alloc ?_ (by first | omega | (simp <;> omega)) _ | with_reducible refine Below.setCell ?_ (by first | omega | (simp <;> omega)) _ | with_reducible refine Below.drew ?_))) (q1.mono (by simp <;> omega)); have Q1s := Q1.size; (first | (have tA := at_keep (at_keep (At.new (W.alloc (.cells (madeCells #[Value.bool false, Value.int IntKind.u64 0, Value.int IntKind.u64 0, Value.int IntKind.u64 0] (m.gates.length * 4)) 36)) #[.slice none 0 0, .slice none 0 0] 105) (Kp.of_below (S := fun _ => False) (Below.refl _ _).drew) id) (Kp.of_below (S := fun _ => False) q1) id; have t0 : w1.cell? ⟨W.heap.size + 1, 0, none⟩ = some (.slice none 0 0) := (by simpa using tA.2.1 0); have t1 : w1.cell? ⟨W.heap.size + 1, 1, none⟩ = some (.slice none 0 0) := (by simpa using tA.2.1 1); have t2 : ∀ o, w1.frozen? ⟨W.heap.size + 1, o, none⟩ = false := (by simpa using tA.2.2); have t3 : W.heap.size + 1 < w1.heap.size := (by simpa using tA.1)) | (have tA := at_keep (at_keep (At.new W #[.slice none 0 0, .slice none 0 0] 105) (Kp.of_below (S := fun _ => False) (Below.refl _ _).drew) id) (Kp.of_below (S := fun _ => False) q1) id; have t0 : w1.cell? ⟨W.heap.size, 0, none⟩ = some (.slice none 0 0) := (by simpa using tA.2.1 0); have t1 : w1.cell? ⟨W.heap.size, 1, none⟩ = some (.slice none 0 0) := (by simpa using tA.2.1 1); have t2 : ∀ o, w1.frozen? ⟨W.heap.size, o, none⟩ = false := (by simpa using tA.2.2); have t3 : W.heap.size < w1.heap.size := (by simpa using tA.1)) | (have tA := at_keep (at_keep (At.new W #[.slice none 0 0, .slice none 0 0] 105) (Kp.of_below (S := fun _ => False) ((Below.refl _ _).alloc (Nat.le_refl _) _).drew) id) (Kp.of_below (S := fun _ => False) q1) id; have t0 : w1.cell? ⟨W.heap.size, 0, none⟩ = some (.slice none 0 0) := (by simpa using tA.2.1 0); have t1 : w1.cell? ⟨W.heap.size, 1, none⟩ = some (.slice none 0 0) := (by simpa using tA.2.1 1); have t2 : ∀ o, w1.frozen? ⟨W.heap.size, o, none⟩ = false := (by simpa using tA.2.2); have t3 : W.heap.size < w1.heap.size := (by simpa using tA.1)) | skip)))
   all_goals
     have hB1 : B ≤ w1.heap.size := Nat.le_trans hBW Q1s
   · have R := reg1 (n := m.gates.length) (kc := kc) hB1 q0 Q1
     clear hB1 q0 q1 Q1 Q1s
     rename_i hhe
     clear hhe
     generalize w1.heap.size + 1 = kt at R ⊢
     generalize w1.heap.size = kr at R ⊢
     revert R
     generalize ((w1.alloc (.cells (madeCells #[Value.bool false, .int .u64 0, .int .u64 0, .int .u64 0] (m.gates.length * 4)) 36)).alloc (.cells #[.slice ka L.length kc, .slice (some ⟨kr, 0, none⟩) m.gates.length m.gates.length] 105)) = Y
     revert Y kt kr ka kc
     exact key.out
   · exact key.out _ _ _ _ _ (reg2 hB1 q0 Q1)
   · exact key.out _ _ _ _ _ (reg3 hB1 q0 Q1 (by have := q1.size; simp at this; omega) q1)
   · exact key.out _ _ _ _ _ (reg4 hB1 q0 Q1 hBW q1)
   · exact key.out _ _ _ _ _ (reg5 hB1 q0 Q1 hBW q1)
   · exact key.out _ _ _ _ _ (reg6 hB1 q0 Q1 hBW q1)
 intro ka kc kt kr Y R
 have hYs := R.b.size
 have hA0 := at_past A0.out R.b
 have hA1 := at_past A1.out R.b
 have hbY : Below w.heap.size w Y := hB.out.trans (R.b.mono hWs)
 have t0 := R.t0
 have r0 := R.r0
 have tlt := R.t.1
 have rlt := R.r.lt
 have rne := R.ne
 replace R := Hz.mk R
 replace hA0 := Hz.mk hA0
 replace hA1 := Hz.mk hA1
 replace hbY := Hz.mk hbY
 have hW1 := A1.out.1
 clear A0 A1 KS hmk hCo hB
 go_upto_region 3 with fail
 refine wp_world (fun Z => At Z Y.heap.size #[.bool true, .int .u64 0, .int .u64 0, .int .u64 0] ∧ Below Y.heap.size Y Z) ⟨At.new Y _ _, (Below.refl _ _).alloc (Nat.le_refl _) _⟩ ?_
 rintro Z ⟨aO, hZ⟩
 have hZs := hZ.size
 have olt := aO.1
 have a0 := (at_past hA0.out hZ).2.1
 have k0 : Z.cell? ⟨w.heap.size, 0, none⟩ = some (.slice ra m.regs.length rc) := a0 0
 have k1 : Z.cell? ⟨w.heap.size, 1, none⟩ = some (.slice ca m.comps.length cc) := a0 1
 have k2 : Z.cell? ⟨w.heap.size, 2, none⟩ = some (.slice (some ⟨bg, offg, none⟩) m.gates.length gc) := a0 2
 have k3 : Z.cell? ⟨w.heap.size, 3, none⟩ = some (.int .i64 m.depth) := a0 3
 have hbZ : Below w.heap.size w Z := hbY.out.trans (hZ.mono (Nat.le_trans hWs hYs))
 replace aO := Hz.mk aO
 replace hZ := Hz.mk hZ
 replace hbZ := Hz.mk hbZ
 clear a0
 go_upto_region 4 with (go_at_call 36; refine (hNx.out _ hbZ.out).mono ?_; rintro r W1 ⟨v, rfl, y1, y2⟩; obtain ⟨va, vc, rfl⟩ := own_slice y1; rw [List.length_map] at y1; replace y1 := Hz.mk y1; replace y2 := Hz.mk y2)
 clear k0 k1 k2 k3
 have hb1 : Below w.heap.size w W1 := hbZ.out.trans (y2.out.mono (Nat.le_trans hWs (Nat.le_trans hYs hZs)))
 have st0 : CTurn B N Z.heap.size (.slice va N.length vc) m.gates.length L ka kc kt kr Y.heap.size w.heap.size #[.slice ra m.regs.length rc, .slice ca m.comps.length cc, .slice (some ⟨bg, offg, none⟩) m.gates.length gc, .int .i64 m.depth] (fun _ => none) 0 W1 :=
   ⟨y1.out, (R.out.r.past hZ.out).past y2.out, at_past aO.out y2.out, at_past (at_past R.out.t hZ.out) y2.out, at_past (at_past hA0.out hZ.out) y2.out, at_past (at_past hA1.out hZ.out) y2.out, (R.out.l.below (hZ.out.mono (by omega))).below (y2.out.mono (by omega)), y2.out.size⟩
 generalize Z.heap.size = lo at *
 generalize Y.heap.size = ko at *
 replace st0 := Hz.mk st0
 replace hb1 := Hz.mk hb1
 have hlo : p.b < lo := by omega
 have hlk : kt < lo ∧ kr < lo ∧ ko < lo ∧ w.heap.size + 1 < lo := by have := hA1.out.1; omega
 clear hZ hbZ aO R hA0 hA1 hbY y1 y2 olt
 go_loopw [30] (fun iv wr => ∃ (j : Nat) (vs : List Cst), iv = .int .i64 j ∧ j ≤ N.length ∧ Hz (vs.length = j ∧ (N.take j).map (ev (nxG m) (ctF m) U) = vs.map some ∧ Aft p encc (nxG m) (ctF m) U (fun x => S x ∨ x = n) M nn w wr ∧ CTurn B N lo (.slice va N.length vc) m.gates.length L ka kc kt kr ko w.heap.size #[.slice ra m.regs.length rc, .slice ca m.comps.length cc, .slice (some ⟨bg, offg, none⟩) m.gates.length gc, .int .i64 m.depth] (rowF N vs) (mcL vs) wr)) (fun iv _ => N.length - (intOf iv).toNat)
 case atStart => exact ⟨0, [], rfl, by omega, Hz.mk ⟨rfl, rfl, aft_below hstart.out hb1.out, by rw [rowF_nil]; exact st0.out⟩⟩
 case round =>
   obtain ⟨j, vs, rfl, hj, hk⟩ := hrel
   obtain ⟨rfl, hev0, haft, hcn⟩ := hk.out
   clear hk
   by_cases hlt : vs.length < N.length
   · obtain ⟨b, off, ena, _, hb2, hc⟩ := own_nin hcn.v vs.length (by rw [List.length_map]; exact hlt)
     subst ena
     rw [List.getElem_map] at hc
     have hi1 : (vs.length : Int) < N.length := by omega
     obtain ⟨M', nn', r1, r2, r3, r4, r5⟩ := haft
     have hEr := hEk.out wr r5
     have hmem : N[vs.length] ∈ N := List.getElem_mem hlt
     have hcall := hq.out wr hEr M' nn' r1 r2 r3 r4 N[vs.length] hmem
     have hnx : ∀ x, evv N[vs.length] = some x → (N.take (vs.length + 1)).map (ev (nxG m) (ctF m) U) = (vs ++ [x]).map some := fun x hx => by
       rw [← hev] at hx
       rw [List.take_succ_eq_append_getElem hlt, List.map_append, hev0, List.map_append]
       simp [hx]
     have hrw := fun x => rowF_snoc N vs x hlt
     have hn2 := fun w2 (g : Aft p encc (nxG m) (ctF m) U (fun x => S x ∨ x = n) M' nn' wr w2) => (show Aft p encc (nxG m) (ctF m) U (fun x => S x ∨ x = n) M nn w w2 ∧ Kp (fun k => k = p.b) wr w2 by
       obtain ⟨M2, n2, g1, g2, g3, g4, g5⟩ := g
       exact ⟨⟨M2, n2, g1, g2, r3.trans g3, by omega, r5.trans g5 (fun k q => .inl q)⟩, g5⟩)
     have hev2 : ev (nxG m) (ctF m) U N[vs.length] = evv N[vs.length] := by rw [hev]
     (try rw [hev2] at hcall)
     have hno := evn.out N[vs.length] hmem
     have hcN := hgin.out N[vs.length] hmem
     have hwr := r5.size
     have hcs : (N[vs.length] : Int) < (m.gates.length : Int) := by omega
     clear hev2 hmem r1 r2 r5 hev0
     generalize N[vs.length] = c at *
     replace hnx := Hz.mk hnx
     replace hrw := Hz.mk hrw
     replace hn2 := Hz.mk hn2
     replace hcn := Hz.mk hcn
     replace hEr := Hz.mk hEr
     replace r3 := Hz.mk r3
     replace r4 := Hz.mk r4
     have hij : IntKind.i64.wrap ((vs.length : Int) + 1) = ((vs.length + 1 : Nat) : Int) := by rw [IntKind.wrap_i64]; omega
     have hij2 : wrap64 ((vs.length : Int) + 1) = ((vs.length + 1 : Nat) : Int) := by unfold wrap64; omega
     cases hcv : evv c with
     | none =>
       have hem := hno hcv
       rw [hcv] at hcall
       unfold tupc at hcall
       replace hno := Hz.mk hno
       replace hcall := Hz.mk hcall
       clear hij hij2
       go_upto_region 7 with (go_at_call 40; refine hcall.out.mono ?_; rintro r w2 ⟨rfl, g⟩; replace g := Hz.mk (hn2.out _ g))
       have hz2 := (hcn.out.kp g.out.2 (by omega) (fun k q => by omega)).z
       refine wp_world (fun W3 => Below w2.heap.size w2 W3) (by repeat (first | exact Below.refl _ _ | refine Below.alloc ?_ (by simp <;> omega) _ | refine Below.setCell ?_ (by simp <;> omega) _)) ?_
       intro W3 hB3
       have hz3 := at_past hz2 hB3
       have hf3 := aft_below g.out.1 hB3
       have ⟨zl, zp, zf⟩ := hz3
       have hfin := Hz.mk (At.setAll (cs := [Value.bool false, .int .u64 0, .int .u64 0, .int .u64 0]) hz3 [Value.bool false, .int .u64 0, .int .u64 0, .int .u64 0] rfl)
       have hkf := Hz.mk (kp_sets W3 (w.heap.size + 1) [Value.bool false, .int .u64 0, .int .u64 0, .int .u64 0] 0)
       replace hf3 := Hz.mk hf3
       clear hz2 hz3 hB3
       go_wp2_with fail
       have ⟨_, q4, _⟩ := hfin.out
       simp only [World.setCells] at q4
       refine bodyPost_ret (v := .tuple #[.agg #[.bool false, .int .u64 0, .int .u64 0, .int .u64 0], .bool false]) (by simp [results, Tryz.results29, go_sem, q4]) rfl ?_
       refine ⟨?_, aft_above hR.out hf3.out hkf.out (fun k q => by omega)⟩
       rw [hem]; rfl
     | some x =>
       rw [hcv] at hcall
       unfold tupc at hcall
       have hxn := hnx.out x hcv
       have hrx := hrw.out x
       replace hxn := Hz.mk hxn
       replace hrx := Hz.mk hrx
       replace hno := Hz.mk hno
       replace hcall := Hz.mk hcall
       replace hcv := Hz.mk hcv
       replace hij := Hz.mk hij
       replace hij2 := Hz.mk hij2
       go_upto_region 7 with (go_at_call 40; refine hcall.out.mono ?_; rintro r w2 ⟨rfl, g⟩; replace g := Hz.mk (hn2.out _ g))
       have st2 := hcn.out.kp g.out.2 (by omega) (fun k q => by omega)
       have hw2 := g.out.2.size
       have hs2 := st2.s
       refine wp_world (fun W3 => Below w2.heap.size w2 W3 ∧ At W3 w2.heap.size #[.bool true, .int .u64 x.s, .int .u64 x.c, .int .u64 x.i]) ⟨(by repeat (first | exact Below.refl _ _ | refine Below.alloc ?_ (by simp <;> omega) _ | refine Below.setCell ?_ (by simp <;> omega) _)), At.new w2 _ _⟩ ?_
       rintro W3 ⟨hB3, aC⟩
       have st3 := st2.kp (Kp.of_below (S := fun _ => False) hB3) (by omega) (fun k q => q.elim)
       have hf3 := aft_below g.out.1 hB3
       have hw3 := hB3.size
       generalize w2.heap.size = kx at *
       have T0 : W3.cell? ⟨kt, 0, none⟩ = some (.slice ka L.length kc) := st3.t.2.1 0
       have T1 : W3.cell? ⟨kt, 1, none⟩ = some (.slice (some ⟨kr, 0, none⟩) m.gates.length m.gates.length) := st3.t.2.1 1
       have C0 : W3.cell? ⟨kx, 0, none⟩ = some (.bool true) := aC.2.1 0
       have C1 : W3.cell? ⟨kx, 1, none⟩ = some (.int .u64 x.s) := aC.2.1 1
       have C2 : W3.cell? ⟨kx, 2, none⟩ = some (.int .u64 x.c) := aC.2.1 2
       have C3 : W3.cell? ⟨kx, 3, none⟩ = some (.int .u64 x.i) := aC.2.1 3
       have R0 : ∃ v, W3.cell? ⟨kr, c * 4, none⟩ = some v := ⟨_, (st3.r.c c hcN 0 (by omega)).trans (List.getElem?_eq_getElem (by rw [cs4_len]; omega))⟩
       have R1 : ∃ v, W3.cell? ⟨kr, c * 4 + 1, none⟩ = some v := ⟨_, (st3.r.c c hcN 1 (by omega)).trans (List.getElem?_eq_getElem (by rw [cs4_len]; omega))⟩
       have R2 : ∃ v, W3.cell? ⟨kr, c * 4 + 2, none⟩ = some v := ⟨_, (st3.r.c c hcN 2 (by omega)).trans (List.getElem?_eq_getElem (by rw [cs4_len]; omega))⟩
       have R3 : ∃ v, W3.cell? ⟨kr, c * 4 + 3, none⟩ = some v := ⟨_, (st3.r.c c hcN 3 (by omega)).trans (List.getElem?_eq_getElem (by rw [cs4_len]; omega))⟩
       obtain ⟨v0, R0⟩ := R0
       obtain ⟨v1, R1⟩ := R1
       obtain ⟨v2, R2⟩ := R2
       obtain ⟨v3, R3⟩ := R3
       have R2' : W3.cell? ⟨kr, c * 4 + 1 + 1, none⟩ = some v2 := R2
       have R3' : W3.cell? ⟨kr, c * 4 + 1 + 1 + 1, none⟩ = some v3 := R3
       have rfz := st3.r.fr
       have rlt3 := st3.r.lt
       have tlt3 := st3.t.1
       have hput := st3.r.put hcN (some x)
       rw [← hrx.out] at hput
       have hkr := kp_sets W3 kr (cs4 (some x)) (c * 4)
       replace st3 := Hz.mk st3
       replace hf3 := Hz.mk hf3
       replace aC := Hz.mk aC
       replace hput := Hz.mk hput
       replace hkr := Hz.mk hkr
       clear st2 hB3 g
       go_upto_region 10 with fail
       refine wp_world (fun W4 => Kp (fun k => k = kr) W3 W4 ∧ Cr W4 kr m.gates.length (rowF N (vs ++ [x]))) ⟨hkr.out, hput.out⟩ ?_
       rintro W4 ⟨hk4, hr4⟩
       have o4 := at_keep st3.out.o hk4 (by omega)
       have t4 := at_keep st3.out.t hk4 (by omega)
       have i4 := at_keep st3.out.i hk4 (by omega)
       have z4 := at_keep st3.out.z hk4 (by omega)
       have l4 := st3.out.l.below (hk4.below (by omega) (fun k q => by omega))
       have v4 := own_kp' st3.out.v hk4 (fun g hg q => by have := (st3.out.v.lt g hg).1; omega)
       have c4 := at_keep aC.out hk4 (by omega)
       have f4 := aft_above hR.out hf3.out hk4 (fun k q => by omega)
       have s4 := hk4.size
       have O2 : W4.cell? ⟨ko, 2, none⟩ = some (.int .u64 (mcL vs)) := o4.2.1 2
       have X2 : W4.cell? ⟨kx, 2, none⟩ = some (.int .u64 x.c) := c4.2.1 2
       have ofz := o4.2.2
       have olt := o4.1
       have hms := mcL_snoc vs x
       have hoset := Hz.mk (show At (W4.setCell ⟨ko, 2, none⟩ (.int .u64 (mcL (vs ++ [x])))) ko #[.bool true, .int .u64 0, .int .u64 (mcL (vs ++ [x])), .int .u64 0] by
         have := o4.set 2 (.int .u64 (mcL (vs ++ [x]))) (by simp)
         simpa using this)
       have hko := Hz.mk (Kp.set (S := fun q => q = ko) W4 ⟨ko, 2, none⟩ (.int .u64 (mcL (vs ++ [x]))) rfl)
       rw [hms] at hoset hko
       replace hms := Hz.mk hms
       replace t4 := Hz.mk t4
       replace i4 := Hz.mk i4
       replace z4 := Hz.mk z4
       replace l4 := Hz.mk l4
       replace v4 := Hz.mk v4
       replace f4 := Hz.mk f4
       replace hr4 := Hz.mk hr4
       replace o4 := Hz.mk o4
       clear T0 T1 C0 C1 C2 C3 R0 R1 R2 R3 R2' R3' rfz hput hkr hk4 c4 aC
       go_upto_region 11 with fail
       refine wp_world (fun W5 => Kp (fun k => k = ko) W4 W5 ∧ At W5 ko #[.bool true, .int .u64 0, .int .u64 (mcL (vs ++ [x])), .int .u64 0]) ⟨hko.out, by rw [hms.out]; exact hoset.out⟩ ?_
       rintro W5 ⟨hk5, o5⟩
       have fin : CTurn B N lo (.slice (some ⟨b, off, none⟩) N.length vc) m.gates.length L ka kc kt kr ko w.heap.size #[.slice ra m.regs.length rc, .slice ca m.comps.length cc, .slice (some ⟨bg, offg, none⟩) m.gates.length gc, .int .i64 m.depth] (rowF N (vs ++ [x])) (mcL (vs ++ [x])) W5 :=
         ⟨own_kp' v4.out hk5 (fun g hg q => by have := (v4.out.lt g hg).1; omega), hr4.out.keep hk5 (by omega), o5, at_keep t4.out hk5 (by omega), at_keep i4.out hk5 (by omega), at_keep z4.out hk5 (by omega), l4.out.below (hk5.below (by omega) (fun k q => by omega)), by have := hk5.size; omega⟩
       have f5 := aft_above hR.out f4.out hk5 (fun k q => by omega)
       replace fin := Hz.mk fin
       replace f5 := Hz.mk f5
       replace hk5 := Hz.mk hk5
       replace o5 := Hz.mk o5
       clear O2 X2
       replace hij := hij.out
       replace hij2 := hij2.out
       go_wp2_with fail
       clear hij hij2
       go_roundw
       case rel => exact ⟨vs.length + 1, vs ++ [x], by simp, by omega, Hz.mk ⟨by simp, hxn.out, f5.out, fin.out⟩⟩
       case measure => simp only [intOf]; omega
   · have hje : vs.length = N.length := by omega
     have hi2 : ¬ (vs.length : Int) < N.length := by omega
     have hi3 : (N.length : Int) ≤ vs.length := by omega
     have hres := evd.out vs (by rw [← hev0, hje, List.take_of_length_le (Nat.le_refl _), ← hev])
     rw [hct.out vs] at hres
     have hkw : Kp (fun k => k = p.b) w wr := by
       obtain ⟨_, _, _, _, _, _, q⟩ := haft
       exact q
     have hwr := hkw.size
     have G2 : wr.cell? ⟨w.heap.size, 2, none⟩ = some (.slice (some ⟨bg, offg, none⟩) m.gates.length gc) := hcn.i.2.1 2
     have hge' := ((hkw.below hle.out (fun k q => by omega)).cell (p := ⟨bg, offg + n * 4 + 1, none⟩) hbg1).trans hge
     have hbg3 : bg < wr.heap.size := by omega
     have T0 : wr.cell? ⟨kt, 0, none⟩ = some (.slice ka L.length kc) := hcn.t.2.1 0
     have T1 : wr.cell? ⟨kt, 1, none⟩ = some (.slice (some ⟨kr, 0, none⟩) m.gates.length m.gates.length) := hcn.t.2.1 1
     have hBwr : B ≤ wr.heap.size := by have := hle.out; omega
     obtain ⟨en, rfl⟩ : ∃ en : Nat, e0 = (en : Int) := ⟨e0.toNat, by omega⟩
     rw [Int.toNat_natCast] at hres
     have hMs := fun W (l : LIn W.heap.size W ka L) (q : Cr W kr m.gates.length (rowF N vs)) => most_steps L ka kc (some ⟨kr, 0, none⟩) m.gates.length m.gates.length (sF (rowF N vs)) (iF (rowF N vs)) en W l (q.costIn q.lt) hco.out (by omega) (by omega)
     have hMi := fun W (l : LIn W.heap.size W ka L) (q : Cr W kr m.gates.length (rowF N vs)) => most_inputs L ka kc (some ⟨kr, 0, none⟩) m.gates.length m.gates.length (sF (rowF N vs)) (iF (rowF N vs)) en W l (q.costIn q.lt) hco.out (by omega) (by omega)
     have hl0 := hcn.l.mono hBwr
     unfold tlA at hMs hMi
     generalize sumS L (stF L (sF (rowF N vs))) en = s1 at *
     generalize sumS L (inF L (iF (rowF N vs))) en = s2 at *
     have hlo4 := hcn.s
     replace hl0 := Hz.mk hl0
     replace hcn := Hz.mk hcn
     replace haft := Hz.mk haft
     replace hkw := Hz.mk hkw
     replace hMi := Hz.mk hMi
     clear hev0
     cases s1 with
     | none =>
       unfold tupu at hMs
       replace hMs := Hz.mk hMs
       replace hres := Hz.mk hres
       go_upto_region 14 with (go_at_call 42; refine (hMs.out _ hl0.out hcn.out.r).mono ?_; rintro r W2 ⟨rfl, g⟩; replace g := Hz.mk g)
       clear G2 T0 T1 hge'
       have hz2 := at_past hcn.out.z g.out
       have hf2 := aft_below haft.out g.out
       have ⟨zl, zp, zf⟩ := hz2
       have hfin := Hz.mk (At.setAll (cs := [Value.bool false, .int .u64 0, .int .u64 0, .int .u64 0]) hz2 [Value.bool false, .int .u64 0, .int .u64 0, .int .u64 0] rfl)
       have hkf := Hz.mk (kp_sets W2 (w.heap.size + 1) [Value.bool false, .int .u64 0, .int .u64 0, .int .u64 0] 0)
       replace hf2 := Hz.mk hf2
       clear hz2
       go_wp2_with fail
       have ⟨_, q4, _⟩ := hfin.out
       simp only [World.setCells] at q4
       refine bodyPost_ret (v := .tuple #[.agg #[.bool false, .int .u64 0, .int .u64 0, .int .u64 0], .bool false]) (by simp [results, Tryz.results29, go_sem, q4]) rfl ?_
       refine ⟨?_, aft_above hR.out hf2.out hkf.out (fun k q => by omega)⟩
       rw [hres.out]; rfl
     | some s =>
       unfold tupu at hMs
       replace hMs := Hz.mk hMs
       dsimp only at hres
       by_cases hbig : 1099511627776 < s
       · rw [if_pos hbig] at hres
         replace hres := Hz.mk hres
         go_upto_region 14 with (go_at_call 42; refine (hMs.out _ hl0.out hcn.out.r).mono ?_; rintro r W2 ⟨rfl, g⟩; replace g := Hz.mk g)
         clear G2 T0 T1 hge'
         have hz2 := at_past hcn.out.z g.out
         have hf2 := aft_below haft.out g.out
         have ⟨zl, zp, zf⟩ := hz2
         have hfin := Hz.mk (At.setAll (cs := [Value.bool false, .int .u64 0, .int .u64 0, .int .u64 0]) hz2 [Value.bool false, .int .u64 0, .int .u64 0, .int .u64 0] rfl)
         have hkf := Hz.mk (kp_sets W2 (w.heap.size + 1) [Value.bool false, .int .u64 0, .int .u64 0, .int .u64 0] 0)
         replace hf2 := Hz.mk hf2
         clear hz2
         go_wp2_with fail
         have ⟨_, q4, _⟩ := hfin.out
         simp only [World.setCells] at q4
         refine bodyPost_ret (v := .tuple #[.agg #[.bool false, .int .u64 0, .int .u64 0, .int .u64 0], .bool false]) (by simp [results, Tryz.results29, go_sem, q4]) rfl ?_
         refine ⟨?_, aft_above hR.out hf2.out hkf.out (fun k q => by omega)⟩
         rw [hres.out]; rfl
       · rw [if_neg hbig] at hres
         have hbig2 : s ≤ 1099511627776 := by omega
         replace hres := Hz.mk hres
         go_upto_region 14 with (go_at_call 42; refine (hMs.out _ hl0.out hcn.out.r).mono ?_; rintro r W2 ⟨rfl, g⟩; replace g := Hz.mk g)
         clear G2 T0 T1 hge'
         have o2 := at_past hcn.out.o g.out
         have t2 := at_past hcn.out.t g.out
         have z2 := at_past hcn.out.z g.out
         have r2 := hcn.out.r.past g.out
         have l2 := hcn.out.l.below (g.out.mono hBwr)
         have f2 := aft_below haft.out g.out
         have hw2 := g.out.size
         have O1 : W2.cell? ⟨ko, 1, none⟩ = some (.int .u64 0) := o2.2.1 1
         have ofz := o2.2.2
         have olt := o2.1
         have hoset := Hz.mk (show At (W2.setCell ⟨ko, 1, none⟩ (.int .u64 s)) ko #[.bool true, .int .u64 s, .int .u64 (mcL vs), .int .u64 0] by
           have := o2.set 1 (.int .u64 s) (by simp)
           simpa using this)
         have hko := Hz.mk (Kp.set (S := fun q => q = ko) W2 ⟨ko, 1, none⟩ (.int .u64 s) rfl)
         replace t2 := Hz.mk t2
         replace z2 := Hz.mk z2
         replace r2 := Hz.mk r2
         replace l2 := Hz.mk l2
         replace f2 := Hz.mk f2
         clear o2
         go_upto_region 17 with fail
         refine wp_world (fun W3 => Kp (fun k => k = ko) W2 W3 ∧ At W3 ko #[.bool true, .int .u64 s, .int .u64 (mcL vs), .int .u64 0]) ⟨hko.out, hoset.out⟩ ?_
         rintro W3 ⟨hk3, o3⟩
         have t3 := at_keep t2.out hk3 (by omega)
         have z3 := at_keep z2.out hk3 (by omega)
         have r3 := r2.out.keep hk3 (by omega)
         have l3 := l2.out.below (hk3.below (by omega) (fun k q => by omega))
         have f3 := aft_above hR.out f2.out hk3 (fun k q => by omega)
         have hw3 := hk3.size
         have T0 : W3.cell? ⟨kt, 0, none⟩ = some (.slice ka L.length kc) := t3.2.1 0
         have T1 : W3.cell? ⟨kt, 1, none⟩ = some (.slice (some ⟨kr, 0, none⟩) m.gates.length m.gates.length) := t3.2.1 1
         have hcl := hMi.out W3 (l3.mono (by omega)) r3
         replace o3 := Hz.mk o3
         replace z3 := Hz.mk z3
         replace f3 := Hz.mk f3
         clear O1 ofz olt hko hoset t3 r3 l3 hk3 t2 z2 r2 l2 f2
         cases s2 with
         | none =>
           unfold tupu at hcl
           replace hcl := Hz.mk hcl
           go_upto_region 18 with (go_at_call 42; refine hcl.out.mono ?_; rintro r W4 ⟨rfl, g4⟩; have O3 : W4.cell? ⟨ko, 3, none⟩ = some (.int .u64 0) := (at_past o3.out g4).2.1 3; have ofz4 := (at_past o3.out g4).2.2; have olt4 := (at_past o3.out g4).1; replace g4 := Hz.mk g4)
           have o4 := at_past o3.out g4.out
           have z4 := at_past z3.out g4.out
           have f4 := aft_below f3.out g4.out
           refine wp_world (fun W5 => Kp (fun k => k = ko) W4 W5 ∧ At W5 ko #[.bool true, .int .u64 s, .int .u64 (mcL vs), .int .u64 0]) ⟨Kp.set _ ⟨ko, 3, none⟩ _ rfl, by simpa using o4.set 3 (.int .u64 0) (by simp)⟩ ?_
           rintro W5 ⟨hk5, o5⟩
           have z5 := at_keep z4 hk5 (by omega)
           have f5 := aft_above hR.out f4 hk5 (fun k q => by omega)
           have P0 : W5.cell? ⟨ko, 0, none⟩ = some (.bool true) := o5.2.1 0
           have P1 : W5.cell? ⟨ko, 1, none⟩ = some (.int .u64 s) := o5.2.1 1
           have P2 : W5.cell? ⟨ko, 2, none⟩ = some (.int .u64 (mcL vs)) := o5.2.1 2
           have P3 : W5.cell? ⟨ko, 3, none⟩ = some (.int .u64 0) := o5.2.1 3
           have ⟨zl, zp, zf⟩ := z5
           have hfin := Hz.mk (At.setAll (cs := [Value.bool false, .int .u64 0, .int .u64 0, .int .u64 0]) z5 [Value.bool true, .int .u64 s, .int .u64 (mcL vs), .int .u64 0] rfl)
           have hkf := Hz.mk (kp_sets W5 (w.heap.size + 1) [Value.bool true, .int .u64 s, .int .u64 (mcL vs), .int .u64 0] 0)
           replace f5 := Hz.mk f5
           clear o4 z4 z5 f4 O3 ofz4 olt4 hk5 o5
           go_wp2_with fail
           have ⟨_, q4, _⟩ := hfin.out
           simp only [World.setCells] at q4
           refine bodyPost_ret (v := .tuple #[.agg #[.bool true, .int .u64 s, .int .u64 (mcL vs), .int .u64 0], .bool true]) (by simp [results, Tryz.results29, go_sem, q4]) rfl ?_
           refine ⟨?_, aft_above hR.out f5.out hkf.out (fun k q => by omega)⟩
           rw [hres.out]; rfl
         | some i =>
           unfold tupu at hcl
           replace hcl := Hz.mk hcl
           go_upto_region 18 with (go_at_call 42; refine hcl.out.mono ?_; rintro r W4 ⟨rfl, g4⟩; have O3 : W4.cell? ⟨ko, 3, none⟩ = some (.int .u64 0) := (at_past o3.out g4).2.1 3; have ofz4 := (at_past o3.out g4).2.2; have olt4 := (at_past o3.out g4).1; replace g4 := Hz.mk g4)
           have o4 := at_past o3.out g4.out
           have z4 := at_past z3.out g4.out
           have f4 := aft_below f3.out g4.out
           refine wp_world (fun W5 => Kp (fun k => k = ko) W4 W5 ∧ At W5 ko #[.bool true, .int .u64 s, .int .u64 (mcL vs), .int .u64 i]) ⟨Kp.set _ ⟨ko, 3, none⟩ _ rfl, by simpa using o4.set 3 (.int .u64 i) (by simp)⟩ ?_
           rintro W5 ⟨hk5, o5⟩
           have z5 := at_keep z4 hk5 (by omega)
           have f5 := aft_above hR.out f4 hk5 (fun k q => by omega)
           have P0 : W5.cell? ⟨ko, 0, none⟩ = some (.bool true) := o5.2.1 0
           have P1 : W5.cell? ⟨ko, 1, none⟩ = some (.int .u64 s) := o5.2.1 1
           have P2 : W5.cell? ⟨ko, 2, none⟩ = some (.int .u64 (mcL vs)) := o5.2.1 2
           have P3 : W5.cell? ⟨ko, 3, none⟩ = some (.int .u64 i) := o5.2.1 3
           have ⟨zl, zp, zf⟩ := z5
           have hfin := Hz.mk (At.setAll (cs := [Value.bool false, .int .u64 0, .int .u64 0, .int .u64 0]) z5 [Value.bool true, .int .u64 s, .int .u64 (mcL vs), .int .u64 i] rfl)
           have hkf := Hz.mk (kp_sets W5 (w.heap.size + 1) [Value.bool true, .int .u64 s, .int .u64 (mcL vs), .int .u64 i] 0)
           replace f5 := Hz.mk f5
           clear o4 z4 z5 f4 O3 ofz4 olt4 hk5 o5
           go_wp2_with fail
           have ⟨_, q4, _⟩ := hfin.out
           simp only [World.setCells] at q4
           refine bodyPost_ret (v := .tuple #[.agg #[.bool true, .int .u64 s, .int .u64 (mcL vs), .int .u64 i], .bool true]) (by simp [results, Tryz.results29, go_sem, q4]) rfl ?_
           refine ⟨?_, aft_above hR.out f5.out hkf.out (fun k q => by omega)⟩
           rw [hres.out]; rfl
end Bd
end Go.Proofs.YtdlcphinjnnhcaaGreatDoor
