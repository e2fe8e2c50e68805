import Derived.Test.YtdlcphinjnnhcaaGreatDoorK11
import Derived.Lib.MinMax
import Derived.Test.YtdlcphinjnnhcaaGreatDoorK04
import Derived.RegionTactic
import Derived.BigRegion
import Derived.Deep.RegionHeld3
import Derived.StillTactics
namespace Go.Proofs.YtdlcphinjnnhcaaGreatDoor
set_option maxRecDepth 100000
set_option maxHeartbeats 40000000
namespace Bd
open Go.RowKit
open T (Kp)
open F (thB nxtI folB IOwn own_slice)

theorem cost_f1 (kn : Bool) (s C i : Int) (w : World) : (Instr.field 36 (.agg #[.bool kn, .int .u64 s, .int .u64 C, .int .u64 i]) 1).run Tryz.prog w = .ok (.int .u64 s) w := by kernel_rfl
theorem cost_f3 (kn : Bool) (s C i : Int) (w : World) : (Instr.field 36 (.agg #[.bool kn, .int .u64 s, .int .u64 C, .int .u64 i]) 3).run Tryz.prog w = .ok (.int .u64 i) w := by kernel_rfl
theorem ca_any (L : List Ins) (ca : Option Addr) (cc : Nat) (ka : Option Addr) (n kc : Nat) (sg ig : Nat → Int) (pc : Nat) (w : World) (hL : LIn w.heap.size w ca L) (hc : CostIn w.heap.size w ka n sg ig) (hk : CallOk L n) :
   Calls Tryz.prog 60 #[tlA ca L cc ka n kc, .int .i64 pc] w fun e w' => (∃ kn C, e = .returned (.agg #[.bool kn, .int .u64 (caF L sg pc), .int .u64 C, .int .u64 (caF L ig pc)])) ∧ Below w.heap.size w w' := by
 by_cases hp : pc < L.length
 · have eg := List.getElem?_eq_getElem hp
   by_cases ho : L[pc].op = 31
   · obtain ⟨m0, m1⟩ := hk L[pc] (List.getElem_mem hp) ho
     rcases hc with hc | ⟨b, rfl, _, hb, hc⟩
     · omega
     · obtain ⟨kn, C, h0, h1, h2, h3⟩ := hc L[pc].m.toNat (by omega)
       have e1 : ∀ s : Nat → Int, caF L s pc = s L[pc].m.toNat := fun s => by unfold caF; rw [eg]; show (if L[pc].op = 31 then _ else _) = _; rw [if_pos ho]
       rw [e1 sg, e1 ig]
       exact (called_yes L ca cc b n kc pc w hL hp ho L[pc].m.toNat (by omega) (by omega) hb kn _ C _ h0 h1 h2 h3).mono (by rintro x w' ⟨rfl, q⟩; exact ⟨⟨kn, C, rfl⟩, q⟩)
   · have e1 : ∀ s : Nat → Int, caF L s pc = 0 := fun s => by unfold caF; rw [eg]; show (if L[pc].op = 31 then _ else _) = _; rw [if_neg ho]
     rw [e1 sg, e1 ig]
     exact (called_no L ca cc ka n kc pc w hL (fun k q => by rw [eg] at q; injection q with q; rw [← q]; exact ho)).mono (by rintro x w' ⟨rfl, q⟩; exact ⟨⟨false, 0, rfl⟩, q⟩)
 · have eg : L[pc]? = none := List.getElem?_eq_none (by omega)
   have e1 : ∀ s : Nat → Int, caF L s pc = 0 := fun s => by unfold caF; rw [eg]
   rw [e1 sg, e1 ig]
   exact (called_no L ca cc ka n kc pc w hL (fun k q => by rw [eg] at q; cases q)).mono (by rintro x w' ⟨rfl, q⟩; exact ⟨⟨false, 0, rfl⟩, q⟩)
theorem steps_any (L : List Ins) (ca : Option Addr) (cc : Nat) (ka : Option Addr) (n kc : Nat) (sg ig : Nat → Int) (pc : Nat) (w : World) (hL : LIn w.heap.size w ca L) (hc : CostIn w.heap.size w ka n sg ig) (hk : CallOk L n) :
   Calls Tryz.prog 43 #[tlA ca L cc ka n kc, .int .i64 pc] w fun e w' => e = .returned (.int .u64 (stF L sg pc)) ∧ Below w.heap.size w w' := by
 have hC := Hz.mk (fun W (q : Below w.heap.size w W) => ca_any L ca cc ka n kc sg ig pc W ((hL.below q).mono q.size) (by
   rcases hc with h | ⟨b, e, hB, hl, h⟩
   · exact .inl h
   · rcases CostIn.below (.inr ⟨b, e, hB, hl, h⟩) q with h | ⟨b, e, hB, hl, h⟩
     · exact .inl h
     · exact .inr ⟨b, e, Nat.lt_of_lt_of_le hB q.size, hl, h⟩) hk)
 unfold stF
 generalize caF L sg pc = s at *
 generalize caF L ig pc = i at *
 unfold tlA at *
 replace hL := Hz.mk hL
 replace hc := Hz.mk hc
 replace hk := Hz.mk hk
 go_enter Tryz.func43, Tryz.ntmps43
 go_wp2_with (go_at_call 60; refine (hC.out _ ((Below.refl _ _).alloc (Nat.le_refl _) _)).mono ?_; rintro r W1 ⟨⟨kn, C, rfl⟩, q1⟩; replace q1 := Hz.mk q1; have hf1 := cost_f1 kn s C i W1; have hf3 := cost_f3 kn s C i W1)
 go_ret
 exact ⟨rfl, ((Below.refl _ _).alloc (Nat.le_refl _) _).trans (q1.out.mono (by simp))⟩
theorem inputs_any (L : List Ins) (ca : Option Addr) (cc : Nat) (ka : Option Addr) (n kc : Nat) (sg ig : Nat → Int) (pc : Nat) (w : World) (hL : LIn w.heap.size w ca L) (hc : CostIn w.heap.size w ka n sg ig) (hk : CallOk L n) :
   Calls Tryz.prog 44 #[tlA ca L cc ka n kc, .int .i64 pc] w fun e w' => e = .returned (.int .u64 (inF L ig pc)) ∧ Below w.heap.size w w' := by
 have hC := Hz.mk (fun W (q : Below w.heap.size w W) => ca_any L ca cc ka n kc sg ig pc W ((hL.below q).mono q.size) (by
   rcases hc with h | ⟨b, e, hB, hl, h⟩
   · exact .inl h
   · rcases CostIn.below (.inr ⟨b, e, hB, hl, h⟩) q with h | ⟨b, e, hB, hl, h⟩
     · exact .inl h
     · exact .inr ⟨b, e, Nat.lt_of_lt_of_le hB q.size, hl, h⟩) hk)
 by_cases hp : pc < L.length
 · have eg := List.getElem?_eq_getElem hp
   obtain ⟨b, off, rfl, hb0, hb, five⟩ := hL pc hp
   have c0 := five.1
   have q4 : (pc : Int) < (L.length : Int) := by omega
   by_cases ho : L[pc].op = 29
   · have e1 : inF L ig pc = 1 := by unfold inF; rw [eg]; show (if L[pc].op = 29 then _ else _) = _; rw [if_pos ho]
     rw [e1]
     rw [ho] at c0
     unfold tlA at *
     clear five hC
     replace hL := Hz.mk hL
     replace hc := Hz.mk hc
     replace hk := Hz.mk hk
     clear e1 ho eg
     go_enter Tryz.func44, Tryz.ntmps44
     go_wp2_with fail
     go_ret
     exact ⟨rfl, (Below.refl _ _).alloc (Nat.le_refl _) _⟩
   · have e1 : inF L ig pc = caF L ig pc := by unfold inF; rw [eg]; show (if L[pc].op = 29 then _ else _) = _; rw [if_neg ho]
     rw [e1]
     have e2 : (L[pc].op == 29) = false := by simpa using ho
     clear five e1 ho eg
     generalize L[pc].op = op at *
     generalize caF L sg pc = s at *
     generalize caF L ig pc = i at *
     unfold tlA at *
     replace hL := Hz.mk hL
     replace hc := Hz.mk hc
     replace hk := Hz.mk hk
     go_enter Tryz.func44, Tryz.ntmps44
     go_wp2_with (go_at_call 60; refine (hC.out _ ((Below.refl _ _).alloc (Nat.le_refl _) _)).mono ?_; rintro r W1 ⟨⟨kn, C, rfl⟩, q1⟩; replace q1 := Hz.mk q1; have hf1 := cost_f1 kn s C i W1; have hf3 := cost_f3 kn s C i W1)
     go_ret
     exact ⟨rfl, ((Below.refl _ _).alloc (Nat.le_refl _) _).trans (q1.out.mono (by simp))⟩
 · have eg : L[pc]? = none := List.getElem?_eq_none (by omega)
   have e1 : inF L ig pc = caF L ig pc := by unfold inF; rw [eg]
   rw [e1]
   have q4 : ¬ (pc : Int) < (L.length : Int) := by omega
   have q5 : (L.length : Int) ≤ (pc : Int) := by omega
   clear e1 eg
   generalize caF L sg pc = s at *
   generalize caF L ig pc = i at *
   unfold tlA at *
   replace hL := Hz.mk hL
   replace hc := Hz.mk hc
   replace hk := Hz.mk hk
   go_enter Tryz.func44, Tryz.ntmps44
   go_wp2_with (go_at_call 60; refine (hC.out _ ((Below.refl _ _).alloc (Nat.le_refl _) _)).mono ?_; rintro r W1 ⟨⟨kn, C, rfl⟩, q1⟩; replace q1 := Hz.mk q1; have hf1 := cost_f1 kn s C i W1; have hf3 := cost_f3 kn s C i W1)
   go_ret
   exact ⟨rfl, ((Below.refl _ _).alloc (Nat.le_refl _) _).trans (q1.out.mono (by simp))⟩
end Bd
end Go.Proofs.YtdlcphinjnnhcaaGreatDoor


namespace Go.Proofs.YtdlcphinjnnhcaaGreatDoor
set_option maxRecDepth 100000
set_option maxHeartbeats 40000000
namespace Bd
open Go.RowKit
open T (Kp)
open F (thB nxtI folB IOwn own_slice own_nin)

def mxL (l : List Int) : Int := l.foldl max 0
theorem mxL_snoc (l : List Int) (x : Int) : mxL (l ++ [x]) = max (mxL l) x := by unfold mxL; rw [List.foldl_append]; rfl
def wyS (cF : Nat → Int) (pc : Nat) (vs : List Int) : Option Int := some (IntKind.u64.wrap (cF pc + mxL vs))
structure TEnv (B kt kc : Nat) (ca : Option Addr) (cc : Nat) (ka : Option Addr) (n kcc : Nat) (L : List Ins) (sg ig : Nat → Int) (cv : Value) (w : World) : Prop where
 t : At w kt #[.slice ca L.length cc, .slice ka n kcc]
 c : At w kc #[cv]
 l : LIn B w ca L
 k : CostIn B w ka n sg ig
 le : B ≤ w.heap.size
theorem costIn_mono {B B' : Nat} {w : World} {ka : Option Addr} {n : Nat} {sg ig : Nat → Int} (h : CostIn B w ka n sg ig) (hb : B ≤ B') : CostIn B' w ka n sg ig := by
 rcases h with h | ⟨b, e, hB, hl, h⟩
 · exact .inl h
 · exact .inr ⟨b, e, Nat.lt_of_lt_of_le hB hb, hl, h⟩
theorem TEnv.keep {B kt kc : Nat} {ca : Option Addr} {cc : Nat} {ka : Option Addr} {n kcc : Nat} {L : List Ins} {sg ig : Nat → Int} {cv : Value} {w w' : World} {b : Nat} (h : TEnv B kt kc ca cc ka n kcc L sg ig cv w) (hk : Kp (fun k => k = b) w w') (hb : B ≤ b) (h1 : kt ≠ b) (h2 : kc ≠ b) : TEnv B kt kc ca cc ka n kcc L sg ig cv w' := by
 have hB : Below B w w' := hk.below h.le (fun k q => by omega)
 exact ⟨at_keep h.t hk h1, at_keep h.c hk h2, h.l.below hB, h.k.below hB, Nat.le_trans h.le hB.size⟩
theorem own_kp' {S : Nat → Prop} {w w1 : World} {base : Nat} {v : Value} {xs : List Int} (h : IOwn w base v xs) (hb : Kp S w w1) (hk : ∀ g, v.ownBlock = some g → ¬ S g) : IOwn w1 base v xs := by
 refine ⟨h.1, ?_⟩
 rcases h.2 with h2 | ⟨g, cap, cur, hv, hbg, hg, rest⟩
 · exact .inl h2
 · have hlt : g < w.heap.size := (Array.getElem?_eq_some_iff.1 hg).1
   exact .inr ⟨g, cap, cur, hv, hbg, (hb.block g hlt (hk g (by rw [hv]; rfl))).trans hg, rest⟩
structure Asked {α : Type} (p : Pl) (enc : Option α → Value) (nx : Nat → List Nat) (f : Nat → List α → Option α) (U : List Nat) (S : Nat → Prop) (M : Nat → Option (Option α)) (nn : Nat) (N : List Nat) (lo : Nat) (v : Value) (w : World) (j : Nat) (vs : List α) (wr : World) : Prop where
 a : Aft p enc nx f U S M nn w wr
 e : (N.take j).map (ev nx f U) = vs.map some
 v : IOwn wr lo v (N.map (fun q : Nat => (q : Int)))
section
variable {α : Type} {p : Pl} {enc : Option α → Value} {nx : Nat → List Nat} {f : Nat → List α → Option α} {U : List Nat} {S : Nat → Prop} {M : Nat → Option (Option α)} {nn : Nat} {N : List Nat} {lo : Nat} {v : Value} {w wr w2 : World} {j : Nat} {vs : List α}
theorem aft_below (h : Aft p enc nx f U S M nn w wr) (hb : Below wr.heap.size wr w2) : Aft p enc nx f U S M nn w w2 := by
 obtain ⟨M', nn', h1, h2, h3, h4, h5⟩ := h
 exact ⟨M', nn', h1.below hb, h2, h3, h4, h5.trans (Kp.of_below hb) (fun k q => .inl q)⟩
theorem Asked.kp (h : Asked p enc nx f U S M nn N lo v w j vs wr) : Kp (fun k => k = p.b) w wr := by
 obtain ⟨M', nn', h1, h2, h3, h4, h5⟩ := h.a
 exact h5
theorem Asked.next (h : Asked p enc nx f U S M nn N lo v w j vs wr) (hj : j < N.length) (x : α) (hx : ev nx f U N[j] = some x) (hlo : p.b < lo) {M' : Nat → Option (Option α)} {nn' : Nat} (h3 : More M M') (h4 : nn' + 2 * left U M' ≤ nn + 2 * left U M) (h5 : Kp (fun k => k = p.b) w wr)
   (g : Aft p enc nx f U S M' nn' wr w2) : Asked p enc nx f U S M nn N lo v w (j + 1) (vs ++ [x]) w2 := by
 obtain ⟨M2, n2, g1, g2, g3, g4, g5⟩ := g
 refine ⟨⟨M2, n2, g1, g2, h3.trans g3, by omega, h5.trans g5 (fun k q => .inl q)⟩, ?_, ?_⟩
 · rw [List.take_succ_eq_append_getElem hj, List.map_append, h.e, List.map_append]
   simp [hx]
 · exact own_kp' h.v g5 (fun k hk => by have := (h.v.lt k hk).1; omega)
end
theorem wrapU (x : Int) (h : 0 ≤ x ∧ x < 18446744073709551616) : IntKind.u64.wrap x = x := by rw [IntKind.wrap_u64]; omega
theorem findu_any (B kt kc : Nat) (ca : Option Addr) (cc : Nat) (ka : Option Addr) (n kcc : Nat) (L : List Ins) (sg ig : Nat → Int) (cf : Nat) (hcf : cf = 43 ∨ cf = 44) (cF : Nat → Int) (p : Pl) (hp : p.qf = 77) (hn : L.length < 1000) (hbB : B ≤ p.b) (hkt : kt ≠ p.b) (hkc : kc ≠ p.b)
   (hcount : ∀ (w : World) (pc : Nat), TEnv B kt kc ca cc ka n kcc L sg ig (.func (.func cf) #[] #[]) w → Calls Tryz.prog cf #[tlA ca L cc ka n kcc, .int .i64 pc] w fun e w' => e = .returned (.int .u64 (cF pc)) ∧ Below w.heap.size w w') (d : Nat) :
   AskC (TEnv B kt kc ca cc ka n kcc L sg ig (.func (.func cf) #[] #[])) p encu tupu (nxN L) (wyS cF) (List.range (L.length + 1)) d → FindC 58 #[pv kt, pv kc] (TEnv B kt kc ca cc ka n kcc L sg ig (.func (.func cf) #[] #[])) p encu tupu (nxN L) (wyS cF) (List.range (L.length + 1)) d := by
 intro hask w m S M nn hE hR hS hA hm hl hb
 have hU : ∀ x ∈ List.range (L.length + 1), ∀ c ∈ nxN L x, c ∈ List.range (L.length + 1) := fun x _ => nxN_in L x
 have hqv : p.qv = .func (.func 77) #[] #[.pointer (some ⟨p.kA, 0, none⟩), .pointer (some ⟨p.kF, 0, none⟩), .pointer (some ⟨p.kQ, 0, none⟩)] := by unfold Pl.qv pv; rw [hp]
 show Calls Tryz.prog 58 #[.int .i64 m, p.qv, .pointer (some ⟨kt, 0, none⟩), .pointer (some ⟨kc, 0, none⟩)] w _
 rw [hqv]
 have hm2 : m < 1001 := by rw [List.mem_range] at hm; omega
 have hNx := Hz.mk (fun W (q : Below w.heap.size w W) => next_any L ca cc ka n kcc m W (((hE.l.mono hE.le).below q).mono q.size) (by omega) (by omega))
 have hNl : (nxN L m).length ≤ 2000 := by
   unfold nxN
   rw [List.length_append]
   have h1 : (if thB L.length m = true then (List.range L.length).filter (folB L m) else []).length ≤ L.length := by
     split
     · have := List.length_filter_le (folB L m) (List.range L.length)
       rwa [List.length_range] at this
     · simp
   have h2 : (if ovB L m = true then [L.length] else []).length ≤ 1 := by split <;> simp
   omega
 have hq := Hz.mk (fun W (e : TEnv B kt kc ca cc ka n kcc L sg ig (.func (.func cf) #[] #[]) W) (M' : Nat → Option (Option Int)) (nn' : Nat) (h1 : Rem p encu W nn' M') (h2 : Memo (nxN L) (wyS cF) (List.range (L.length + 1)) (fun x => S x ∨ x = m) M') (h3 : More M M') (h4 : nn' + 2 * left (List.range (L.length + 1)) M' ≤ nn + 2 * left (List.range (L.length + 1)) M) (c : Nat) (hc : c ∈ nxN L m) => hask W c (fun x => S x ∨ x = m) M' nn' e h1 h2 (fun q hq => by
   rcases hq with hq | hq
   · exact (hA q hq).trans (anc_child hc)
   · subst hq; exact anc_child hc) (nxN_in L m c hc) (Nat.le_trans (left_more h3) hl) (by omega))
 rw [hp] at hq
 unfold pv at hq
 have k0 : w.cell? ⟨kt, 0, none⟩ = some (.slice ca L.length cc) := hE.t.2.1 0
 have k1 : w.cell? ⟨kt, 1, none⟩ = some (.slice ka n kcc) := hE.t.2.1 1
 have evd : ∀ vs : List Int, (nxN L m).map (ev (nxN L) (wyS cF) (List.range (L.length + 1))) = vs.map some → ev (nxN L) (wyS cF) (List.range (L.length + 1)) m = some (IntKind.u64.wrap (cF m + mxL vs)) := fun vs h => ev_known hU hm h
 have evn : ∀ c, c ∈ nxN L m → ev (nxN L) (wyS cF) (List.range (L.length + 1)) c = none → ev (nxN L) (wyS cF) (List.range (L.length + 1)) m = none := fun c hc h => ev_none hU hm hc h
 have hstart : Aft p encu (nxN L) (wyS cF) (List.range (L.length + 1)) (fun x => S x ∨ x = m) M nn w w := ⟨M, nn, hR, hS, More.refl M, Nat.le_refl _, Kp.refl _ _⟩
 have hEk := Hz.mk (fun W (q : Kp (fun k => k = p.b) w W) => hE.keep q hbB hkt hkc)
 have hpb := hR.m.lt
 replace hcount := Hz.mk hcount
 replace hE := Hz.mk hE
 replace hS := Hz.mk hS
 replace hR := Hz.mk hR
 replace hA := Hz.mk hA
 replace hU := Hz.mk hU
 replace hm := Hz.mk hm
 replace hstart := Hz.mk hstart
 replace evd := Hz.mk evd
 replace evn := Hz.mk evn
 clear hask hqv hb hl
 generalize hN : nxN L m = N at *
 generalize hev : ev (nxN L) (wyS cF) (List.range (L.length + 1)) = evv at *
 generalize List.range (L.length + 1) = U at *
 unfold tlA at *
 go_enter Tryz.func58, Tryz.ntmps58
 go_upto_region 3 with (go_at_call 59; refine (hNx.out _ (Below.refl _ _)).mono ?_; rintro r W1 ⟨v, rfl, y1, y2⟩; obtain ⟨va, vc, rfl⟩ := own_slice y1; rw [List.length_map] at y1; replace y1 := Hz.mk y1; replace y2 := Hz.mk y2)
 clear k0 k1
 go_loopw [8, 17] (fun rv iv wr => ∃ (j : Nat) (vs : List Int), rv = .int .u64 (mxL vs) ∧ iv = .int .i64 j ∧ j ≤ N.length ∧ Hz (Asked p encu (nxN L) (wyS cF) U (fun x => S x ∨ x = m) M nn N w.heap.size (.slice va N.length vc) w j vs wr)) (fun _ iv _ => N.length - (intOf iv).toNat)
 case atStart => exact ⟨0, [], rfl, rfl, by omega, Hz.mk ⟨aft_below hstart.out y2.out, rfl, y1.out⟩⟩
 case round =>
   obtain ⟨j, vs, rfl, rfl, hj, hk⟩ := hrel
   have hkp := hk.out.kp
   have hEr := hEk.out wr hkp
   by_cases hlt : j < N.length
   · obtain ⟨b, off, ena, _, hb2, hc⟩ := own_nin hk.out.v j (by rw [List.length_map]; exact hlt)
     subst ena
     rw [List.getElem_map] at hc
     have hi1 : (j : Int) < N.length := by omega
     obtain ⟨M', nn', r1, r2, r3, r4, r5⟩ := hk.out.a
     have hmem : N[j] ∈ N := List.getElem_mem hlt
     have hcall := hq.out wr hEr M' nn' r1 r2 r3 r4 N[j] hmem
     have hnx := fun x (hx : ev (nxN L) (wyS cF) U N[j] = some x) w2 (g : Aft p encu (nxN L) (wyS cF) U (fun x => S x ∨ x = m) M' nn' wr w2) => hk.out.next hlt x hx hpb r3 r4 r5 g
     have hn2 := fun w2 (g : Aft p encu (nxN L) (wyS cF) U (fun x => S x ∨ x = m) M' nn' wr w2) => (show Aft p encu (nxN L) (wyS cF) U (fun x => S x ∨ x = m) M nn w w2 by
       obtain ⟨M2, n2, g1, g2, g3, g4, g5⟩ := g
       exact ⟨M2, n2, g1, g2, r3.trans g3, by omega, r5.trans g5 (fun k q => .inl q)⟩)
     have hev2 : ev (nxN L) (wyS cF) U N[j] = evv N[j] := by rw [hev]
     (try rw [hev2] at hcall)
     rw [hev2] at hnx
     have hno := evn.out N[j] hmem
     clear hev2 hmem r1 r2 r5
     generalize N[j] = c at *
     replace hnx := Hz.mk hnx
     replace hn2 := Hz.mk hn2
     replace hk := Hz.mk hk.out
     replace hkp := Hz.mk hkp
     replace hEr := Hz.mk hEr
     replace r3 := Hz.mk r3
     replace r4 := Hz.mk r4
     have hij : IntKind.i64.wrap ((j : Int) + 1) = ((j + 1 : Nat) : Int) := by rw [IntKind.wrap_i64]; omega
     have hij2 : wrap64 ((j : Int) + 1) = ((j + 1 : Nat) : Int) := by unfold wrap64; omega
     cases hcv : evv c with
     | none =>
       have hem := hno hcv
       rw [hcv] at hcall
       unfold tupu at hcall
       replace hno := Hz.mk hno
       replace hcall := Hz.mk hcall
       go_wp2_with (go_at_call 77; refine hcall.out.mono ?_; rintro r w2 ⟨rfl, g⟩; replace g := Hz.mk g)
       refine bodyPost_ret (v := .tuple #[.int .u64 0, .bool false]) (by simp [results, Tryz.results58, go_sem]) rfl ?_
       refine ⟨?_, hn2.out _ g.out⟩
       rw [hem]; rfl
     | some x =>
       rw [hcv] at hcall
       unfold tupu at hcall
       replace hno := Hz.mk hno
       replace hcall := Hz.mk hcall
       replace hcv := Hz.mk hcv
       go_wp2_with (go_at_call 77; refine hcall.out.mono ?_; rintro r w2 ⟨rfl, g⟩; replace g := Hz.mk g)
       clear hij hij2
       go_roundw
       case rel => exact ⟨j + 1, vs ++ [x], by rw [mxL_snoc], by simp, by omega, Hz.mk (hnx.out x hcv.out _ g.out)⟩
       case measure => simp only [intOf]; omega
   · have hje : j = N.length := by omega
     subst hje
     have hi2 : ¬ (N.length : Int) < N.length := by omega
     have hres := evd.out vs (by rw [← hk.out.e, List.take_of_length_le (Nat.le_refl _), ← hev])
     have k0 : wr.cell? ⟨kt, 0, none⟩ = some (.slice ca L.length cc) := hEr.t.2.1 0
     have k1 : wr.cell? ⟨kt, 1, none⟩ = some (.slice ka n kcc) := hEr.t.2.1 1
     have k2 : wr.cell? ⟨kc, 0, none⟩ = some (.func (.func cf) #[] #[]) := hEr.c.2.1 0
     have hcc := hcount.out wr m hEr
     generalize cF m = cm at *
     generalize mxL vs = mv at *
     have haf := Hz.mk hk.out.a
     replace hk := Hz.mk hk.out
     replace hcc := Hz.mk hcc
     replace hEr := Hz.mk hEr
     replace hkp := Hz.mk hkp
     replace hres := Hz.mk hres
     rcases hcf with rfl | rfl
     all_goals
       go_wp2_with (refine hcc.out.mono ?_; rintro r w2 ⟨rfl, g⟩; replace g := Hz.mk g)
       refine bodyPost_ret (v := .tuple #[.int .u64 (IntKind.u64.wrap (cm + mv)), .bool true]) (by simp [results, Tryz.results58, go_sem]) rfl ?_
       refine ⟨?_, aft_below haf.out g.out⟩
       rw [hres.out]; rfl
end Bd
end Go.Proofs.YtdlcphinjnnhcaaGreatDoor


namespace Go.Proofs.YtdlcphinjnnhcaaGreatDoor
set_option maxRecDepth 100000
set_option maxHeartbeats 40000000
namespace Bd
open Go.RowKit
open T (Kp)

theorem left_all {α : Type} (U : List Nat) : left U (fun _ => (none : Option (Option α))) = U.length := by unfold left; simp
theorem memo_none {α : Type} (nx : Nat → List Nat) (f : Nat → List α → Option α) (U : List Nat) : Memo nx f U (fun _ => False) (fun _ => none) := ⟨fun _ _ h => (by cases h), fun _ h => (by cases h)⟩
def sumS (L : List Ins) (cF : Nat → Int) (m : Nat) : Option Int := ev (nxN L) (wyS cF) (List.range (L.length + 1)) m
theorem most_steps (L : List Ins) (ca : Option Addr) (cc : Nat) (ka : Option Addr) (n kc : Nat) (sg ig : Nat → Int) (m : Nat) (w : World) (hL : LIn w.heap.size w ca L) (hc : CostIn w.heap.size w ka n sg ig) (hk : CallOk L n) (hm : m ≤ L.length) (hn : L.length < 1000) :
   Calls Tryz.prog 42 #[tlA ca L cc ka n kc, .int .i64 m, .func (.func 43) #[] #[]] w fun e w' => e = .returned (tupu (sumS L (stF L sg) m)) ∧ Below w.heap.size w w' := by
 have hcount : ∀ (kt kc2 : Nat) (W : World) (pc : Nat), TEnv w.heap.size kt kc2 ca cc ka n kc L sg ig (.func (.func 43) #[] #[]) W → Calls Tryz.prog 43 #[tlA ca L cc ka n kc, .int .i64 pc] W fun e w' => e = .returned (.int .u64 (stF L sg pc)) ∧ Below W.heap.size W w' :=
   fun kt kc2 W pc e => steps_any L ca cc ka n kc sg ig pc W (e.l.mono e.le) (costIn_mono e.k e.le) hk
 have hask : ∀ (W W1 : World) (p : Pl), Below w.heap.size w W → At W w.heap.size #[.slice ca L.length cc, .slice ka n kc] → At W (w.heap.size + 1) #[.func (.func 43) #[] #[]] → p.qf = 77 → p.fv = .func (.func 58) #[] #[pv w.heap.size, pv (w.heap.size + 1)] → Rem p encu W1 0 (fun _ => none) → Below W.heap.size W W1 → W.heap.size ≤ p.b →
     Calls Tryz.prog 77 #[.int .i64 m, .pointer (some ⟨p.kA, 0, none⟩), .pointer (some ⟨p.kF, 0, none⟩), .pointer (some ⟨p.kQ, 0, none⟩)] W1 fun r w' => r = .returned (tupu (sumS L (stF L sg) m)) ∧ Below w.heap.size w w' := by
   intro W W1 p hB aT aC hp hf hR hB1 hpb
   have n1 : w.heap.size ≠ p.b := by have := aT.1; omega
   have n2 : w.heap.size + 1 ≠ p.b := by have := aC.1; omega
   have n3 : w.heap.size ≤ p.b := by have := hB.size; omega
   have hE1 : TEnv w.heap.size w.heap.size (w.heap.size + 1) ca cc ka n kc L sg ig (.func (.func 43) #[] #[]) W1 := by
     have h2 := hB.trans (hB1.mono hB.size)
     exact ⟨at_keep aT (Kp.of_below (S := fun _ => False) hB1) id, at_keep aC (Kp.of_below (S := fun _ => False) hB1) id, hL.below h2, hc.below h2, h2.size⟩
   have hA := asku_any w.heap.size (w.heap.size + 1) (TEnv w.heap.size w.heap.size (w.heap.size + 1) ca cc ka n kc L sg ig (.func (.func 43) #[] #[])) p hp hf (fun X X' e q => e.keep q n3 n1 n2) (nxN L) (wyS (stF L sg)) (List.range (L.length + 1)) (fun x hx => by rw [List.mem_range] at hx; omega)
     (fun d => findu_any w.heap.size w.heap.size (w.heap.size + 1) ca cc ka n kc L sg ig 43 (.inl rfl) (stF L sg) p hp hn n3 n1 n2 (hcount _ _) d) (L.length + 1)
   have h := hA W1 m (fun _ => False) (fun _ => none) 0 hE1 hR (memo_none _ _ _) (fun _ h => h.elim) (List.mem_range.2 (by omega)) (by rw [left_all, List.length_range]; exact Nat.le_refl _) (by rw [left_all, List.length_range]; omega)
   rw [hp] at h
   refine h.mono ?_
   rintro r w' ⟨e1, M', nn', g1, g2, g3, g4, g5⟩
   exact ⟨e1, (hB.trans (hB1.mono hB.size)).trans (g5.below (Nat.le_trans hB.size hB1.size) (fun k q => by omega))⟩
 have hmf : ∀ (fn : Fn) (first cap : Array Value) (w : World), (Instr.makeFunc fn first cap).run Tryz.prog w = .ok (.func fn first cap) w := fun _ _ _ _ => rfl
 have hRm := Hz.mk (fun W => remu_any w.heap.size (w.heap.size + 1) W)
 generalize sumS L (stF L sg) m = res at *
 replace hask := Hz.mk hask
 replace hcount := Hz.mk hcount
 replace hL := Hz.mk hL
 replace hc := Hz.mk hc
 replace hk := Hz.mk hk
 unfold tlA pv at *
 have aT := (At.new w #[.slice ca L.length cc, .slice ka n kc] 105).alloc (.cells #[.func (.func 43) #[] #[]] 108)
 have aC := At.new (w.alloc (.cells #[.slice ca L.length cc, .slice ka n kc] 105)) #[.func (.func 43) #[] #[]] 108
 have e1 : (w.alloc (.cells #[.slice ca L.length cc, .slice ka n kc] 105)).heap.size = w.heap.size + 1 := by simp
 rw [e1] at aC
 have hB : Below w.heap.size w ((w.alloc (.cells #[.slice ca L.length cc, .slice ka n kc] 105)).alloc (.cells #[.func (.func 43) #[] #[]] 108)) := ((Below.refl _ w).alloc (Nat.le_refl _) _).alloc (by simp) _
 replace aT := Hz.mk aT
 replace aC := Hz.mk aC
 replace hB := Hz.mk hB
 clear e1
 go_enter Tryz.func42, Tryz.ntmps42
 go_upto_region 1 with fail
 refine wp_world (fun W => At W w.heap.size #[.slice ca L.length cc, .slice ka n kc] ∧ At W (w.heap.size + 1) #[.func (.func 43) #[] #[]] ∧ Below w.heap.size w W) ⟨aT.out, aC.out, hB.out⟩ ?_
 clear aT aC hB
 rintro W ⟨aT, aC, hB⟩
 replace aT := Hz.mk aT
 replace aC := Hz.mk aC
 replace hB := Hz.mk hB
 go_upto_region 2 with (go_at_call 57; refine (hRm.out _).mono ?_; rintro r W1 ⟨p, rfl, hp, hf, hR, hB1, hpb⟩; have hqv : p.qv = .func (.func 77) #[] #[.pointer (some ⟨p.kA, 0, none⟩), .pointer (some ⟨p.kF, 0, none⟩), .pointer (some ⟨p.kQ, 0, none⟩)] := (by unfold Pl.qv pv; rw [hp]); rw [hqv]; have hcl := Hz.mk (hask.out W W1 p hB.out aT.out aC.out hp hf hR hB1 hpb); clear hqv hp hf hR hB1 hpb)
 cases res with
 | some v =>
   unfold tupu at hcl
   go_wp2_with (go_at_call 77; refine hcl.out.mono ?_; rintro r W2 ⟨rfl, g⟩; replace g := Hz.mk g)
   refine bodyPost_ret (v := .tuple #[.int .u64 v, .bool true]) (by simp [results, Tryz.results42, go_sem]) rfl ?_
   exact ⟨rfl, g.out⟩
 | none =>
   unfold tupu at hcl
   go_wp2_with (go_at_call 77; refine hcl.out.mono ?_; rintro r W2 ⟨rfl, g⟩; replace g := Hz.mk g)
   refine bodyPost_ret (v := .tuple #[.int .u64 0, .bool false]) (by simp [results, Tryz.results42, go_sem]) rfl ?_
   exact ⟨rfl, g.out⟩
theorem most_inputs (L : List Ins) (ca : Option Addr) (cc : Nat) (ka : Option Addr) (n kc : Nat) (sg ig : Nat → Int) (m : Nat) (w : World) (hL : LIn w.heap.size w ca L) (hc : CostIn w.heap.size w ka n sg ig) (hk : CallOk L n) (hm : m ≤ L.length) (hn : L.length < 1000) :
   Calls Tryz.prog 42 #[tlA ca L cc ka n kc, .int .i64 m, .func (.func 44) #[] #[]] w fun e w' => e = .returned (tupu (sumS L (inF L ig) m)) ∧ Below w.heap.size w w' := by
 have hcount : ∀ (kt kc2 : Nat) (W : World) (pc : Nat), TEnv w.heap.size kt kc2 ca cc ka n kc L sg ig (.func (.func 44) #[] #[]) W → Calls Tryz.prog 44 #[tlA ca L cc ka n kc, .int .i64 pc] W fun e w' => e = .returned (.int .u64 (inF L ig pc)) ∧ Below W.heap.size W w' :=
   fun kt kc2 W pc e => inputs_any L ca cc ka n kc sg ig pc W (e.l.mono e.le) (costIn_mono e.k e.le) hk
 have hask : ∀ (W W1 : World) (p : Pl), Below w.heap.size w W → At W w.heap.size #[.slice ca L.length cc, .slice ka n kc] → At W (w.heap.size + 1) #[.func (.func 44) #[] #[]] → p.qf = 77 → p.fv = .func (.func 58) #[] #[pv w.heap.size, pv (w.heap.size + 1)] → Rem p encu W1 0 (fun _ => none) → Below W.heap.size W W1 → W.heap.size ≤ p.b →
     Calls Tryz.prog 77 #[.int .i64 m, .pointer (some ⟨p.kA, 0, none⟩), .pointer (some ⟨p.kF, 0, none⟩), .pointer (some ⟨p.kQ, 0, none⟩)] W1 fun r w' => r = .returned (tupu (sumS L (inF L ig) m)) ∧ Below w.heap.size w w' := by
   intro W W1 p hB aT aC hp hf hR hB1 hpb
   have n1 : w.heap.size ≠ p.b := by have := aT.1; omega
   have n2 : w.heap.size + 1 ≠ p.b := by have := aC.1; omega
   have n3 : w.heap.size ≤ p.b := by have := hB.size; omega
   have hE1 : TEnv w.heap.size w.heap.size (w.heap.size + 1) ca cc ka n kc L sg ig (.func (.func 44) #[] #[]) W1 := by
     have h2 := hB.trans (hB1.mono hB.size)
     exact ⟨at_keep aT (Kp.of_below (S := fun _ => False) hB1) id, at_keep aC (Kp.of_below (S := fun _ => False) hB1) id, hL.below h2, hc.below h2, h2.size⟩
   have hA := asku_any w.heap.size (w.heap.size + 1) (TEnv w.heap.size w.heap.size (w.heap.size + 1) ca cc ka n kc L sg ig (.func (.func 44) #[] #[])) p hp hf (fun X X' e q => e.keep q n3 n1 n2) (nxN L) (wyS (inF L ig)) (List.range (L.length + 1)) (fun x hx => by rw [List.mem_range] at hx; omega)
     (fun d => findu_any w.heap.size w.heap.size (w.heap.size + 1) ca cc ka n kc L sg ig 44 (.inr rfl) (inF L ig) p hp hn n3 n1 n2 (hcount _ _) d) (L.length + 1)
   have h := hA W1 m (fun _ => False) (fun _ => none) 0 hE1 hR (memo_none _ _ _) (fun _ h => h.elim) (List.mem_range.2 (by omega)) (by rw [left_all, List.length_range]; exact Nat.le_refl _) (by rw [left_all, List.length_range]; omega)
   rw [hp] at h
   refine h.mono ?_
   rintro r w' ⟨e1, M', nn', g1, g2, g3, g4, g5⟩
   exact ⟨e1, (hB.trans (hB1.mono hB.size)).trans (g5.below (Nat.le_trans hB.size hB1.size) (fun k q => by omega))⟩
 have hmf : ∀ (fn : Fn) (first cap : Array Value) (w : World), (Instr.makeFunc fn first cap).run Tryz.prog w = .ok (.func fn first cap) w := fun _ _ _ _ => rfl
 have hRm := Hz.mk (fun W => remu_any w.heap.size (w.heap.size + 1) W)
 generalize sumS L (inF L ig) m = res at *
 replace hask := Hz.mk hask
 replace hcount := Hz.mk hcount
 replace hL := Hz.mk hL
 replace hc := Hz.mk hc
 replace hk := Hz.mk hk
 unfold tlA pv at *
 have aT := (At.new w #[.slice ca L.length cc, .slice ka n kc] 105).alloc (.cells #[.func (.func 44) #[] #[]] 108)
 have aC := At.new (w.alloc (.cells #[.slice ca L.length cc, .slice ka n kc] 105)) #[.func (.func 44) #[] #[]] 108
 have e1 : (w.alloc (.cells #[.slice ca L.length cc, .slice ka n kc] 105)).heap.size = w.heap.size + 1 := by simp
 rw [e1] at aC
 have hB : Below w.heap.size w ((w.alloc (.cells #[.slice ca L.length cc, .slice ka n kc] 105)).alloc (.cells #[.func (.func 44) #[] #[]] 108)) := ((Below.refl _ w).alloc (Nat.le_refl _) _).alloc (by simp) _
 replace aT := Hz.mk aT
 replace aC := Hz.mk aC
 replace hB := Hz.mk hB
 clear e1
 go_enter Tryz.func42, Tryz.ntmps42
 go_upto_region 1 with fail
 refine wp_world (fun W => At W w.heap.size #[.slice ca L.length cc, .slice ka n kc] ∧ At W (w.heap.size + 1) #[.func (.func 44) #[] #[]] ∧ Below w.heap.size w W) ⟨aT.out, aC.out, hB.out⟩ ?_
 clear aT aC hB
 rintro W ⟨aT, aC, hB⟩
 replace aT := Hz.mk aT
 replace aC := Hz.mk aC
 replace hB := Hz.mk hB
 go_upto_region 2 with (go_at_call 57; refine (hRm.out _).mono ?_; rintro r W1 ⟨p, rfl, hp, hf, hR, hB1, hpb⟩; have hqv : p.qv = .func (.func 77) #[] #[.pointer (some ⟨p.kA, 0, none⟩), .pointer (some ⟨p.kF, 0, none⟩), .pointer (some ⟨p.kQ, 0, none⟩)] := (by unfold Pl.qv pv; rw [hp]); rw [hqv]; have hcl := Hz.mk (hask.out W W1 p hB.out aT.out aC.out hp hf hR hB1 hpb); clear hqv hp hf hR hB1 hpb)
 cases res with
 | some v =>
   unfold tupu at hcl
   go_wp2_with (go_at_call 77; refine hcl.out.mono ?_; rintro r W2 ⟨rfl, g⟩; replace g := Hz.mk g)
   refine bodyPost_ret (v := .tuple #[.int .u64 v, .bool true]) (by simp [results, Tryz.results42, go_sem]) rfl ?_
   exact ⟨rfl, g.out⟩
 | none =>
   unfold tupu at hcl
   go_wp2_with (go_at_call 77; refine hcl.out.mono ?_; rintro r W2 ⟨rfl, g⟩; replace g := Hz.mk g)
   refine bodyPost_ret (v := .tuple #[.int .u64 0, .bool false]) (by simp [results, Tryz.results42, go_sem]) rfl ?_
   exact ⟨rfl, g.out⟩
end Bd
end Go.Proofs.YtdlcphinjnnhcaaGreatDoor


namespace Go.Proofs.YtdlcphinjnnhcaaGreatDoor
set_option maxRecDepth 100000
set_option maxHeartbeats 40000000
open Go.RowKit

theorem hasAll_any (h p : Int) (w : World) :
   Calls Tryz.prog 106 #[.int .u8 h, .int .u8 p] w fun x w' => x = .returned (.bool (hasB h p)) ∧ w = w' := by
 go_enter Tryz.func106, Tryz.ntmps106
 go_wp2
 go_ret
 exact ⟨rfl, rfl⟩
theorem capRight_any (b e c p s : Int) (w : World) :
   Calls Tryz.prog 99 #[.agg #[.int .u64 b, .int .u64 e, .int .u64 c, .int .u8 p, .int .i64 s]] w fun x w' => x = .returned (.bool (rightB b e p s)) ∧ w.alloc (.cells #[.int .u64 b, .int .u64 e, .int .u64 c, .int .u8 p, .int .i64 s] 49) = w' := by
 go_enter Tryz.func99, Tryz.ntmps99
 go_wp2_with (go_at_call 106; refine (hasAll_any _ _ _).mono ?_; rintro x w' ⟨rfl, rfl⟩)
 all_goals
   go_ret
   refine ⟨ret_bool ?_, rfl⟩
   first | (refine right_last ?_ ?_ ?_ ?_ <;> assumption) | (refine right_false ?_; rintro ⟨h1, h2, h3, h4, h5⟩; first | omega | contradiction)
theorem dataCap_any (b e c p s : Int) (w : World) :
   Calls Tryz.prog 83 #[.agg #[.int .u64 b, .int .u64 e, .int .u64 c, .int .u8 p, .int .i64 s]] w fun x w' => x = .returned (.bool (dataB b e p s)) ∧ Gr w w' := by
 unfold dataB
 generalize hr : rightB b e p s = r
 have hc := capRight_any b e c p s
 rw [hr] at hc
 clear hr
 cases r
 all_goals
   go_enter Tryz.func83, Tryz.ntmps83
   go_wp2_with (go_at_call 99; refine (hc _).mono ?_; rintro x w' ⟨rfl, rfl⟩)
   go_ret
   refine ⟨ret_bool (by simp), ?_⟩
   repeat (first | exact Gr.refl _ | refine Gr.alloc ?_ _)
theorem CapOf_any (t : PTyp) (c : Int) (w : World) :
   Calls Tryz.prog 98 #[.agg #[.bool t.cap, .int .u64 t.b, .int .u64 t.e, .int .u64 t.lo, .int .u64 t.hi, .int .u8 t.p, .int .i64 t.s], .int .u64 c] w fun x w' => x = .returned (.agg #[.int .u64 t.b, .int .u64 t.e, .int .u64 c, .int .u8 t.p, .int .i64 t.s]) ∧ Gr w w' := by
 go_enter Tryz.func98, Tryz.ntmps98
 go_wp2
 all_goals
   simp [bodyPost, results, Tryz.results98, go_sem]
   repeat (first | exact Gr.refl _ | refine Gr.alloc ?_ _)
theorem pointsWithin_any (t : PTyp) (c : Int) (w : World) :
   Calls Tryz.prog 82 #[.agg #[.bool t.cap, .int .u64 t.b, .int .u64 t.e, .int .u64 t.lo, .int .u64 t.hi, .int .u8 t.p, .int .i64 t.s], .int .u64 c] w fun x w' => x = .returned (.bool (inLH t.lo t.hi c)) ∧ Gr w w' := by
 go_enter Tryz.func82, Tryz.ntmps82
 go_wp2
 all_goals
   go_ret
   refine ⟨ret_bool (by unfold inLH; simp_all <;> omega), ?_⟩
   repeat (first | exact Gr.refl _ | refine Gr.alloc ?_ _)
theorem typeRight_any (t : PTyp) (w : World) :
   Calls Tryz.prog 81 #[.agg #[.bool t.cap, .int .u64 t.b, .int .u64 t.e, .int .u64 t.lo, .int .u64 t.hi, .int .u8 t.p, .int .i64 t.s]] w fun x w' => x = .returned (.bool t.right) ∧ Gr w w' := by
 have hc := CapOf_any t 0
 cases ht : t.cap with
 | false =>
   go_enter Tryz.func81, Tryz.ntmps81
   go_wp2
   all_goals
     go_ret
     refine ⟨ret_bool (by simp_all [PTyp.right]), ?_⟩
     (with_reducible repeat (first | exact Gr.refl _ | refine Gr.alloc ?_ _ | refine Gr.grow ?_ _ | refine Gr.drew ?_ | refine Gr.setCell ?_ _ _ _ (gr_size ?_)))
 | true =>
   rw [ht] at hc
   have hd := dataCap_any t.b t.e 0 t.p t.s
   have e : t.right = (dataB t.b t.e t.p t.s && decide (t.lo ≤ t.hi)) := by simp [PTyp.right, ht]
   rw [e]
   clear e ht
   generalize dataB t.b t.e t.p t.s = q at hd ⊢
   have L1 := grow_cell; have L2 := grow_frozen; have L3 := grow_set; have L4 := grow_lt; have L5 := glt1; have L6 := glt2; have L7 := glt3; have L8 := glt4; have L9 := glt5; have L10 := glt6; have L11 := lt1; have L12 := lt2; have L13 := lt3; have L14 := lt4; have L15 := lt5; have L16 := lt6; have L17 := lt7; have L18 := lt8
   cases q
   all_goals
     go_enter Tryz.func81, Tryz.ntmps81
     go_wp2_with (first | (go_at_call 98; refine (hc _).mono ?_; rintro x w' ⟨rfl, hG⟩; (repeat (replace hG := Gr.of_grow hG)); obtain ⟨l, rfl⟩ := hG) | (go_at_call 83; refine (hd _).mono ?_; rintro x w' ⟨rfl, hG⟩; (repeat (replace hG := Gr.of_grow hG)); obtain ⟨l, rfl⟩ := hG))
     go_ret
     refine ⟨ret_bool (by simp), ?_⟩
     (with_reducible repeat (first | exact Gr.refl _ | refine Gr.alloc ?_ _ | refine Gr.grow ?_ _ | refine Gr.drew ?_ | refine Gr.setCell ?_ _ _ _ (gr_size ?_)))
theorem targetThere_any (k : Ins) (code gates : Int) (w : World) (h0 : 0 ≤ k.op) (h1 : k.op < 256) :
   Calls Tryz.prog 85 #[.agg #[.int .u8 k.op, .int .i64 k.a, .int .i64 k.b, .int .i64 k.c, .int .i64 k.m], .int .i64 code, .int .i64 gates] w fun x w' => x = .returned (.bool (tgtB k.op k.m code gates)) ∧ Gr w w' := by
 go_enter Tryz.func85, Tryz.ntmps85
 go_wp2
 all_goals
   go_ret
   refine ⟨ret_bool (by unfold tgtB; simp_all <;> omega), ?_⟩
   (with_reducible repeat (first | exact Gr.refl _ | refine Gr.alloc ?_ _ | refine Gr.grow ?_ _ | refine Gr.drew ?_ | refine Gr.setCell ?_ _ _ _ (gr_size ?_)))
theorem placeRight_any (b n f : Int) (d : ByteArray) (a : Option Addr) (k c : Nat) (w : World) (hb : W64 b) (hn : W64 n) :
   Calls Tryz.prog 63 #[.agg #[.int .u64 b, .int .u64 n, .string d, .slice a k c], .int .u64 f] w fun x w' => x = .returned (.bool (placeB b n f)) ∧ Gr w w' := by
 obtain ⟨b0, b1⟩ := hb
 obtain ⟨n0, n1⟩ := hn
 have m1 : b.tmod 16 = b % 16 := Int.tmod_eq_emod_of_nonneg b0
 have m2 : n.tmod 16 = n % 16 := Int.tmod_eq_emod_of_nonneg n0
 by_cases h6 : b < 65536
 · have m3 : IntKind.u64.wrap (65536 - b) = 65536 - b := by rw [IntKind.wrap_u64]; omega
   go_enter Tryz.func63, Tryz.ntmps63
   go_wp2
   all_goals
     go_ret
     refine ⟨ret_bool (by unfold placeB; simp_all <;> first | rfl | omega), ?_⟩
     (with_reducible repeat (first | exact Gr.refl _ | refine Gr.alloc ?_ _ | refine Gr.grow ?_ _ | refine Gr.drew ?_ | refine Gr.setCell ?_ _ _ _ (gr_size ?_)))
 · go_enter Tryz.func63, Tryz.ntmps63
   go_wp2
   all_goals
     go_ret
     refine ⟨ret_bool (by unfold placeB; simp_all <;> first | rfl | omega), ?_⟩
     (with_reducible repeat (first | exact Gr.refl _ | refine Gr.alloc ?_ _ | refine Gr.grow ?_ _ | refine Gr.drew ?_ | refine Gr.setCell ?_ _ _ _ (gr_size ?_)))
theorem slotRight_any (k : PSlot) (w : World) :
   Calls Tryz.prog 65 #[.agg #[.bool k.t.cap, .int .u64 k.t.b, .int .u64 k.t.e, .int .u64 k.t.lo, .int .u64 k.t.hi, .int .u8 k.t.p, .int .i64 k.t.s, .int .u64 k.c]] w fun x w' => x = .returned (.bool k.right) ∧ Gr w w' := by
 have ht := typeRight_any k.t
 have hp := pointsWithin_any k.t k.c
 unfold PSlot.right
 generalize k.t.right = q1 at ht ⊢
 generalize inLH k.t.lo k.t.hi k.c = q2 at hp ⊢
 generalize k.t.cap = q0 at ht hp ⊢
 have L1 := grow_cell; have L2 := grow_frozen; have L3 := grow_set; have L4 := grow_lt; have L5 := glt1; have L6 := glt2; have L7 := glt3; have L8 := glt4; have L9 := glt5; have L10 := glt6; have L11 := lt1; have L12 := lt2; have L13 := lt3; have L14 := lt4; have L15 := lt5; have L16 := lt6; have L17 := lt7; have L18 := lt8
 cases q0
 · go_enter Tryz.func65, Tryz.ntmps65
   go_wp2
   go_ret
   refine ⟨ret_bool (by simp), ?_⟩
   (with_reducible repeat (first | exact Gr.refl _ | refine Gr.alloc ?_ _ | refine Gr.grow ?_ _ | refine Gr.drew ?_ | refine Gr.setCell ?_ _ _ _ (gr_size ?_)))
 · cases q1
   all_goals
     go_enter Tryz.func65, Tryz.ntmps65
     go_wp2_with (first | (go_at_call 81; refine (ht _).mono ?_; rintro x w' ⟨rfl, hG⟩; (repeat (replace hG := Gr.of_grow hG)); obtain ⟨l, rfl⟩ := hG) | (go_at_call 82; refine (hp _).mono ?_; rintro x w' ⟨rfl, hG⟩; (repeat (replace hG := Gr.of_grow hG)); obtain ⟨l, rfl⟩ := hG))
     go_ret
     refine ⟨ret_bool (by simp), ?_⟩
     (with_reducible repeat (first | exact Gr.refl _ | refine Gr.alloc ?_ _ | refine Gr.grow ?_ _ | refine Gr.drew ?_ | refine Gr.setCell ?_ _ _ _ (gr_size ?_)))
end Go.Proofs.YtdlcphinjnnhcaaGreatDoor
