import Derived.Test.YtohjebjlpmacdaaGreatDoorS44
import Derived.Test.YtohjebjlpmacdaaGreatDoorS42
import Derived.Laws.StructEq
namespace Go.Proofs.YtohjebjlpmacdaaGreatDoor
set_option maxRecDepth 100000
set_option maxHeartbeats 40000000
namespace C
open Go.RowKit
open T (Sep Ob Kp Mf TgIn boxOb Fm Tc Ed Vl Cp Bx tgOb mRow updV flt ofI wordB granB ldE lcE)

section
variable {P : PImg} {n : Nat} {s s' : Ms} {e : Ed}
def TcIn (t : Tc) : Prop := t.addr + t.size ≤ 65536 ∧ (t.size = 1 ∨ t.size = 8 ∨ (t.size = 16 ∧ t.addr % 16 = 0))
structure OnOk (s s' : Ms) : Prop where
 out : s'.out = s.out ∨ ∃ x, s'.out = s.out ++ [x]
 tou : (s'.tou = s.tou ∧ s'.b = s.b) ∨ ∃ t, s'.tou = s.tou ++ [t] ∧ TcIn t
theorem on_as (h1 : s'.out = s.out) (h2 : s'.tou = s.tou) (h3 : s'.b = s.b) : OnOk s s' := ⟨.inl h1, .inl ⟨h2, h3⟩⟩
theorem on_tc (t : Tc) (ht : TcIn t) (h1 : s'.out = s.out) (h2 : s'.tou = s.tou ++ [t]) : OnOk s s' := ⟨.inl h1, .inr ⟨t, h2, ht⟩⟩
theorem tc_word {b : Bool} {a z : Nat} (h : ldE a z = 0) : TcIn ⟨b, a, z⟩ := by
 unfold ldE at h
 split at h
 · rename_i q
   simp only [wordB, Bool.and_eq_true, Bool.or_eq_true, decide_eq_true_eq] at q
   unfold TcIn
   simp only
   omega
 · cases h
theorem tc_gran {b : Bool} {a : Nat} (h : lcE a = 0) : TcIn ⟨b, a, 16⟩ := by
 unfold lcE at h
 split at h
 · rename_i q
   simp only [granB, Bool.and_eq_true, decide_eq_true_eq] at q
   exact ⟨show a + 16 ≤ 65536 by omega, .inr (.inr ⟨rfl, q.1⟩)⟩
 · cases h
theorem step_on (h : stepM P s = .ok s') : OnOk s s' := by
 unfold stepM at h
 split at h
 · cases h
 rename_i i hi
 unfold insM at h
 split at h
 · obtain ⟨v, _, rfl⟩ := lay_ok h; exact on_as rfl rfl rfl
 split at h
 · unfold strM at h
   split at h
   · injection h with h; subst h; exact on_as rfl rfl rfl
   split at h
   · unfold braM at h
     split at h
     · cases h
     · split at h
       · cases h
       · injection h with h; subst h; split <;> exact on_as rfl rfl rfl
   split at h
   · injection h with h; subst h; exact on_as rfl rfl rfl
   split at h
   · unfold goR at h
     split at h
     · injection h with h; subst h; exact on_as rfl rfl rfl
     · cases h
   split at h
   · unfold haltM at h
     split at h <;> cases h
   split at h
   · cases h
   split at h
   · unfold inM at h
     split at h
     · cases h
     · injection h with h; subst h; exact on_as rfl rfl rfl
   split at h
   · unfold outM at h
     split at h
     · cases h
     · injection h with h; subst h; exact ⟨.inr ⟨_, rfl⟩, .inl ⟨rfl, rfl⟩⟩
   split at h
   · unfold callM at h
     split at h
     · split at h
       · cases h
       · injection h with h; subst h; exact on_as rfl rfl rfl
     · cases h
   · unfold retM at h
     split at h
     · split at h
       · cases h
       · injection h with h; subst h; exact on_as rfl rfl rfl
     · cases h
 split at h
 · obtain ⟨v, _, rfl⟩ := lay_ok h; exact on_as rfl rfl rfl
 split at h
 · obtain ⟨v, _, rfl⟩ := lay_ok h; exact on_as rfl rfl rfl
 split at h
 · have l1 : ∀ sz, loadM s i.a.toNat i.b.toNat i.m sz = .ok s' → OnOk s s' := fun sz h => by
     unfold loadM at h
     split at h
     · cases h
     · split at h
       · rename_i q; injection h with h; subst h; exact on_tc _ (tc_word q) rfl rfl
       · cases h
   have l2 : ∀ sz, storeM s i.a.toNat i.b.toNat i.m sz = .ok s' → OnOk s s' := fun sz h => by
     unfold storeM at h
     split at h
     · cases h
     · split at h
       · cases h
       · split at h
         · rename_i q; injection h with h; subst h; exact on_tc _ (tc_word q) rfl rfl
         · cases h
   unfold touM at h
   split at h
   · exact l1 _ h
   split at h
   · exact l1 _ h
   split at h
   · exact l2 _ h
   split at h
   · exact l2 _ h
   split at h
   · unfold ldcM at h
     split at h
     · cases h
     · split at h
       · rename_i q; injection h with h; subst h; exact on_tc _ (tc_gran q) rfl rfl
       · cases h
   · unfold stcM at h
     split at h
     · cases h
     · split at h
       · rename_i q; injection h with h; subst h; exact on_tc _ (tc_gran q) rfl rfl
       · cases h
 · unfold grdR at h
   split at h
   · cases h
   · injection h with h; subst h; exact on_as rfl rfl rfl
   · cases h
end
theorem bytes_any (S : Nat → Prop) (km : Nat) (b : Nat → UInt8) (t : Nat → Option Cp) (w : World) (h : TgIn S w km b t) (R : ByteArray) (hR : (⟨(T.rowB b 0 65536).toArray⟩ : ByteArray) = R) :
   Calls Tryz.prog 18 #[.pointer (some ⟨km, 0, none⟩)] w fun x w' => x = .returned (.string R) ∧ Bl w w' := by
 subst hR
 exact T.tgBytes_any S km b t w h
theorem memory_any (B : Nat) (a : Nat) (P : PImg) (s : Ms) (l : List Ob) (w : World) (h : MIn B w a P s l) :
   Calls Tryz.prog 17 #[.pointer (some ⟨a, 0, none⟩)] w fun x w' => ∃ km SM, x = .returned (.pointer (some ⟨km, 0, none⟩)) ∧ TgIn SM w' km s.b s.t ∧ Bl w w' := by
 have hlt := h.alt
 obtain ⟨km, SM, hc, ht, _⟩ := h.mem
 replace ht := Hz.mk ht
 clear h
 go_enter Tryz.func17, Tryz.ntmps17
 go_wp2_with fail
 go_ret
 exact ⟨km, SM, rfl, ht.out, Bl.refl _⟩
end C
end Go.Proofs.YtohjebjlpmacdaaGreatDoor


namespace Go.Proofs.YtohjebjlpmacdaaGreatDoor
namespace C
open Go.RowKit
open T (Sep Ob Kp Mf TgIn boxOb Fm Tc Ed Vl Cp Bx tgOb mRow)

section
variable {B B' : Nat} {W W' : World} {a b : Nat} {P P' : PImg} {s s' t : Ms} {l : List Ob} {q : Pt}
end
def WIn (w : World) (a : Option Addr) (L : List Int) : Prop := ∀ i (h : i < L.length), ∃ b off : Nat, a = some ⟨b, off, none⟩ ∧ b < w.heap.size ∧ w.cell? ⟨b, off + i, none⟩ = some (.int .u64 L[i])
theorem eat3 {w W : World} {a : Option Addr} {L : List Tc} (h : T.EIn 3 Tc.row w a L) (g : Bl w W) (j : Nat) (hj : j < L.length) : ∃ b off : Nat, a = some ⟨b, off, none⟩ ∧ b < W.heap.size ∧ W.rangeAt b (off + j * 3) L[j].row := by
 obtain ⟨b, off, e1, e2, e3⟩ := h j hj
 exact ⟨b, off, e1, Nat.lt_of_lt_of_le e2 g.size, fun i v q => (T.cell_of_block (g.block b e2) _).trans (e3 i v q)⟩
theorem own_cells {w : World} {lo e k n : Nat} {v : Value} {xs : List Value} (h : w.ownsRow lo e k v n xs) (h0 : 0 < n) : ∃ g cap, v = .slice (some ⟨g, 0, none⟩) n cap ∧ g < w.heap.size ∧ ∀ j u, xs[j]? = some u → w.cell? ⟨g, j, none⟩ = some u := by
 have hlt := h.lt
 rcases h.2 with ⟨_, h9⟩ | ⟨g, cap, cur, rfl, hb, hg, hc1, hc2, hc3, hc4⟩
 · omega
 · refine ⟨g, cap, rfl, (hlt g rfl).2, fun j u q => ?_⟩
   have hj : j < n * k := by have := (List.getElem?_eq_some_iff.1 q).1; rwa [h.1] at this
   rw [← hc4, List.getElem?_take_of_lt hj] at q
   have : w.cell? ⟨g, j, none⟩ = cur[j]? := by simp [World.cell?, hg]
   rw [this, ← q]
   simp
theorem own_win {w : World} {lo n : Nat} {v : Value} {L : List Int} (h : w.ownsRow lo 23 1 v n (L.map u64I)) (hn : n = L.length) : ∃ a c, v = .slice a L.length c ∧ WIn w a L := by
 obtain ⟨a, c, e⟩ := own_slZ h
 subst hn
 refine ⟨a, c, e, fun i hi => ?_⟩
 obtain ⟨g, cap, e2, hg, hc⟩ := own_cells h (by omega)
 rw [e] at e2
 injection e2 with e3
 refine ⟨g, 0, e3, hg, ?_⟩
 rw [Nat.zero_add]
 refine hc i _ ?_
 simp [u64I, hi]
theorem own_tin {w : World} {lo n : Nat} {v : Value} {L : List Tc} (h : w.ownsRow lo 78 3 v n (L.flatMap Tc.row)) (hn : n = L.length) : ∃ a c, v = .slice a L.length c ∧ T.EIn 3 Tc.row w a L := by
 obtain ⟨a, c, e⟩ := own_slZ h
 subst hn
 refine ⟨a, c, e, fun i hi => ?_⟩
 obtain ⟨g, cap, e2, hg, hc⟩ := own_cells h (by omega)
 rw [e] at e2
 injection e2 with e3
 refine ⟨g, 0, e3, hg, fun j u hj => ?_⟩
 rw [Nat.zero_add]
 refine hc _ _ ?_
 have hj3 : j < 3 := by
   have := (List.getElem?_eq_some_iff.1 hj).1
   exact this
 rw [flat_at' (k := 3) (fun _ => rfl) L i hi j hj3]
 exact hj
theorem outs_any (B : Nat) (W : World) (a : Nat) (P : PImg) (s : Ms) (l : List Ob) (h : MIn B W a P s l) (hl : s.out.length ≤ 1000000) :
   Calls Tryz.prog 16 #[.pointer (some ⟨a, 0, none⟩)] W fun x w' => ∃ va c, x = .returned (.slice va s.out.length c) ∧ WIn w' va s.out ∧ Bl W w' := by
 refine (out_any B a P s l W h hl).mono ?_
 rintro x w' ⟨v, rfl, h1, h2⟩
 obtain ⟨va, c, rfl, h3⟩ := own_win h1 rfl
 exact ⟨va, c, rfl, h3, h2⟩
theorem tcs_any (B : Nat) (W : World) (a : Nat) (P : PImg) (s : Ms) (l : List Ob) (h : MIn B W a P s l) (hl : s.tou.length ≤ 1000000) :
   Calls Tryz.prog 10 #[.pointer (some ⟨a, 0, none⟩)] W fun x w' => ∃ va c, x = .returned (.slice va s.tou.length c) ∧ T.EIn 3 Tc.row w' va s.tou ∧ Bl W w' := by
 refine (tou_any B a P s l W h hl).mono ?_
 rintro x w' ⟨v, rfl, h1, h2⟩
 obtain ⟨va, c, rfl, h3⟩ := own_tin h1 rfl
 exact ⟨va, c, rfl, h3, h2⟩
end C
end Go.Proofs.YtohjebjlpmacdaaGreatDoor


namespace Go.Proofs.YtohjebjlpmacdaaGreatDoor
set_option maxRecDepth 100000
set_option maxHeartbeats 40000000
namespace C
open Go.RowKit
open T (Sep Ob Kp Mf TgIn boxOb Fm Tc Ed Vl Cp Bx tgOb mRow regRow regRow_at regRow_len Vl.row_len)

theorem reg_ext (r : Nat → Vl) (i : Nat) (hi : i < 16) : List.take 7 (List.drop (i * 7) (regRow r 16)) = (r i).row := by
 refine List.ext_getElem? fun j => ?_
 by_cases hj : j < 7
 · rw [List.getElem?_take_of_lt hj, List.getElem?_drop, regRow_at r 16 _ (by omega), show (i * 7 + j) / 7 = i by omega, show (i * 7 + j) % 7 = j by omega]
 · rw [List.getElem?_take_eq_none (by omega), List.getElem?_eq_none (by rw [Vl.row_len]; omega)]
theorem part_v (r : Nat → Vl) (i : Nat) (hi : i < 16) (W : World) : (part 56 (regRow r 16).toArray (i * 7)).run Tryz.prog W = .ok (.agg (r i).row.toArray) W := by
 have h := reg_ext r i hi
 unfold part
 simp [go_sem]
 exact h
theorem val_in (d : Nat) (v : Vl) (W : World) : (Op.equalIn (d + 6) 56 (.agg v.row.toArray) (.agg v.row.toArray)).run Tryz.prog W = .ok true W := by
 obtain ⟨g, n, b, e, c, p, s⟩ := v
 simp [go_sem, Vl.row]
theorem items_v (d : Nat) (r : Nat → Vl) (W : World) : ∀ is : List Nat, (∀ i ∈ is, i < 16) → (Op.eqItems (d + 6) 56 7 (regRow r 16).toArray (regRow r 16).toArray is).run Tryz.prog W = .ok true W
 | [], _ => by simp [Op.eqItems]
 | i :: is, h => by
   have hi := h i (List.mem_cons_self ..)
   simp only [Op.eqItems, Sem.run_bind, part_v r i hi, Result.andThen_ok, val_in d (r i) W]
   simpa using items_v d r W is (fun j hj => h j (List.mem_cons_of_mem _ hj))
theorem arr_in (dd : Nat) (r : Nat → Vl) (W : World) : (Op.equalIn (dd + 7) 57 (.agg (regRow r 16).toArray) (.agg (regRow r 16).toArray)).run Tryz.prog W = .ok true W := by
 have hi := items_v dd r W (List.range 16) (fun i hi => by simpa using hi)
 have ha := run_equalIn_array (P := Tryz.prog) W (dd + 6) (regRow r 16).toArray (regRow r 16).toArray Tryz.underlying57 (e := 56) rfl
 rw [show Tryz.prog.cellsOf 56 = 7 by kernel_rfl, hi] at ha
 exact ha
theorem sn_in (dd : Nat) (s : Ms) (W : World) : (Op.equalIn (dd + 8) 59 (.agg (snR s).toArray) (.agg (snR s).toArray)).run Tryz.prog W = .ok true W := by
 have ha := arr_in dd s.at_.regs W
 have hl := regRow_len s.at_.regs 16
 unfold snR
 generalize regRow s.at_.regs 16 = R at *
 have ht : R.take 112 = R := List.take_of_length_le (by omega)
 simp [go_sem, ha, ht]
theorem sn_eql (s : Ms) (W : World) : (binOp .eql 59 (.agg (snR s).toArray) (.agg (snR s).toArray)).run Tryz.prog W = .ok (.bool true) W := by
 rw [run_eql_struct, sn_in 9992 s W]
 rfl
end C
end Go.Proofs.YtohjebjlpmacdaaGreatDoor


namespace Go.Proofs.YtohjebjlpmacdaaGreatDoor
namespace C
open Go.RowKit
open T (Sep Ob Kp Mf TgIn boxOb Fm Tc Ed Vl Cp Bx tgOb mRow updV flt)

theorem run_alloc_sn (W : World) : (Instr.alloc 59 true (.tuple #[])).run Tryz.prog W = .ok (.pointer (some ⟨W.heap.size, 0, none⟩)) (W.alloc (.cells (snR zS).toArray 59)) := by
 have : (Instr.alloc 59 true (.tuple #[])).run Tryz.prog W = .ok (.pointer (some ⟨W.heap.size, 0, none⟩)) (W.alloc (.cells Tryz.zeroCells59 59)) := by kernel_rfl
 rw [this, show Tryz.zeroCells59 = (snR zS).toArray by rw [← zero_sn]]
theorem wp_alloc_sn {o : Oper} {a : Act} {K : Act → World → Prop} {Q : Exit → Act → World → Prop} {w : World} (ho : o.op = .alloc 59) (h : K (a.put o.dst (.pointer (some ⟨w.heap.size, 0, none⟩))) (w.alloc (.cells (snR zS).toArray 59))) : o.wp Tryz.prog a w K Q := by
 unfold Oper.wp execOp
 simp only [ho, run_alloc_sn, Sem.run_bind, Sem.run_pure, Result.andThen_ok]
 exact h
end C
end Go.Proofs.YtohjebjlpmacdaaGreatDoor
