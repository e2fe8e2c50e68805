import Derived.Test.YtiigpncfmakgjaaGreatDoorJMRdD
import Derived.Test.YtiigpncfmakgjaaGreatDoorJMClone
import Derived.Test.YtiigpncfmakgjaaGreatDoorJ20
namespace Go.Proofs.YtiigpncfmakgjaaGreatDoor
open Go.RowKit

end Go.Proofs.YtiigpncfmakgjaaGreatDoor


namespace Go.Proofs.YtiigpncfmakgjaaGreatDoor
open Go.RowKit

end Go.Proofs.YtiigpncfmakgjaaGreatDoor


namespace Go.Proofs.YtiigpncfmakgjaaGreatDoor
open Go.RowKit

def All2 {α β : Type} (E : α → β → Prop) : List α → List β → Prop
 | [], [] => True
 | a :: l, b :: m => E a b ∧ All2 E l m
 | [], _ :: _ => False
 | _ :: _, [] => False
theorem All2.imp {α β : Type} {E F : α → β → Prop} (h : ∀ a b, E a b → F a b) : ∀ {l : List α} {m : List β}, All2 E l m → All2 F l m
 | [], [], _ => trivial
 | _ :: _, _ :: _, ⟨h1, h2⟩ => ⟨h _ _ h1, All2.imp h h2⟩
theorem All2.snoc {α β : Type} {E : α → β → Prop} {a : α} {b : β} (h : E a b) : ∀ {l : List α} {m : List β}, All2 E l m → All2 E (l ++ [a]) (m ++ [b])
 | [], [], _ => ⟨h, trivial⟩
 | _ :: _, _ :: _, ⟨h1, h2⟩ => ⟨h1, All2.snoc h h2⟩
theorem All2.len {α β : Type} {E : α → β → Prop} : ∀ {l : List α} {m : List β}, All2 E l m → l.length = m.length
 | [], [], _ => rfl
 | _ :: _, _ :: _, ⟨_, h2⟩ => by simp [All2.len h2]
theorem All2.get {α β : Type} {E : α → β → Prop} : ∀ {l : List α} {m : List β}, All2 E l m → ∀ i (h : i < m.length), ∃ a, l[i]? = some a ∧ E a m[i]
 | [], [], _, i, h => by simp at h
 | a :: _, _ :: _, ⟨h1, _⟩, 0, _ => ⟨a, rfl, h1⟩
 | _ :: _, _ :: _, ⟨_, h2⟩, i + 1, h => by
   obtain ⟨a, e, q⟩ := All2.get h2 i (by simpa using h)
   exact ⟨a, by simpa using e, by simpa using q⟩
def TyNe (w : World) (row : Option Nat) (e : TypeId) : Prop := ∀ g, row = some g → ∃ cs t fr, w.heap[g]? = some (.cells cs t fr) ∧ t ≠ e
theorem own_ty {w w' : World} {base e size n : Nat} {v : Value} {xs : List Value} {row : Option Nat} (h : w.ownsRow base e size v n xs) (hg : w.grownBy w' row) (ht : TyNe w row e) : w'.ownsRow base e size v n xs := by
 refine own_grown h hg ?_
 intro g hv hr
 obtain ⟨cs, t, fr, hb, hne⟩ := ht g hr
 rcases h.2 with ⟨rfl, _⟩ | ⟨g', cap, cur, rfl, hbg, hh, _⟩
 · cases hv
 · obtain rfl : g' = g := by simpa [Value.ownBlock] using hv
   rw [hb] at hh
   simp at hh
   exact hne hh.2.1
theorem tyNe_box {w : World} {k : Nat} {cs : Array Value} {t e : TypeId} (h : Box w k cs t) (hne : t ≠ e) : TyNe w (some k) e := fun g hg => by
 cases hg; exact ⟨cs, t, _, h, hne⟩
theorem tyNe_own {w : World} {base e size n : Nat} {v : Value} {xs : List Value} {t : TypeId} (h : w.ownsRow base e size v n xs) (hne : e ≠ t) : TyNe w v.ownBlock t := fun g hg => by
 rcases h.2 with ⟨rfl, _⟩ | ⟨g', cap, cur, rfl, hbg, hh, _⟩
 · cases hg
 · obtain rfl : g' = g := by simpa [Value.ownBlock] using hg
   exact ⟨_, _, _, hh, hne⟩
theorem tyNe_none (w : World) (e : TypeId) : TyNe w none e := fun g hg => by cases hg
def RegC (lo : Nat) (w : World) (cs : List Value) (r : PReg) : Prop := ∃ sa sc, cs = [.int .u64 r.b, .int .u64 r.n, .string (str r.data), .slice sa r.slots.length sc] ∧ w.ownsRow lo 126 8 (.slice sa r.slots.length sc) r.slots.length (r.slots.flatMap PSlot.vals)
def CompC (lo : Nat) (w : World) (cs : List Value) (c : PComp) : Prop := ∃ ra rc ka kc, cs = [.slice ra c.roots.length rc, .slice ka c.code.length kc] ∧ w.ownsRow lo 96 6 (.slice ra c.roots.length rc) c.roots.length (c.roots.flatMap PRoot.vals) ∧ LOwn w lo (.slice ka c.code.length kc) c.code
def GateC (lo : Nat) (w : World) (cs : List Value) (g : PGate) : Prop := ∃ xa xc ya yc, cs = [.int .i64 g.c, .int .i64 g.e, .slice xa g.args.length xc, .slice ya g.res.length yc] ∧ w.ownsRow lo 103 7 (.slice xa g.args.length xc) g.args.length (g.args.flatMap PTyp.vals) ∧ w.ownsRow lo 103 7 (.slice ya g.res.length yc) g.res.length (g.res.flatMap PTyp.vals)
def TyNes (w : World) (row : Option Nat) : Prop := TyNe w row 126 ∧ TyNe w row 96 ∧ TyNe w row 64 ∧ TyNe w row 103
theorem RegC.step {lo : Nat} {w w' : World} {row : Option Nat} {cs : List Value} {r : PReg} (hg : w.grownBy w' row) (ht : TyNes w row) (h : RegC lo w cs r) : RegC lo w' cs r := by
 obtain ⟨sa, sc, e, h1⟩ := h
 exact ⟨sa, sc, e, own_ty h1 hg ht.1⟩
theorem CompC.step {lo : Nat} {w w' : World} {row : Option Nat} {cs : List Value} {r : PComp} (hg : w.grownBy w' row) (ht : TyNes w row) (h : CompC lo w cs r) : CompC lo w' cs r := by
 obtain ⟨ra, rc, ka, kc, e, h1, h2⟩ := h
 exact ⟨ra, rc, ka, kc, e, own_ty h1 hg ht.2.1, own_ty h2 hg ht.2.2.1⟩
theorem GateC.step {lo : Nat} {w w' : World} {row : Option Nat} {cs : List Value} {r : PGate} (hg : w.grownBy w' row) (ht : TyNes w row) (h : GateC lo w cs r) : GateC lo w' cs r := by
 obtain ⟨xa, xc, ya, yc, e, h1, h2⟩ := h
 exact ⟨xa, xc, ya, yc, e, own_ty h1 hg ht.2.2.2, own_ty h2 hg ht.2.2.2⟩
theorem nes_box {w : World} {k : Nat} {cs : Array Value} {t : TypeId} (h : Box w k cs t) (h1 : t ≠ 126) (h2 : t ≠ 96) (h3 : t ≠ 64) (h4 : t ≠ 103) : TyNes w (some k) := ⟨tyNe_box h h1, tyNe_box h h2, tyNe_box h h3, tyNe_box h h4⟩
theorem nes_own {w : World} {base e size n : Nat} {v : Value} {xs : List Value} (h : w.ownsRow base e size v n xs) (h1 : e ≠ 126) (h2 : e ≠ 96) (h3 : e ≠ 64) (h4 : e ≠ 103) : TyNes w v.ownBlock := ⟨tyNe_own h h1, tyNe_own h h2, tyNe_own h h3, tyNe_own h h4⟩
theorem nes_none (w : World) : TyNes w none := ⟨tyNe_none w _, tyNe_none w _, tyNe_none w _, tyNe_none w _⟩
theorem infoRegion : (Tryz.prog.info? 94).map (fun i => (i.zero, i.size, i.bytes)) = some (some (.agg #[.int .u64 0, .int .u64 0, .string ⟨#[]⟩, .slice none 0 0]), 4, 56) := by kernel_rfl
theorem flat_snoc2 (css : List (List Value)) (cs : List Value) : (css ++ [cs]).flatten = css.flatten ++ cs := by simp
end Go.Proofs.YtiigpncfmakgjaaGreatDoor


namespace Go.Proofs.YtiigpncfmakgjaaGreatDoor
open Go.RowKit

end Go.Proofs.YtiigpncfmakgjaaGreatDoor
