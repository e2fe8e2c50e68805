import Derived.WalkKit
import Derived.KernelRfl
import Derived.Below
import Derived.OrdersHeld
import Derived.Deep.RegionHeld3
namespace Go.Proofs.YtdlcphinjnnhcaaGreatDoor
open Go.RowKit

def nameL : List (List UInt8) := [[], [108, 105], [109, 111, 118], [97, 100, 100], [115, 117, 98], [109, 117, 108], [97, 110, 100], [111, 114], [120, 111, 114], [115, 104, 108], [115, 104, 114], [97, 100, 100, 105], [115, 108, 116], [115, 101, 113], [], [], [], [], [], [], [106, 109, 112], [98, 101, 113], [98, 110, 101], [98, 108, 116], [98, 103, 101], [99, 112, 99], [106, 99], [104, 97, 108, 116], [116, 114, 97, 112], [105, 110], [111, 117, 116], [99, 97, 108, 108], [114, 101, 116], [], [], [], [], [], [], [], [99, 105, 110, 99], [99, 105, 110, 99, 105], [99, 115, 101, 116, 98], [99, 115, 101, 116, 98, 105], [99, 97, 110, 100, 112], [99, 115, 101, 97, 108], [99, 117, 110, 115, 101, 97, 108], [], [], [], [99, 97, 100, 100, 114], [99, 98, 97, 115, 101], [99, 101, 110, 100], [99, 112, 101, 114, 109], [99, 115, 101, 97, 108, 101, 100], [99, 116, 97, 103], [99, 115, 97, 109, 101], [], [], [], [108, 98], [108, 119], [115, 98], [115, 119], [108, 99], [115, 99], [], [], [], [], [103, 108, 116], [103, 103, 101], [103, 116, 97, 103], [103, 105, 110], [103, 112, 101, 114, 109], [103, 115, 101, 97, 108]]
def shapeL : List (List UInt8) := [[], [114, 105], [114, 114], [114, 114, 114], [114, 114, 114], [114, 114, 114], [114, 114, 114], [114, 114, 114], [114, 114, 114], [114, 114, 114], [114, 114, 114], [114, 114, 105], [114, 114, 114], [114, 114, 114], [], [], [], [], [], [], [116], [114, 114, 116], [114, 114, 116], [114, 114, 116], [114, 114, 116], [114, 116], [114], [114], [99], [114], [114], [103], [], [], [], [], [], [], [], [], [114, 114, 114], [114, 114, 105], [114, 114, 114], [114, 114, 110], [114, 114, 112], [114, 114, 114], [114, 114, 114], [], [], [], [114, 114], [114, 114], [114, 114], [114, 114], [114, 114], [114, 114], [114, 114, 114], [], [], [], [114, 114, 105], [114, 114, 105], [114, 114, 105], [114, 114, 105], [114, 114, 105], [114, 114, 105], [], [], [], [], [114, 105, 99], [114, 105, 99], [114, 99], [114, 110, 99], [114, 112, 99], [114, 115, 99]]
def docL : List (Int × List UInt8 × List UInt8) := [
 (1, [108, 105], [114, 105]),
 (2, [109, 111, 118], [114, 114]),
 (3, [97, 100, 100], [114, 114, 114]),
 (4, [115, 117, 98], [114, 114, 114]),
 (5, [109, 117, 108], [114, 114, 114]),
 (6, [97, 110, 100], [114, 114, 114]),
 (7, [111, 114], [114, 114, 114]),
 (8, [120, 111, 114], [114, 114, 114]),
 (9, [115, 104, 108], [114, 114, 114]),
 (10, [115, 104, 114], [114, 114, 114]),
 (11, [97, 100, 100, 105], [114, 114, 105]),
 (12, [115, 108, 116], [114, 114, 114]),
 (13, [115, 101, 113], [114, 114, 114]),
 (20, [106, 109, 112], [116]),
 (21, [98, 101, 113], [114, 114, 116]),
 (22, [98, 110, 101], [114, 114, 116]),
 (23, [98, 108, 116], [114, 114, 116]),
 (24, [98, 103, 101], [114, 114, 116]),
 (25, [99, 112, 99], [114, 116]),
 (26, [106, 99], [114]),
 (27, [104, 97, 108, 116], [114]),
 (28, [116, 114, 97, 112], [99]),
 (29, [105, 110], [114]),
 (30, [111, 117, 116], [114]),
 (31, [99, 97, 108, 108], [103]),
 (32, [114, 101, 116], []),
 (40, [99, 105, 110, 99], [114, 114, 114]),
 (41, [99, 105, 110, 99, 105], [114, 114, 105]),
 (42, [99, 115, 101, 116, 98], [114, 114, 114]),
 (43, [99, 115, 101, 116, 98, 105], [114, 114, 110]),
 (44, [99, 97, 110, 100, 112], [114, 114, 112]),
 (45, [99, 115, 101, 97, 108], [114, 114, 114]),
 (46, [99, 117, 110, 115, 101, 97, 108], [114, 114, 114]),
 (50, [99, 97, 100, 100, 114], [114, 114]),
 (51, [99, 98, 97, 115, 101], [114, 114]),
 (52, [99, 101, 110, 100], [114, 114]),
 (53, [99, 112, 101, 114, 109], [114, 114]),
 (54, [99, 115, 101, 97, 108, 101, 100], [114, 114]),
 (55, [99, 116, 97, 103], [114, 114]),
 (56, [99, 115, 97, 109, 101], [114, 114, 114]),
 (60, [108, 98], [114, 114, 105]),
 (61, [108, 119], [114, 114, 105]),
 (62, [115, 98], [114, 114, 105]),
 (63, [115, 119], [114, 114, 105]),
 (64, [108, 99], [114, 114, 105]),
 (65, [115, 99], [114, 114, 105]),
 (70, [103, 108, 116], [114, 105, 99]),
 (71, [103, 103, 101], [114, 105, 99]),
 (72, [103, 116, 97, 103], [114, 99]),
 (73, [103, 105, 110], [114, 110, 99]),
 (74, [103, 112, 101, 114, 109], [114, 112, 99]),
 (75, [103, 115, 101, 97, 108], [114, 115, 99])]
def str (l : List UInt8) : ByteArray := ByteArray.mk l.toArray
def nameOf (op : Int) : List UInt8 := nameL.getD op.toNat []
def shapeOf (op : Int) : List UInt8 := shapeL.getD op.toNat []
def findAt (op : Int) : List (Int × List UInt8 × List UInt8) → Nat → Int
 | [], _ => -1
 | r :: l, k => if r.1 = op then k else findAt op l (k + 1)
def findF (op : Int) : Int := findAt op docL 0
def docRow (k : Int) : Int × List UInt8 × List UInt8 := docL.getD k.toNat (0, [], [])
def docShape (op : Int) : List UInt8 := if findF op < 0 then [] else (docRow (findF op)).2.2
theorem docL_len : docL.length = 52 := by kernel_rfl
theorem nameL_len : nameL.length = 76 := by kernel_rfl
theorem shapeL_len : shapeL.length = 76 := by kernel_rfl
theorem all_bytes (f : Nat → Bool) (h : (List.range 256).all f = true) (n : Int) (h1 : n < 256) : f n.toNat = true := by
 rw [List.all_eq_true] at h
 exact h n.toNat (by simp; omega)
theorem shape_doc (op : Int) (h0 : 0 ≤ op) (h1 : op < 256) : docShape op = shapeOf op := by
 have := all_bytes (fun n => decide (docShape n = shapeOf n)) (by kernel_rfl) op h1
 simpa [Int.toNat_of_nonneg h0] using this
theorem none_doc (op : Int) (h0 : 0 ≤ op) (h1 : op < 256) : decide (findF op < 0) = decide (nameOf op = []) := by
 have := all_bytes (fun n => decide (findF n < 0) == decide (nameOf n = [])) (by kernel_rfl) op h1
 simpa [Int.toNat_of_nonneg h0] using this
end Go.Proofs.YtdlcphinjnnhcaaGreatDoor


namespace Go.Proofs.YtdlcphinjnnhcaaGreatDoor
open Go.RowKit

def loE (op l : Int) : Int := if l = 105 ∧ op ≠ 70 ∧ op ≠ 71 then -2147483648 else 0
def hiE (l : Int) : Int := if l = 114 then 15 else if l = 110 then 65536 else if l = 112 then 127 else if l = 115 then 15 else if l = 99 then 255 else 2147483647
def inE (op l n : Int) : Bool := decide (loE op l ≤ n) && decide (n ≤ hiE l)
def fR (op : Int) : List UInt8 → Int → Int → Int → Int → Int → Bool
 | [], _, a, b, c, m => decide (a = 0) && decide (b = 0) && decide (c = 0) && decide (m = 0)
 | l :: r, n, a, b, c, m =>
   if (l.toNat : Int) = 114 then
     (if n = 0 then inE op l.toNat a && fR op r (n + 1) 0 b c m
     else if n = 1 then inE op l.toNat b && fR op r (n + 1) a 0 c m
     else inE op l.toNat c && fR op r (n + 1) a b 0 m)
   else if (l.toNat : Int) = 99 ∧ op ≠ 28 then inE op l.toNat c && fR op r n a b 0 m
   else inE op l.toNat m && fR op r n a b c 0
def regAt (n a b c : Int) : Int := if n = 0 then a else if n = 1 then b else c
def oneD (op l n a b c m : Int) : Bool :=
 if l = 114 then decide (0 ≤ regAt n a b c) && decide (regAt n a b c ≤ 15)
 else if l = 105 then (if op = 70 ∨ op = 71 then decide (0 ≤ m) && decide (m ≤ 2147483647) else decide (-2147483648 ≤ m) && decide (m ≤ 2147483647))
 else if l = 110 then decide (0 ≤ m) && decide (m ≤ 65536)
 else if l = 112 then decide (0 ≤ m) && decide (m ≤ 127)
 else if l = 115 then decide (0 ≤ m) && decide (m ≤ 15)
 else if l = 116 ∨ l = 103 then decide (0 ≤ m) && decide (m ≤ 2147483647)
 else if l = 99 then (if op = 28 then decide (0 ≤ m) && decide (m ≤ 255) else decide (0 ≤ c) && decide (c ≤ 255))
 else true
def immD (op l : Int) : Bool := decide (l = 105) || decide (l = 110) || decide (l = 112) || decide (l = 115) || decide (l = 116) || decide (l = 103) || decide (l = 99 ∧ op = 28)
def codeD (op l : Int) : Bool := decide (l = 99 ∧ op ≠ 28)
def tailD (n a b c : Int) (code ok : Bool) : Bool :=
 ok && (decide (0 < n) || decide (a = 0)) && (decide (1 < n) || decide (b = 0)) && (decide (2 < n) || decide (c = 0) || code)
def rR (op a b c m : Int) : List UInt8 → Int → Bool → Bool → Bool → Bool
 | [], n, imm, code, ok => tailD n a b c code ok && (imm || decide (m = 0))
 | l :: r, n, imm, code, ok =>
   rR op a b c m r (if (l.toNat : Int) = 114 then n + 1 else n) (imm || immD op l.toNat) (code || codeD op l.toNat) (ok && oneD op l.toNat n a b c m)
def errOf (b : Bool) : Int := if b = true then 0 else 32
def rightF (op a b c m : Int) : Int := if nameOf op = [] then 31 else errOf (fR op (shapeOf op) 0 a b c m)
def rightD (op a b c m : Int) : Int := if findF op < 0 then 31 else errOf (rR op a b c m (docRow (findF op)).2.2 0 false false true)
def shapes : List (List UInt8) := [[], [114, 105], [114, 114], [114, 114, 114], [114, 114, 105], [116], [114, 114, 116], [114, 116], [114], [99], [103], [114, 114, 110], [114, 114, 112], [114, 105, 99], [114, 99], [114, 110, 99], [114, 112, 99], [114, 115, 99]]
theorem shape_in (op : Int) (h1 : op < 256) : shapeOf op ∈ shapes := by
 have := all_bytes (fun n => decide (shapeOf n ∈ shapes)) (by kernel_rfl) op h1
 rcases Int.lt_or_le op 0 with h | h
 · have e : op.toNat = 0 := by omega
   have : shapeOf op = [] := by unfold shapeOf; rw [e]; rfl
   rw [this]; decide
 · simpa [Int.toNat_of_nonneg h] using this
theorem two (op a b c m : Int) (s : List UInt8) (hs : s ∈ shapes) (ht : op = 28 → s = [99]) : fR op s 0 a b c m = rR op a b c m s 0 false false true := by
 by_cases h28 : op = 28
 · obtain rfl := ht h28
   subst h28
   rw [Bool.eq_iff_iff]; simp [fR, rR, inE, loE, hiE, oneD, immD, codeD, tailD]; omega
 · clear ht
   simp only [shapes, List.mem_cons, List.not_mem_nil, or_false] at hs
   by_cases h70 : op = 70 ∨ op = 71
   · have e : ¬ (op ≠ 70 ∧ op ≠ 71) := by omega
     rcases hs with rfl | rfl | rfl | rfl | rfl | rfl | rfl | rfl | rfl | rfl | rfl | rfl | rfl | rfl | rfl | rfl | rfl | rfl <;>
       (rw [Bool.eq_iff_iff]; simp [fR, rR, inE, loE, hiE, regAt, oneD, immD, codeD, tailD, h28, h70, e]) <;> omega
   · have e : ¬ op = 70 ∧ ¬ op = 71 := by omega
     rcases hs with rfl | rfl | rfl | rfl | rfl | rfl | rfl | rfl | rfl | rfl | rfl | rfl | rfl | rfl | rfl | rfl | rfl | rfl <;>
       (rw [Bool.eq_iff_iff]; simp [fR, rR, inE, loE, hiE, regAt, oneD, immD, codeD, tailD, h28, e]) <;> omega
theorem right_doc (op a b c m : Int) (h0 : 0 ≤ op) (h1 : op < 256) : rightD op a b c m = rightF op a b c m := by
 have h := none_doc op h0 h1
 have hs := shape_doc op h0 h1
 unfold rightD rightF
 by_cases hn : findF op < 0
 · rw [if_pos hn, if_pos (by simpa [hn] using h)]
 · have hm : ¬ nameOf op = [] := by simpa [hn] using h
   rw [if_neg hn, if_neg hm]
   unfold docShape at hs
   rw [if_neg hn] at hs
   rw [hs, two op a b c m _ (shape_in op h1) (fun e => by subst e; rfl)]
end Go.Proofs.YtdlcphinjnnhcaaGreatDoor


namespace Go.Proofs.YtdlcphinjnnhcaaGreatDoor
open Go.RowKit
theorem xap : (∀ (a : Act) (d : Tmp) (v : Value), a.put (some d) v = { a with tmps := a.tmps.setIfInBounds d v }) ∧ (∀ (a : Act) (v : Value), a.put none v = a) ∧ (∀ (l : List Value) (i : Nat) (x : Value), l.toArray.setIfInBounds i x = (l.set i x).toArray) ∧ (∀ (x y : Value) (l : List Value), (x :: l).set 0 y = y :: l) ∧ ∀ (x y : Value) (l : List Value) (n : Nat), (x :: l).set (n + 1) y = x :: l.set n y := ⟨fun _ _ _ => rfl, fun _ _ => rfl, fun _ _ _ => by simp, fun _ _ _ => rfl, fun _ _ _ _ => rfl⟩
theorem xtk {P : Program} {md : Region.Mode} {ops : Array Oper} {Q : Exit → Act → World → Prop} {S : World → Prop} (i : Nat) {d : Option Tmp} {o : Op} {t : TypeId} {p : String} {af : Array Edge} {g : Option (Nat × Bool)} {v : Value} {fuel : Nat} {listed : Array Bool} {a : Act} {w : World} (hi : ops[i]? = some ⟨d, o, t, p, af, g⟩) (hy : YieldsIf P ops S ⟨d, o, t, p, af, g⟩ v a) (h : wpAnyH P md ops Q S fuel (listed.setIfInBounds i true) (a.put d v) w) (hs : Region.noSelect ops = true := by kernel_rfl) (hf : Region.free md ops listed i = true := by kernel_rfl) (hr : (Region.ready md ops listed).contains i = true := by kernel_rfl) (hQ : ∀ c a w, Q (.panic c) (a.put d v) w → Q (.panic c) a w := by exact fun _ _ _ h => h) (hS : S w := by assumption) : wpAnyH P md ops Q S (fuel + 1) listed a w := wpAnyH_take hi hs hf hr hQ hy hS h
theorem xso {P : Program} {md : Region.Mode} {ops : Array Oper} {Q : Exit → Act → World → Prop} {S : World → Prop} (i : Nat) (v : Value) {d : Option Tmp} {o : Op} {t : TypeId} {p : String} {af : Array Edge} {g : Option (Nat × Bool)} {fuel : Nat} {listed : Array Bool} {a : Act} {w : World} (hi : ops[i]? = some ⟨d, o, t, p, af, g⟩) (hv : ∀ w, S w → (execOp a.eval ⟨d, o, t, p, af, g⟩).run P w = .ok (.value v) w) (h : wpAnyH P md ops Q S fuel (listed.setIfInBounds i true) (a.put d v) w) (hw : Region.wanted ⟨d, o, t, p, af, g⟩ (yielded ops a.tmps) = true := by rfl) (hs : Region.noSelect ops = true := by kernel_rfl) (hf : Region.free md ops listed i = true := by kernel_rfl) (hr : (Region.ready md ops listed).contains i = true := by kernel_rfl) (hQ : ∀ c a w, Q (.panic c) (a.put d v) w → Q (.panic c) a w := by exact fun _ _ _ h => h) (hS : S w := by assumption) : wpAnyH P md ops Q S (fuel + 1) listed a w := wpAnyH_take hi hs hf hr hQ (Or.inl ⟨hw, hv⟩) hS h
theorem xcn {P : Program} {md : Region.Mode} {ops : Array Oper} {Q : Exit → Act → World → Prop} {S : World → Prop} {fuel : Nat} {listed : Array Bool} {a : Act} {w : World} {i : Nat} {d : Option Tmp} {o : Op} {t : TypeId} {p : String} {af : Array Edge} {g : Option (Nat × Bool)} {rs : List Nat} (ho : ops[i]? = some ⟨d, o, t, p, af, g⟩)
   (h : ∀ K' : Act → World → Prop, Shut (∀ a w, S w → (S w → wpAnyH P md ops Q S fuel (listed.setIfInBounds i true) a w) → K' a w) → if Region.wanted ⟨d, o, t, p, af, g⟩ (yielded ops a.tmps) = true then Oper.wp P ⟨d, o, t, p, af, g⟩ a w K' Q else K' (a.put d undef) w)
   (hs : AllReadyH P md ops Q S fuel listed a w rs) : AllReadyH P md ops Q S fuel listed a w (i :: rs) := AllReadyH.cons ho h hs
theorem xrd {P : Program} {md : Region.Mode} {ops : Array Oper} {Q : Exit → Act → World → Prop} {S : World → Prop} (i : Nat) {fuel : Nat} {listed : Array Bool} {a : Act} {w : World} {d : Option Tmp} {o : Op} {t : TypeId} {p : String} {af : Array Edge} {g : Option (Nat × Bool)} (ho : ops[i]? = some ⟨d, o, t, p, af, g⟩)
   (h : ∀ K' : Act → World → Prop, Shut (∀ a w, S w → (S w → wpAnyH P md ops Q S fuel (listed.setIfInBounds i true) a w) → K' a w) → if Region.wanted ⟨d, o, t, p, af, g⟩ (yielded ops a.tmps) = true then Oper.wp P ⟨d, o, t, p, af, g⟩ a w K' Q else K' (a.put d undef) w) (hr : Region.ready md ops listed = [i] := by kernel_rfl) : wpAnyH P md ops Q S (fuel + 1) listed a w := wpAnyH_ready hr (by simp) (AllReadyH.cons ho h AllReadyH.nil)
theorem xdn {P : Program} {md : Region.Mode} {ops : Array Oper} {Q : Exit → Act → World → Prop} {S : World → Prop} {listed : Array Bool} {a : Act} {w : World} (h : Q .normal a w) (fuel : Nat) (hr : Region.ready md ops listed = [] := by kernel_rfl) : wpAnyH P md ops Q S fuel listed a w := wpAnyH_done hr h fuel

def grow (w : World) : List (Option Obj) → World
 | [] => w
 | some o :: l => grow (w.alloc o) l
 | none :: l => grow w.drew l
theorem grow_below : ∀ (l : List (Option Obj)) (w : World), Below w.heap.size w (grow w l)
 | [], w => Below.refl _ w
 | some o :: l, w => ((Below.refl _ w).alloc (Nat.le_refl _) o).trans ((grow_below l (w.alloc o)).mono (by simp))
 | none :: l, w => (Below.drew (Below.refl _ w)).trans ((grow_below l w.drew).mono (by simp))
theorem grow_size (w : World) (l : List (Option Obj)) : w.heap.size ≤ (grow w l).heap.size := (grow_below l w).size
theorem grow_cell (w : World) (l : List (Option Obj)) (k o : Nat) (h : k < w.heap.size) : (grow w l).cell? ⟨k, o, none⟩ = w.cell? ⟨k, o, none⟩ := (grow_below l w).cell (p := ⟨k, o, none⟩) h
theorem grow_frozen (w : World) (l : List (Option Obj)) (k o : Nat) (h : k < w.heap.size) : (grow w l).frozen? ⟨k, o, none⟩ = w.frozen? ⟨k, o, none⟩ := (grow_below l w).frozen (p := ⟨k, o, none⟩) h
theorem grow_set (w : World) (l : List (Option Obj)) (k o : Nat) (v : Value) (h : k < w.heap.size) : (grow w l).setCell ⟨k, o, none⟩ v = grow (w.setCell ⟨k, o, none⟩ v) l := by
 induction l generalizing w with
 | nil => rfl
 | cons ob l ih =>
   cases ob with
   | none => rw [grow, grow, ih _ (by simpa using h)]; rfl
   | some ob => rw [grow, grow, ih _ (by simp; omega), World.setCell_alloc_past _ _ _ _ h]
theorem grow_lt (w : World) (l : List (Option Obj)) (k : Nat) (h : k < w.heap.size) : k < (grow w l).heap.size := Nat.lt_of_lt_of_le h (grow_size w l)
def Gr (w w' : World) : Prop := ∃ l, grow w l = w'
theorem Gr.refl (w : World) : Gr w w := ⟨[], rfl⟩
theorem grow_app : ∀ (l m : List (Option Obj)) (w : World), grow w (l ++ m) = grow (grow w l) m
 | [], _, _ => rfl
 | some _ :: l, m, _ => grow_app l m _
 | none :: l, m, _ => grow_app l m _
theorem Gr.grow {w W : World} (h : Gr w W) (m : List (Option Obj)) : Gr w (grow W m) := by
 obtain ⟨l, rfl⟩ := h; exact ⟨l ++ m, grow_app l m w⟩
theorem Gr.alloc {w W : World} (h : Gr w W) (o : Obj) : Gr w (W.alloc o) := h.grow [some o]
theorem Gr.drew {w W : World} (h : Gr w W) : Gr w W.drew := h.grow [none]
theorem Gr.below {w W : World} (h : Gr w W) : Below w.heap.size w W := by
 obtain ⟨l, rfl⟩ := h; exact grow_below l w
theorem Gr.trans {a b c : World} (h : Gr a b) (k : Gr b c) : Gr a c := by
 obtain ⟨m, rfl⟩ := k; exact h.grow m
theorem Gr.of_alloc {W w' : World} {o : Obj} (h : Gr (W.alloc o) w') : Gr W w' := ((Gr.refl W).alloc o).trans h
theorem Gr.of_grow {W w' : World} {l : List (Option Obj)} (h : Gr (Go.Proofs.YtdlcphinjnnhcaaGreatDoor.grow W l) w') : Gr W w' := ((Gr.refl W).grow l).trans h
theorem lt1 (n : Nat) : n < n + 1 := by omega
theorem lt2 (n : Nat) : n < n + 1 + 1 := by omega
theorem lt3 (n : Nat) : n < n + 1 + 1 + 1 := by omega
theorem lt4 (n : Nat) : n < n + 1 + 1 + 1 + 1 := by omega
theorem lt5 (n : Nat) : n < n + 1 + 1 + 1 + 1 + 1 := by omega
theorem lt6 (n : Nat) : n < n + 1 + 1 + 1 + 1 + 1 + 1 := by omega
theorem lt7 (n : Nat) : n < n + 1 + 1 + 1 + 1 + 1 + 1 + 1 := by omega
theorem lt8 (n : Nat) : n < n + 1 + 1 + 1 + 1 + 1 + 1 + 1 + 1 := by omega
theorem glt1 (w : World) (l : List (Option Obj)) (k : Nat) (h : k < w.heap.size) : k < (grow w l).heap.size + 1 := by have := grow_lt w l k h; omega
theorem glt2 (w : World) (l : List (Option Obj)) (k : Nat) (h : k < w.heap.size) : k < (grow w l).heap.size + 1 + 1 := by have := grow_lt w l k h; omega
theorem glt3 (w : World) (l : List (Option Obj)) (k : Nat) (h : k < w.heap.size) : k < (grow w l).heap.size + 1 + 1 + 1 := by have := grow_lt w l k h; omega
theorem glt4 (w : World) (l : List (Option Obj)) (k : Nat) (h : k < w.heap.size) : k < (grow w l).heap.size + 1 + 1 + 1 + 1 := by have := grow_lt w l k h; omega
theorem glt5 (w : World) (l : List (Option Obj)) (k : Nat) (h : k < w.heap.size) : k < (grow w l).heap.size + 1 + 1 + 1 + 1 + 1 := by have := grow_lt w l k h; omega
theorem glt6 (w : World) (l : List (Option Obj)) (k : Nat) (h : k < w.heap.size) : k < (grow w l).heap.size + 1 + 1 + 1 + 1 + 1 + 1 := by have := grow_lt w l k h; omega
end Go.Proofs.YtdlcphinjnnhcaaGreatDoor


namespace Go.Proofs.YtdlcphinjnnhcaaGreatDoor
open Go.RowKit

def At (w : World) (k : Nat) (cs : Array Value) : Prop :=
 k < w.heap.size ∧ (∀ o, w.cell? ⟨k, o, none⟩ = cs[o]?) ∧ (∀ o, w.frozen? ⟨k, o, none⟩ = false)
theorem At.new (w : World) (cs : Array Value) (t : TypeId) : At (w.alloc (.cells cs t)) w.heap.size cs :=
 ⟨by simp, fun o => World.cell?_alloc_new w cs t o, fun o => by
   have e : (w.alloc (.cells cs t)).heap[w.heap.size]? = some (.cells cs t) := (MapKept.heap_alloc w _).1
   simp only [World.frozen?]; rw [e]; simp⟩
theorem At.gr {w w1 : World} {k : Nat} {cs : Array Value} (h : At w k cs) (hb : Gr w w1) : At w1 k cs := by
 obtain ⟨l, rfl⟩ := hb
 exact ⟨grow_lt w l k h.1, fun o => (grow_cell w l k o h.1).trans (h.2.1 o), fun o => (grow_frozen w l k o h.1).trans (h.2.2 o)⟩
theorem At.alloc {w : World} {k : Nat} {cs : Array Value} (h : At w k cs) (ob : Obj) : At (w.alloc ob) k cs := h.gr ((Gr.refl w).alloc ob)
theorem At.next (w : World) (ob : Obj) (cs : Array Value) (t : TypeId) : At ((w.alloc ob).alloc (.cells cs t)) (w.heap.size + 1) cs := by
 have := At.new (w.alloc ob) cs t
 rwa [World.size_alloc] at this
theorem At.set {w : World} {k : Nat} {cs : Array Value} (h : At w k cs) (j : Nat) (v : Value) (hj : j < cs.size) : At (w.setCell ⟨k, j, none⟩ v) k (cs.setIfInBounds j v) := by
 refine ⟨by simpa using h.1, fun o => ?_, fun o => by simpa using h.2.2 o⟩
 by_cases ho : j = o
 · subst ho
   rw [World.cell?_setCell_same w _ v (u := cs[j]) (by rw [h.2.1]; simp [hj])]
   simp [hj]
 · rw [World.cell?_setCell_other (w := w) (a := ⟨k, j, none⟩) (v := v) (b := ⟨k, o, none⟩) (by simp), h.2.1, Array.getElem?_setIfInBounds_ne ho]
theorem At.set_other {w : World} {k k' j : Nat} {cs : Array Value} (h : At w k cs) (v : Value) (hk : k' ≠ k) : At (w.setCell ⟨k', j, none⟩ v) k cs := by
 refine ⟨by simpa using h.1, fun o => ?_, fun o => by simpa using h.2.2 o⟩
 rw [World.cell?_setCell_other (w := w) (a := ⟨k', j, none⟩) (v := v) (b := ⟨k, o, none⟩) (by simp), h.2.1]
theorem wp_world {P : Program} {code : Code} {Q : Exit → Act → World → Prop} {a : Act} {W : World} (R : World → Prop) (hR : R W) (h : ∀ w', R w' → Code.wp P code Q a w') : Code.wp P code Q a W := h W hR
end Go.Proofs.YtdlcphinjnnhcaaGreatDoor
