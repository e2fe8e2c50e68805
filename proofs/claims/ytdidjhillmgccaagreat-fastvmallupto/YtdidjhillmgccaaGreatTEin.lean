import Derived.Test.YtdidjhillmgccaaGreatTBase
namespace Go.Proofs.YtdidjhillmgccaaGreat
namespace T
open Go.RowKit
def EIn {α:Type}(k:Nat)(vals:α→List Value)(w:World)(a:Option Addr)(L:List α):Prop:=∀i (h:i<L.length),∃b off:Nat,a=some ⟨b,off,none⟩∧b<w.heap.size∧∀j v,(vals L[i])[j]?=some v→w.cell? ⟨b,off+i*k+j,none⟩=some v
theorem EIn.below {α:Type}{k:Nat}{vals:α→List Value}{w w1:World}{a:Option Addr}{L:List α}(h:EIn k vals w a L)(hb:Below w.heap.size w w1):EIn k vals w1 a L:=fun i hi=>by
 obtain⟨b,off,h1,h2,h3⟩:=h i hi;exact⟨b,off,h1,Nat.lt_of_lt_of_le h2 hb.size,fun j v q=>(hb.cell (p:=⟨b,_,none⟩) h2).trans (h3 j v q)⟩
end T
end Go.Proofs.YtdidjhillmgccaaGreat
