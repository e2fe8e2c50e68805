import Derived.Test.YtkhbiaaangnkdaaGreatDoorJ34
import Derived.Test.YtkhbiaaangnkdaaGreatDoorJ35
import Derived.Deep.AppendLies
namespace Go.Proofs.YtkhbiaaangnkdaaGreatDoor
namespace C
open Go.RowKit
open T (Sep Ob Kp Mf TgIn boxOb Fm Tc Ed Vl Cp Bx tgOb mRow mRow_idx mRow_tail mRow_at updV flt accessF)
theorem addr_addZ (b off j:Nat):(⟨b,off,none⟩:Addr).add j=⟨b,off+j,none⟩:=by by_cases h0:j=0<;>simp[Addr.add,h0]
theorem wp_append_z {o:Oper}{a:Act}{K:Act→World→Prop}{Q:Exit→Act→World→Prop}{w:World}(s x:Operand)(t e:TypeId)(z:Value)(size bytes:Nat)
 (ho:o.op=.call {callee:=.builtin .append,args:=#[s,x],argTypes:=#[t,t]})(ht:Tryz.prog.underlying t=some (.slice e))
 (hi:(Tryz.prog.info? e).map (fun i=>(i.zero,i.size,i.bytes))=some (some z,size,bytes))(hz:z.cells.size=size)(hsz:0<size)(hby:bytes≤2048)
 (base:Nat)(v:Value)(n:Nat)(xs cs:List Value)(hs:a.eval s=v)(hown:w.ownsRow base e size v n xs)(X:Nat)(hx:a.eval x=.slice (some ⟨X,0,none⟩) 1 1)(hX:At w X cs.toArray)(hc:cs.length=size)(h1:∀u∈cs,u.oneCell'=true)
 (hlen:n≤1000000)(hbase:base≤w.heap.size)
 (h:∀g cap w',w'.ownsRow base e size (.slice (some ⟨g,0,none⟩) (n+1) cap) (n+1) (xs++cs)→w.grownBy w' v.ownBlock→(v.ownBlock=some g∨g=w.heap.size)→K (a.put o.dst (.slice (some ⟨g,0,none⟩) (n+1) cap)) w'):o.wp Tryz.prog a w K Q:=by
 obtain⟨i0,hi0,hz0,hz1,hz2⟩:=T.info_parts' hi;have hb:(n+1)*bytes≤140737488355328:=Nat.le_trans (Nat.mul_le_mul_left _ hby) (by omega);have hn:∀j u,cs[j]?=some u→w.cell? ((⟨X,0,none⟩:Addr).add j)=some u:=by
  intro j u hj;rw[addr_addZ,Nat.zero_add,hX.2.1];simpa using hj
 refine wp_append_lies _ s x t ho base e i0 z size bytes ht hi0 hz0 hz1 hz2 hz hsz v n xs hs hown ⟨X,0,none⟩ 1 1 cs hx (by omega) hn h1 (by decide) (by unfold maxLen;omega) hb hbase _ rfl ?_;intro g cap w' k1 k2 k3 _;exact h g cap w' k1 k2 k3
theorem kp_grown {w w1:World}{row:Option Nat}(h:w.grownBy w1 row):Kp (fun k=>row=some k) w w1:=⟨h.os,h.tape,h.output,h.size,fun k hk hn=>h.block k hk (fun e=>hn e.symm)⟩
theorem own_slZ {w:World}{lo e s n:Nat}{v:Value}{xs:List Value}(h:w.ownsRow lo e s v n xs):∃a c,v=.slice a n c:=by
 rcases h.2 with⟨rfl,rfl⟩|⟨g,cap,cur,rfl,_⟩
 ·exact⟨none,0,rfl⟩
 ·exact⟨_,_,rfl⟩
section
variable {B:Nat} {W W2:World} {a:Nat} {P:PImg} {s:Ms} {l:List Ob} {q:Pt}
theorem sep_box (x x':List Value){l2:List Ob}(h:Sep B W (bx_ a x::l2))(v:Value)(j:Nat)(hb:Bx W a x→Bx (W.setCell ⟨a,j,none⟩ v) a x')(hB:B≤W.heap.size):Sep B (W.setCell ⟨a,j,none⟩ v) (bx_ a x'::l2)∧Below B W (W.setCell ⟨a,j,none⟩ v):=by
 have hk:Kp (fun k=>k=a) W (W.setCell ⟨a,j,none⟩ v):=Kp.set (S:=fun k=>k=a) W ⟨a,j,none⟩ v rfl;exact⟨sep_change (l1:=[]) (o:=bx_ a x) (o':=bx_ a x') h (hb (h.ins (bx_ a x) (by simp))) hk (fun _ r=>.inl r) hB,sep_below (l1:=[]) (o:=bx_ a x) h hk hB⟩
theorem MIn.app_tou (t:Tc)(h:Sep B W (obs B a P s q++l))(hpg:PgOk P q)(le:B≤W.heap.size){g cap:Nat}(hown:W2.ownsRow B 260 3 (.slice (some ⟨g,0,none⟩) (s.tou.length+1) cap) (s.tou.length+1) (s.tou.flatMap Tc.row++t.row))(gr:W.grownBy W2 q.tv.ownBlock)(hg:q.tv.ownBlock=some g∨g=W.heap.size):
 Bx W2 a (rowOf P s q)∧(∀o∈l,o.In W2)∧MIn B (W2.setCell ⟨a,122,none⟩ (.slice (some ⟨g,0,none⟩) (s.tou.length+1) cap)) a P {s with tou:=s.tou++[t]} l∧Below B W (W2.setCell ⟨a,122,none⟩ (.slice (some ⟨g,0,none⟩) (s.tou.length+1) cap)):=by
 have hk:=kp_grown gr;have h1:=sep_change (l1:=[bx_ a (rowOf P s q),tgOb q.SM q.km s.b s.t,stOb B q.sv s.st,inOb q.iv s.inp,ouOb B q.ov_ s.out]) (o:=tcOb B q.tv s.tou) (o':=tcOb B (.slice (some ⟨g,0,none⟩) (s.tou.length+1) cap) (s.tou++[t])) (l2:=snapOb q.lo q.W0::l) h (by
  show W2.ownsRow B _ 3 _ (s.tou++[t]).length ((s.tou++[t]).flatMap Tc.row);rw[List.length_append,List.flatMap_append];simpa using hown) hk (fun k r=>by
  have e:g=k:=by simpa [tcOb,rowOb,Value.ownBlock]using r
  rcases hg with u|u
  ·exact .inl (e▸u)
  ·exact .inr (by omega)) le
 have b1:=sep_below (l1:=[bx_ a (rowOf P s q),tgOb q.SM q.km s.b s.t,stOb B q.sv s.st,inOb q.iv s.inp,ouOb B q.ov_ s.out]) (o:=tcOb B q.tv s.tou) (l2:=snapOb q.lo q.W0::l) h hk le;obtain⟨h2,b2⟩:=sep_box (rowOf P s q) (rowOf P {s with tou:=s.tou++[t]} {q with tv:=(.slice (some ⟨g,0,none⟩) (s.tou.length+1) cap)}) h1 (.slice (some ⟨g,0,none⟩) (s.tou.length+1) cap) 122 (fun hb=>T.Bx.setAt 122 _ hb (mRow_tail 3 (fun y hy=>by
  match y,hy with
  |0,hy=>first|rfl|exact absurd rfl hy
  |1,hy=>first|rfl|exact absurd rfl hy
  |2,hy=>first|rfl|exact absurd rfl hy
  |3,hy=>first|rfl|exact absurd rfl hy
  |4,_=>rfl
  |5,_=>rfl
  |6,_=>rfl
  |_+7,_=>rfl)) (mRow_at 3) ⟨_,mRow_at 3⟩) (Nat.le_trans le b1.size)
 refine⟨h1.ins (bx_ a (rowOf P s q)) (by simp),fun o ho=>h1.ins o (by simp[ho]),?_⟩;exact⟨⟨⟨{q with tv:=(.slice (some ⟨g,0,none⟩) (s.tou.length+1) cap)},h2,hpg⟩,Nat.le_trans le (b1.trans b2).size⟩,b1.trans b2⟩
theorem MIn.app_out (t:Int)(h:Sep B W (obs B a P s q++l))(hpg:PgOk P q)(le:B≤W.heap.size){g cap:Nat}(hown:W2.ownsRow B 25 1 (.slice (some ⟨g,0,none⟩) (s.out.length+1) cap) (s.out.length+1) (s.out.map u64I++[u64I t]))(gr:W.grownBy W2 q.ov_.ownBlock)(hg:q.ov_.ownBlock=some g∨g=W.heap.size):
 Bx W2 a (rowOf P s q)∧(∀o∈l,o.In W2)∧MIn B (W2.setCell ⟨a,121,none⟩ (.slice (some ⟨g,0,none⟩) (s.out.length+1) cap)) a P {s with out:=s.out++[t]} l∧Below B W (W2.setCell ⟨a,121,none⟩ (.slice (some ⟨g,0,none⟩) (s.out.length+1) cap)):=by
 have hk:=kp_grown gr;have h1:=sep_change (l1:=[bx_ a (rowOf P s q),tgOb q.SM q.km s.b s.t,stOb B q.sv s.st,inOb q.iv s.inp]) (o:=ouOb B q.ov_ s.out) (o':=ouOb B (.slice (some ⟨g,0,none⟩) (s.out.length+1) cap) (s.out++[t])) (l2:=tcOb B q.tv s.tou::snapOb q.lo q.W0::l) h (by
  show W2.ownsRow B _ 1 _ (s.out++[t]).length ((s.out++[t]).map u64I);rw[List.length_append,List.map_append];simpa using hown) hk (fun k r=>by
  have e:g=k:=by simpa [ouOb,rowOb,Value.ownBlock]using r
  rcases hg with u|u
  ·exact .inl (e▸u)
  ·exact .inr (by omega)) le
 have b1:=sep_below (l1:=[bx_ a (rowOf P s q),tgOb q.SM q.km s.b s.t,stOb B q.sv s.st,inOb q.iv s.inp]) (o:=ouOb B q.ov_ s.out) (l2:=tcOb B q.tv s.tou::snapOb q.lo q.W0::l) h hk le;obtain⟨h2,b2⟩:=sep_box (rowOf P s q) (rowOf P {s with out:=s.out++[t]} {q with ov_:=(.slice (some ⟨g,0,none⟩) (s.out.length+1) cap)}) h1 (.slice (some ⟨g,0,none⟩) (s.out.length+1) cap) 121 (fun hb=>T.Bx.setAt 121 _ hb (mRow_tail 2 (fun y hy=>by
  match y,hy with
  |0,hy=>first|rfl|exact absurd rfl hy
  |1,hy=>first|rfl|exact absurd rfl hy
  |2,hy=>first|rfl|exact absurd rfl hy
  |3,hy=>first|rfl|exact absurd rfl hy
  |4,_=>rfl
  |5,_=>rfl
  |6,_=>rfl
  |_+7,_=>rfl)) (mRow_at 2) ⟨_,mRow_at 2⟩) (Nat.le_trans le b1.size)
 refine⟨h1.ins (bx_ a (rowOf P s q)) (by simp),fun o ho=>h1.ins o (by simp[ho]),?_⟩;exact⟨⟨⟨{q with ov_:=(.slice (some ⟨g,0,none⟩) (s.out.length+1) cap)},h2,hpg⟩,Nat.le_trans le (b1.trans b2).size⟩,b1.trans b2⟩
theorem MIn.app_st (t:Fm)(h:Sep B W (obs B a P s q++l))(hpg:PgOk P q)(le:B≤W.heap.size){g cap:Nat}(hown:W2.ownsRow B 78 114 (.slice (some ⟨g,0,none⟩) (s.st.length+1) cap) (s.st.length+1) (s.st.flatMap Fm.row++t.row))(gr:W.grownBy W2 q.sv.ownBlock)(hg:q.sv.ownBlock=some g∨g=W.heap.size):
 Bx W2 a (rowOf P s q)∧(∀o∈l,o.In W2)∧MIn B (W2.setCell ⟨a,119,none⟩ (.slice (some ⟨g,0,none⟩) (s.st.length+1) cap)) a P {s with st:=s.st++[t]} l∧Below B W (W2.setCell ⟨a,119,none⟩ (.slice (some ⟨g,0,none⟩) (s.st.length+1) cap)):=by
 have hk:=kp_grown gr;have h1:=sep_change (l1:=[bx_ a (rowOf P s q),tgOb q.SM q.km s.b s.t]) (o:=stOb B q.sv s.st) (o':=stOb B (.slice (some ⟨g,0,none⟩) (s.st.length+1) cap) (s.st++[t])) (l2:=inOb q.iv s.inp::ouOb B q.ov_ s.out::tcOb B q.tv s.tou::snapOb q.lo q.W0::l) h (by
  show W2.ownsRow B _ 114 _ (s.st++[t]).length ((s.st++[t]).flatMap Fm.row);rw[List.length_append,List.flatMap_append];simpa using hown) hk (fun k r=>by
  have e:g=k:=by simpa [stOb,rowOb,Value.ownBlock]using r
  rcases hg with u|u
  ·exact .inl (e▸u)
  ·exact .inr (by omega)) le
 have b1:=sep_below (l1:=[bx_ a (rowOf P s q),tgOb q.SM q.km s.b s.t]) (o:=stOb B q.sv s.st) (l2:=inOb q.iv s.inp::ouOb B q.ov_ s.out::tcOb B q.tv s.tou::snapOb q.lo q.W0::l) h hk le;obtain⟨h2,b2⟩:=sep_box (rowOf P s q) (rowOf P {s with st:=s.st++[t]} {q with sv:=(.slice (some ⟨g,0,none⟩) (s.st.length+1) cap)}) h1 (.slice (some ⟨g,0,none⟩) (s.st.length+1) cap) 119 (fun hb=>T.Bx.setAt 119 _ hb (mRow_tail 0 (fun y hy=>by
  match y,hy with
  |0,hy=>first|rfl|exact absurd rfl hy
  |1,hy=>first|rfl|exact absurd rfl hy
  |2,hy=>first|rfl|exact absurd rfl hy
  |3,hy=>first|rfl|exact absurd rfl hy
  |4,_=>rfl
  |5,_=>rfl
  |6,_=>rfl
  |_+7,_=>rfl)) (mRow_at 0) ⟨_,mRow_at 0⟩) (Nat.le_trans le b1.size)
 refine⟨h1.ins (bx_ a (rowOf P s q)) (by simp),fun o ho=>h1.ins o (by simp[ho]),?_⟩;exact⟨⟨⟨{q with sv:=(.slice (some ⟨g,0,none⟩) (s.st.length+1) cap)},h2,hpg⟩,Nat.le_trans le (b1.trans b2).size⟩,b1.trans b2⟩
end
end C
set_option maxRecDepth 100000
set_option maxHeartbeats 40000000
namespace C
open Go.RowKit
open T (Sep Ob Kp Mf TgIn boxOb Fm Tc Ed Vl Cp Bx tgOb mRow mRow_idx mRow_tail mRow_at updV flt accessF)
theorem note_any (B:Nat)(W:World)(a:Nat)(P:PImg)(s:Ms)(l:List Ob)(t:Tc)(h:MIn B W a P s l)(hl:s.tou.length≤1000000):
 Calls Tryz.prog 150 #[.pointer (some ⟨a,0,none⟩),.bool t.store,.int .u64 t.addr,.int .u64 t.size] W fun x w'=>x=.returned (.tuple #[])∧MIn B w' a P {s with tou:=s.tou++[t]} l∧Below B W w':=by
 obtain⟨⟨q,h1,hpg⟩,le⟩:=h;have hb:Bx W a (rowOf P s q):=h1.ins (bx_ a (rowOf P s q)) (by simp[obs]);have hO:W.ownsRow B 260 3 q.tv s.tou.length (s.tou.flatMap Tc.row):=h1.ins (tcOb B q.tv s.tou) (by simp[obs]);obtain⟨ta,tk,etv⟩:=own_slZ hO;have c122:W.cell? ⟨a,122,none⟩=some (.slice ta s.tou.length tk):=by rw[←etv];exact hb.at_ 122 _ (mRow_at 3)
 have hlt:=hb.lt;have hap:Hz (∀V W2 g cap,Gr W V→W2.ownsRow B 260 3 (.slice (some ⟨g,0,none⟩) (s.tou.length+1) cap) (s.tou.length+1) (s.tou.flatMap Tc.row++[Value.bool t.store,.int .u64 t.addr,.int .u64 t.size])→V.grownBy W2 (Value.slice ta s.tou.length tk).ownBlock→((Value.slice ta s.tou.length tk).ownBlock=some g∨g=V.heap.size)→
  (∃u,W2.cell? ⟨a,122,none⟩=some u)∧W2.frozen? ⟨a,122,none⟩=false∧MIn B (W2.setCell ⟨a,122,none⟩ (.slice (some ⟨g,0,none⟩) (s.tou.length+1) cap)) a P {s with tou:=s.tou++[t]} l∧Below B W (W2.setCell ⟨a,122,none⟩ (.slice (some ⟨g,0,none⟩) (s.tou.length+1) cap))):=ζ (fun V W2 g cap g1 k1 k2 k3=>by
  rw[←etv]at k2 k3;have r:=MIn.app_tou t (h1.gr g1.below) hpg (Nat.le_trans le g1.below.size) k1 k2 k3;exact⟨⟨_,r.1.at_ 122 _ (mRow_at 3)⟩,r.1.fr 122,r.2.2.1,(g1.below.mono le).trans r.2.2.2⟩)
 have hO2:Hz (∀V,Gr W V→V.ownsRow B 260 3 (.slice ta s.tou.length tk) s.tou.length (s.tou.flatMap Tc.row)):=ζ (fun V g=>by rw[←etv];exact own_keep hO (Kp.of_below (S:=fun _=>False) g.below) (fun _ _ r=>r));clear etv hO hb h1 hpg;generalize s.tou.flatMap Tc.row=xs at*;go_enter Tryz.func150,Tryz.ntmps150;go_upto_region 0 with fail
 refine wp_region_lit ?_;iterate 10 (refine xp fun K hK=>?_;go_simp;with_reducible refine hK _ _ ?_;clear hK K;(try simp only[xap]))
 refine xp fun K hK=>?_
 refine wp_append_z (.tmp 12) (.tmp 17) 80 260 _ 3 24 rfl Tryz.underlying80 T.infoTouch rfl (by decide) (by decide) B (.slice ta s.tou.length tk) s.tou.length xs [Value.bool t.store,.int .u64 t.addr,.int .u64 t.size] rfl (hO2.out _ ((Gr.refl W).alloc _)) W.heap.size rfl (At.new W (List.toArray [Value.bool t.store,.int .u64 t.addr,.int .u64 t.size]) _) rfl (by simp[Value.oneCell']) hl (Nat.le_trans le ((Gr.refl W).alloc (.cells (List.toArray [Value.bool t.store,.int .u64 t.addr,.int .u64 t.size]) 260)).below.size) ?_;intro g cap W2 k1 k2 k3;obtain⟨⟨u,cu⟩,fu,hM⟩:=hap.out _ W2 g cap ((Gr.refl W).alloc _) k1 k2 k3;replace hM:=ζ hM;clear k1 k2 k3;with_reducible refine hK _ _ ?_
 clear hK K;try simp only[xap]
 iterate 2 (refine xp fun K hK=>?_;go_simp;with_reducible refine hK _ _ ?_;clear hK K;(try simp only[xap]))
 refine xp fun K hK=>?_
 go_simp;with_reducible refine hK _ _ ?_
 clear hK K;try simp only[Act.put]
 go_wp2_with fail;go_end0;exact⟨rfl,hM.out⟩
end C
namespace T
open Go.RowKit
theorem inMemory_ok (w:World):Calls Tryz.prog 149 #[.int .i64 0] w fun x w'=>x=.returned (.tuple #[])∧w'=w:=by
 go_enter Tryz.func149,Tryz.ntmps149;go_wp2_with fail;go_end0;exact⟨rfl,rfl⟩
end T
namespace C
open Go.RowKit
open T (Sep Ob Kp Mf TgIn boxOb Fm Tc Ed Vl Cp Bx tgOb mRow updV flt accessF ldE ldV stB stT integer_any)
theorem inMem_ok (w:World):Calls Tryz.prog 149 #[.int .i64 0] w fun x w'=>x=.returned (.tuple #[])∧w'=w:=T.inMemory_ok w
theorem inMem_bad (e:Int)(w:World)(h:e≠0):Calls Tryz.prog 149 #[.int .i64 e] w fun x w'=>x=pan (flt 5)∧w'=w:=by
 have h':(e != 0)=true:=by simpa using h
 have hF:=fail_any 5;unfold pan at hF ⊢;go_enter Tryz.func149,Tryz.ntmps149;go_wp2_with(refine(hF _).mono ?_;rintro x w1 ⟨rfl,rfl⟩);exact⟨rfl,rfl,rfl⟩
theorem plcR_nat {m sz p:Int}{v:Vl}{n:Int}(h:plcR m sz p v=.ok n):n=((n.toNat:Nat):Int)∧n.toNat<18446744073709551616:=by
 unfold plcR at h
 split at h
 ·split at h
  ·injection h with h
   rw[←h,IntKind.wrap_u64];omega
  ·cases h
 ·cases h
def intV (n:Nat):Vl:=⟨false,n,Cp.zero⟩
def loadM (s:Ms)(A B_:Nat)(m:Int)(sz:Nat):Except Ed Ms:=match plcR m sz 1 (s.at_.regs B_)with
 |.error e=>.error e
 |.ok n=>if ldE n.toNat sz=0 then .ok ((Ms.put {s with tou:=s.tou++[⟨false,n.toNat,sz⟩]} A (intV (ldV s.b n.toNat sz))).next)else .error (flt 5)
def storeM (s:Ms)(A B_:Nat)(m:Int)(sz:Nat):Except Ed Ms:=if(s.at_.regs A).g then .error (flt 2)else match plcR m sz 2 (s.at_.regs B_)with
 |.error e=>.error e
 |.ok n=>if ldE n.toNat sz=0 then .ok (Ms.next {s with tou:=s.tou++[⟨true,n.toNat,sz⟩],b:=stB s.b n.toNat sz (s.at_.regs A).n,t:=stT s.t n.toNat sz})else .error (flt 5)
theorem store_bad {b:Nat→UInt8}{t:Nat→Option Cp}{ad sz n:Nat}(h:ldE ad sz≠0):stB b ad sz n=b∧stT t ad sz=t:=by
 unfold ldE at h;unfold stB stT
 split at h
 ·exact absurd rfl h
 ·rename_i q
  rw[if_neg q,if_neg q];exact⟨rfl,rfl⟩
theorem load_any (B:Nat)(W0:World)(a:Nat)(P:PImg)(s:Ms)(l:List Ob)(op:Int)(A B_ C_:Nat)(m:Int)(sz:Nat)(h:MIn B W0 a P s l)(hA:A<16)(hB_:B_<16)(hp:s.at_.pc<1000000000)(hl:s.tou.length≤1000000)(hsz:sz=1∨sz=8):
 Calls Tryz.prog 111 #[.pointer (some ⟨a,0,none⟩),insA op A B_ C_ m,.int .u64 sz] W0 fun x w'=>Dv B W0 a P s l (loadM s A B_ m sz) x w':=by
 have h2:=ζ (h.new #[.int .u8 op,.int .i64 A,.int .i64 B_,.int .i64 C_,.int .i64 m] 29);have hP:=ζ (fun X l' (q:MIn B X a P s l')=>place_any a op A B_ C_ m sz 1 (s.at_.regs B_) X (q.rg B_ hB_));have hsz2:sz<18446744073709551616:=by omega
 unfold loadM
 cases hq:plcR m sz 1 (s.at_.regs B_)with
 |error e=>
  rw[hq]at hP;unfold insA at*;simp only[UnV,pan]at hP;simp only[Dv,pan];clear h hq hsz hsz2 hp hl;go_enter Tryz.func111,Tryz.ntmps111;go_upto_region 1 with fail
  refine wp_world (fun W=>MIn B W a P s (boxOb W0.heap.size #[.int .u8 op,.int .i64 A,.int .i64 B_,.int .i64 C_,.int .i64 m]::l)∧Below B W0 W) h2.out ?_;clear h2;rintro W ⟨h,hB⟩;generalize W0.heap.size=kb at*;have⟨_,p0,_⟩:=h.there (boxOb kb #[.int .u8 op,.int .i64 A,.int .i64 B_,.int .i64 C_,.int .i64 m]) (.head _);replace h:=ζ h;replace hB:=ζ hB;go_wp2_with(refine(hP.out _ _ h.out).mono ?_;rintro r X1 ⟨rfl,e1⟩);exact⟨rfl,rfl,(h.out.bl e1).1.drop,hB.out.trans (h.out.bl e1).2⟩
 |ok n=>
  rw[hq]at hP;obtain⟨hn1,hn2⟩:=plcR_nat hq;clear hq;simp only[UnV]at hP;rw[hn1]at hP;simp only;generalize n.toNat=ad at*;clear hn1;have hL:=ζ (fun X S km (q:TgIn S X km s.b s.t)=>T.tgLoad_any S km ad sz s.b s.t X q hn2 hsz2);have hLy:=ζ (fun X (q:MIn B X a P {s with tou:=s.tou++[⟨false,ad,sz⟩]} (boxOb W0.heap.size #[.int .u8 op,.int .i64 A,.int .i64 B_,.int .i64 C_,.int .i64 m]::l))=>lay_any B a A (intV (ldV s.b ad sz)) P _ _ X q hA hp);have hNt:=ζ (fun X l' (q:MIn B X a P s l')=>note_any B X a P s l' ⟨false,ad,sz⟩ q hl);simp only at hNt;have hI:Hz (∀X,Calls Tryz.prog 65 #[.int .u64 (ldV s.b ad sz)] X fun x w'=>x=.returned (.agg #[.bool false,.int .u64 (ldV s.b ad sz),.int .u64 0,.int .u64 0,.int .u64 0,.int .u8 0,.int .i64 0])∧Bl X w'):=ζ (fun X=>(integer_any _ X).mono (by rintro x w' ⟨rfl,rfl⟩;exact⟨rfl,(Bl.refl _).alloc _⟩));unfold insA at*;rw[show (intV (ldV s.b ad sz)).agg=.agg #[.bool false,.int .u64 (ldV s.b ad sz),.int .u64 0,.int .u64 0,.int .u64 0,.int .u8 0,.int .i64 0]from rfl]at hLy
  clear h hsz hsz2 hp hl hn2 hA hB_;by_cases he:ldE ad sz=0
  ·rw[if_pos he];rw[he]at hL;have hM:=ζ inMem_ok;simp only[Dv];go_enter Tryz.func111,Tryz.ntmps111;go_upto_region 1 with fail
   refine wp_world (fun W=>MIn B W a P s (boxOb W0.heap.size #[.int .u8 op,.int .i64 A,.int .i64 B_,.int .i64 C_,.int .i64 m]::l)∧Below B W0 W) h2.out ?_;clear h2;rintro W ⟨h,hB⟩;generalize W0.heap.size=kb at*;have⟨_,p0,_⟩:=h.there (boxOb kb #[.int .u8 op,.int .i64 A,.int .i64 B_,.int .i64 C_,.int .i64 m]) (.head _);replace h:=ζ h;replace hB:=ζ hB;go_wp2_with fail;refine(hP.out _ _ h.out).mono ?_;rintro r X1 ⟨rfl,e1⟩;replace hB:=ζ (hB.out.trans (h.out.bl e1).2);replace h:=ζ (h.out.bl e1).1;clear e1;obtain⟨km,SM,c4,hTg,hMm⟩:=h.out.mem;replace hMm:=ζ hMm;replace hTg:=ζ hTg;clear p0;go_wp2_with fail;refine(hL.out _ _ _ hTg.out).mono ?_;rintro r X2 ⟨rfl,e1⟩;clear hTg hMm c4;replace hB:=ζ (hB.out.trans (h.out.bl e1).2);replace h:=ζ (h.out.bl e1).1;clear e1;go_wp2_with fail;refine(hM.out _).mono ?_;rintro r X3 ⟨rfl,rfl⟩;go_wp2_with fail;refine(hNt.out _ _ h.out).mono ?_;rintro r Y4 ⟨rfl,h4,hB4⟩
   replace hB:=ζ (hB.out.trans hB4);replace h:=ζ h4;clear h4 hB4 hNt hP hL hM;go_upto_region 5 with fail
   replace hB:=ζ (hB.out.trans (h.out.bl (Bl.refl Y4).drew).2);replace h:=ζ (h.out.bl (Bl.refl Y4).drew).1;refine wp_region_held_drew (S:=(fun X=>X.cell? ⟨kb,1,none⟩=some (.int .i64 A))) (by kernel_rfl) ((h.out.there (boxOb kb #[.int .u8 op,.int .i64 A,.int .i64 B_,.int .i64 C_,.int .i64 m]) (.head _)).2.1 1) (fun hHeld=>?_);generalize Y4.drew=Y4d at*;refine xz 0 rfl (h:=xz 1 rfl (h:=xz 2 rfl (h:=xz 3 rfl (h:=?_))));try simp only[xap]
   refine xrd 4 rfl (fun K hK=>?_);go_simp;go_wp2_with(refine(hI.out _).mono ?_;rintro r Y5 ⟨rfl,e1⟩;replace hB:=ζ (hB.out.trans (h.out.bl e1).2);replace h:=ζ (h.out.bl e1).1;clear e1 hHeld);refine hK.out _ _ ((h.out.there (boxOb kb #[.int .u8 op,.int .i64 A,.int .i64 B_,.int .i64 C_,.int .i64 m]) (.head _)).2.1 1) (fun hHeld=>?_);clear hK K;try simp only[xap]
   refine xrd 5 rfl (fun K hK=>?_);go_simp;go_wp2_with(refine(hLy.out _ h.out).mono ?_;rintro r Y6 ⟨rfl,h6,hB6⟩;replace hB:=ζ (hB.out.trans hB6);replace h:=ζ h6;clear h6 hB6 hHeld);refine hK.out _ _ ((h.out.there (boxOb kb #[.int .u8 op,.int .i64 A,.int .i64 B_,.int .i64 C_,.int .i64 m]) (.head _)).2.1 1) (fun hHeld=>?_);clear hK K;try simp only[xap]
   refine xdn ?_ _;clear hHeld;go_wp2_with fail;go_end0;exact⟨rfl,h.out.drop,hB.out⟩
  ·rw[if_neg he];have hM:=ζ (fun X=>inMem_bad _ X he);simp only[Dv,pan]at hM ⊢;go_enter Tryz.func111,Tryz.ntmps111;go_upto_region 1 with fail
   refine wp_world (fun W=>MIn B W a P s (boxOb W0.heap.size #[.int .u8 op,.int .i64 A,.int .i64 B_,.int .i64 C_,.int .i64 m]::l)∧Below B W0 W) h2.out ?_;clear h2;rintro W ⟨h,hB⟩;generalize W0.heap.size=kb at*;have⟨_,p0,_⟩:=h.there (boxOb kb #[.int .u8 op,.int .i64 A,.int .i64 B_,.int .i64 C_,.int .i64 m]) (.head _);replace h:=ζ h;replace hB:=ζ hB;go_wp2_with fail;refine(hP.out _ _ h.out).mono ?_;rintro r X1 ⟨rfl,e1⟩;replace hB:=ζ (hB.out.trans (h.out.bl e1).2);replace h:=ζ (h.out.bl e1).1;clear e1;obtain⟨km,SM,c4,hTg,hMm⟩:=h.out.mem;replace hMm:=ζ hMm;replace hTg:=ζ hTg;clear p0;go_wp2_with fail;refine(hL.out _ _ _ hTg.out).mono ?_;rintro r X2 ⟨rfl,e1⟩;clear hTg hMm c4;replace hB:=ζ (hB.out.trans (h.out.bl e1).2);replace h:=ζ (h.out.bl e1).1;clear e1;go_wp2_with(refine(hM.out _).mono ?_;rintro r X3 ⟨rfl,rfl⟩);exact⟨rfl,rfl,h.out.drop,hB.out⟩
theorem store_any (B:Nat)(W0:World)(a:Nat)(P:PImg)(s:Ms)(l:List Ob)(op:Int)(A B_ C_:Nat)(m:Int)(sz:Nat)(h:MIn B W0 a P s l)(hA:A<16)(hB_:B_<16)(hp:s.at_.pc<1000000000)(hl:s.tou.length≤1000000)(hsz:sz=1∨sz=8):
 Calls Tryz.prog 112 #[.pointer (some ⟨a,0,none⟩),insA op A B_ C_ m,.int .u64 sz] W0 fun x w'=>Dv B W0 a P s l (storeM s A B_ m sz) x w':=by
 have h2:=ζ (h.new #[.int .u8 op,.int .i64 A,.int .i64 B_,.int .i64 C_,.int .i64 m] 29);have hsz2:sz<18446744073709551616:=by omega
 unfold storeM
 cases hg:(s.at_.regs A).g with
 |true=>
  rw[if_pos rfl];have hN:=ζ (fun X l' (q:MIn B X a P s l')=>number_badB a A (s.at_.regs A) X (q.rg A hA) hg);unfold insA at*;simp only[pan]at hN;simp only[Dv,pan];clear h hg hsz hsz2 hp hl;go_enter Tryz.func112,Tryz.ntmps112;go_upto_region 1 with fail
  refine wp_world (fun W=>MIn B W a P s (boxOb W0.heap.size #[.int .u8 op,.int .i64 A,.int .i64 B_,.int .i64 C_,.int .i64 m]::l)∧Below B W0 W) h2.out ?_;clear h2;rintro W ⟨h,hB⟩;generalize W0.heap.size=kb at*;have⟨_,p0,_⟩:=h.there (boxOb kb #[.int .u8 op,.int .i64 A,.int .i64 B_,.int .i64 C_,.int .i64 m]) (.head _);replace h:=ζ h;replace hB:=ζ hB;go_wp2_with(refine(hN.out _ _ h.out).mono ?_;rintro r X1 ⟨rfl,e1⟩);exact⟨rfl,rfl,(h.out.bl e1).1.drop,hB.out.trans (h.out.bl e1).2⟩
 |false=>
 rw[if_neg (by simp)];have hN:=ζ (fun X l' (q:MIn B X a P s l')=>number_okB a A (s.at_.regs A) X (q.rg A hA) hg);have hP:=ζ (fun X l' (q:MIn B X a P s l')=>place_any a op A B_ C_ m sz 2 (s.at_.regs B_) X (q.rg B_ hB_))
 cases hq:plcR m sz 2 (s.at_.regs B_)with
 |error e=>
  rw[hq]at hP;unfold insA at*;simp only[UnV,pan]at hP;simp only[Dv,pan];clear h hq hsz hsz2 hp hl hg;go_enter Tryz.func112,Tryz.ntmps112;go_upto_region 1 with fail
  refine wp_world (fun W=>MIn B W a P s (boxOb W0.heap.size #[.int .u8 op,.int .i64 A,.int .i64 B_,.int .i64 C_,.int .i64 m]::l)∧Below B W0 W) h2.out ?_;clear h2;rintro W ⟨h,hB⟩;generalize W0.heap.size=kb at*;have⟨_,p0,_⟩:=h.there (boxOb kb #[.int .u8 op,.int .i64 A,.int .i64 B_,.int .i64 C_,.int .i64 m]) (.head _);replace h:=ζ h;replace hB:=ζ hB;go_wp2_with fail;refine(hN.out _ _ h.out).mono ?_;rintro r X1 ⟨rfl,e1⟩;replace hB:=ζ (hB.out.trans (h.out.bl e1).2);replace h:=ζ (h.out.bl e1).1;clear e1;clear p0;have⟨_,p0,_⟩:=h.out.there (boxOb kb #[.int .u8 op,.int .i64 A,.int .i64 B_,.int .i64 C_,.int .i64 m]) (.head _);go_wp2_with(refine(hP.out _ _ h.out).mono ?_;rintro r X2 ⟨rfl,e2⟩);exact⟨rfl,rfl,(h.out.bl e2).1.drop,hB.out.trans (h.out.bl e2).2⟩
 |ok n=>
  rw[hq]at hP;obtain⟨hn1,hn2⟩:=plcR_nat hq;clear hq;simp only[UnV]at hP;rw[hn1]at hP;simp only;generalize n.toNat=ad at*;clear hn1;have hL:=ζ (fun X S km (q:TgIn S X km s.b s.t)=>T.tgStore_any S km ad sz (s.at_.regs A).n s.b s.t X q hn2 hsz2);have hNt:=ζ (fun X l' (q:MIn B X a P {s with b:=stB s.b ad sz (s.at_.regs A).n,t:=stT s.t ad sz} l')=>note_any B X a P _ l' ⟨true,ad,sz⟩ q hl);have hNx:=ζ (fun X l' (q:MIn B X a P {s with tou:=s.tou++[⟨true,ad,sz⟩],b:=stB s.b ad sz (s.at_.regs A).n,t:=stT s.t ad sz} l')=>next_any B a P _ l' X q hp);simp only at hNt;unfold insA at*;by_cases he:ldE ad sz=0
  ·rw[if_pos he];rw[he]at hL;have hM:=ζ inMem_ok;simp only[Dv];clear h hsz hsz2 hp hl hn2 hA hB_ hg he;go_enter Tryz.func112,Tryz.ntmps112;go_upto_region 1 with fail
   refine wp_world (fun W=>MIn B W a P s (boxOb W0.heap.size #[.int .u8 op,.int .i64 A,.int .i64 B_,.int .i64 C_,.int .i64 m]::l)∧Below B W0 W) h2.out ?_;clear h2;rintro W ⟨h,hB⟩;generalize W0.heap.size=kb at*;have⟨_,p0,_⟩:=h.there (boxOb kb #[.int .u8 op,.int .i64 A,.int .i64 B_,.int .i64 C_,.int .i64 m]) (.head _);replace h:=ζ h;replace hB:=ζ hB;go_wp2_with fail;refine(hN.out _ _ h.out).mono ?_;rintro r X1 ⟨rfl,e1⟩;replace hB:=ζ (hB.out.trans (h.out.bl e1).2);replace h:=ζ (h.out.bl e1).1;clear e1;clear p0;have⟨_,p0,_⟩:=h.out.there (boxOb kb #[.int .u8 op,.int .i64 A,.int .i64 B_,.int .i64 C_,.int .i64 m]) (.head _);go_wp2_with fail;refine(hP.out _ _ h.out).mono ?_;rintro r X2 ⟨rfl,e1⟩;replace hB:=ζ (hB.out.trans (h.out.bl e1).2);replace h:=ζ (h.out.bl e1).1;clear e1;obtain⟨km,SM,c4,hTg,hMm⟩:=h.out.mem;replace hMm:=ζ hMm;replace hTg:=ζ hTg;clear p0;go_wp2_with fail;refine(hL.out _ _ _ hTg.out).mono ?_
   rintro r X3 ⟨rfl,SM2,hT2,hm2⟩;obtain⟨h3,hB3⟩:=hMm.out _ _ _ _ hT2 hm2;replace hB:=ζ (hB.out.trans hB3);replace h:=ζ h3;clear hTg hMm c4 h3 hB3 hT2 hm2 hL hP hN;go_wp2_with fail;refine(hM.out _).mono ?_;rintro r X4 ⟨rfl,rfl⟩;go_wp2_with fail;refine(hNt.out _ _ h.out).mono ?_;rintro r Y4 ⟨rfl,h4,hB4⟩;replace hB:=ζ (hB.out.trans hB4);replace h:=ζ h4;clear h4 hB4 hNt hM;go_wp2_with fail;refine(hNx.out _ _ h.out).mono ?_;rintro r Y5 ⟨rfl,h5,hB5⟩;replace hB:=ζ (hB.out.trans hB5);replace h:=ζ h5;clear h5 hB5;go_wp2_with fail;go_end0;exact⟨rfl,h.out.drop,hB.out⟩
  ·rw[if_neg he];have hM:=ζ (fun X=>inMem_bad _ X he);have hsb:=ζ (store_bad (b:=s.b) (t:=s.t) (n:=(s.at_.regs A).n) he);simp only[Dv,pan]at hM ⊢;clear h hsz hsz2 hp hl hn2 hA hB_ hg he hNt hNx;go_enter Tryz.func112,Tryz.ntmps112;go_upto_region 1 with fail
   refine wp_world (fun W=>MIn B W a P s (boxOb W0.heap.size #[.int .u8 op,.int .i64 A,.int .i64 B_,.int .i64 C_,.int .i64 m]::l)∧Below B W0 W) h2.out ?_;clear h2;rintro W ⟨h,hB⟩;generalize W0.heap.size=kb at*;have⟨_,p0,_⟩:=h.there (boxOb kb #[.int .u8 op,.int .i64 A,.int .i64 B_,.int .i64 C_,.int .i64 m]) (.head _);replace h:=ζ h;replace hB:=ζ hB;go_wp2_with fail;refine(hN.out _ _ h.out).mono ?_;rintro r X1 ⟨rfl,e1⟩;replace hB:=ζ (hB.out.trans (h.out.bl e1).2);replace h:=ζ (h.out.bl e1).1;clear e1;clear p0;have⟨_,p0,_⟩:=h.out.there (boxOb kb #[.int .u8 op,.int .i64 A,.int .i64 B_,.int .i64 C_,.int .i64 m]) (.head _);go_wp2_with fail;refine(hP.out _ _ h.out).mono ?_;rintro r X2 ⟨rfl,e1⟩;replace hB:=ζ (hB.out.trans (h.out.bl e1).2);replace h:=ζ (h.out.bl e1).1;clear e1;obtain⟨km,SM,c4,hTg,hMm⟩:=h.out.mem;replace hMm:=ζ hMm;replace hTg:=ζ hTg;clear p0;go_wp2_with fail;refine(hL.out _ _ _ hTg.out).mono ?_
   rintro r X3 ⟨rfl,SM2,hT2,hm2⟩;rw[hsb.out.1,hsb.out.2]at hT2;obtain⟨h3,hB3⟩:=hMm.out _ _ _ _ hT2 hm2;replace hB:=ζ (hB.out.trans hB3);replace h:=ζ h3;clear hTg hMm c4 h3 hB3 hT2 hm2 hL hP hN hsb;go_wp2_with(refine(hM.out _).mono ?_;rintro r X4 ⟨rfl,rfl⟩);exact⟨rfl,rfl,h.out.drop,hB.out⟩
end C
end Go.Proofs.YtkhbiaaangnkdaaGreatDoor
