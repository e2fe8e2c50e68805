import Derived.Test.YtdidjhillmgccaaGreatP18
import Derived.Test.YtdidjhillmgccaaGreatZNew
import Derived.Test.YtdidjhillmgccaaGreatP20
import Derived.Test.YtdidjhillmgccaaGreatP15
namespace Go.Proofs.YtdidjhillmgccaaGreat
set_option maxRecDepth 100000
set_option maxHeartbeats 40000000
namespace Z
open Go.RowKit
open T (Sep Ob Kp Mf FlIn boxOb)
theorem kp_setsZ (w:World)(b:Nat)(vs:List Value)(o:Nat):Kp (fun k=>k=b) w (w.setCells b o vs):=by
 induction vs generalizing w o with
 |nil=>exact Kp.refl _ w
 |cons v r ih=>exact(Kp.set (S:=fun k=>k=b) w ⟨b,o,none⟩ v rfl).trans (ih (w.setCell ⟨b,o,none⟩ v) (o+1)) (fun _ q=>.inl q)
theorem run_end (B:Nat)(W:World)(a:Nat)(P:Pr)(l:List Ob)(n m:Nat)(f:Nat→Fm)(h:MIn B W a P (f 0) l)(hm:m≤n)(h0:∀k,k<m→(f k).e=0)(hG:∀k,k<m→Goes P (f k) (f (k+1)))(hE:m=n∨(f m).e≠0)(hn:n≤100000)(he:(f m).e≠0):
 Calls Tryz.prog 14 #[.pointer (some ⟨a,0,none⟩),.int .i64 n] W fun x w'=>x=.returned (.agg #[.int .i64 (f m).e,.int .u64 (f m).v,.int .i64 (f m).f,.int .i64 (f m).g,.int .i64 (f m).p])∧MIn B w' a P (f m) l∧Below B W w':=by
 have e2:((f m).e==0)=false:=by simpa using he
 replace he:=ζ he;have hni:(n:Int)≤100000:=by omega
 have h2:=ζ (h.new #[.int .i64 0,.int .u64 0,.int .i64 0,.int .i64 0,.int .i64 0] 62);clear h;go_enter Tryz.func14,Tryz.ntmps14;go_upto_region 1 with fail
 refine wp_world (fun V=>MIn B V a P (f 0) (boxOb W.heap.size #[.int .i64 0,.int .u64 0,.int .i64 0,.int .i64 0,.int .i64 0]::l)∧Below B W V) h2.out ?_;rintro V ⟨h,hB⟩;replace h:=ζ h;replace hB:=ζ hB;clear h2;generalize hkr:W.heap.size=kr at*;clear hkr;have hst:=ζ (steps_any B V a P _ n m f h.out hm h0 hG hE (by omega));replace h0:=ζ h0;replace hG:=ζ hG;replace hE:=ζ hE;go_wp2_with fail;rw[show min (n:Int) 100000=(n:Int)from Int.min_eq_left hni];refine hst.out.mono ?_;rintro r V8 ⟨rfl,h8,hB8⟩;replace hB:=ζ (hB.out.trans hB8);replace h8:=ζ h8;clear h hst hB8;have c26:=h8.out.e26;have hsd:=ζ (stands_any B V8 a P (f m) _ h8.out);go_upto_region 6 with fail
 have hle8:=h8.out.le;refine wp_region_lit ?_;refine xp fun K hK=>?_
 go_simp;with_reducible refine hK _ _ ?_
 clear hK K;try simp only[xap]
 refine xp fun K hK=>?_
 go_simp
 (refine hsd.out.mono ?_;rintro r V9 ⟨rfl,g9⟩)
 with_reducible refine hK _ _ ?_
 clear hK K;try simp only[xap]
 replace h8:=ζ (h8.out.gro g9);replace hB:Hz (Below B W V9):=ζ (hB.out.trans (g9.below.mono hle8));have hA9:At V9 kr #[.int .i64 0,.int .u64 0,.int .i64 0,.int .i64 0,.int .i64 0]:=h8.out.there (boxOb kr #[.int .i64 0,.int .u64 0,.int .i64 0,.int .i64 0,.int .i64 0]) (.head _);have hth:=ζ (At.there (cs:=[Value.int .i64 0,.int .u64 0,.int .i64 0,.int .i64 0,.int .i64 0]) hA9 0 5 (by decide));have hA10:=ζ (At.setAll (cs:=[Value.int .i64 0,.int .u64 0,.int .i64 0,.int .i64 0,.int .i64 0]) hA9 [Value.int .i64 (f m).e,.int .u64 (f m).v,.int .i64 (f m).f,.int .i64 (f m).g,.int .i64 (f m).p] rfl);have hk10:Kp (fun k=>k=kr) V9 (V9.setCells kr 0 [Value.int .i64 (f m).e,.int .u64 (f m).v,.int .i64 (f m).f,.int .i64 (f m).g,.int .i64 (f m).p]):=kp_setsZ V9 kr [Value.int .i64 (f m).e,.int .u64 (f m).v,.int .i64 (f m).f,.int .i64 (f m).g,.int .i64 (f m).p] 0;have h10:=h8.out.side (o':=boxOb kr (List.toArray [Value.int .i64 (f m).e,.int .u64 (f m).v,.int .i64 (f m).f,.int .i64 (f m).g,.int .i64 (f m).p])) hA10.out hk10 (fun _ r=>.inl r)
 replace hB:=ζ (hB.out.trans h10.2);replace h10:=ζ h10.1;clear h8 hA9 hk10 hsd g9;refine xp fun K hK=>?_
 refine wp_store_mid _ _ _ rfl _ _ (List.toArray [Value.int .i64 (f m).e,.int .u64 (f m).v,.int .i64 (f m).f,.int .i64 (f m).g,.int .i64 (f m).p]) rfl rfl hth.out (by kernel_rfl) (by simp[Value.oneCell']) (hK _ _ ?_);clear hK K;try simp only[Act.put]
 generalize World.setCells _ _ _ _=V11 at*;have hrun:=ζ (run_loadVar_mid (P:=Tryz.prog) V11 kr 0 62 [Value.int .i64 (f m).e,.int .u64 (f m).v,.int .i64 (f m).f,.int .i64 (f m).g,.int .i64 (f m).p] _ (fun j v q=>by rw[Nat.zero_add];exact(hA10.out.2.1 j).trans (by simpa using q)) Tryz.underlying62 rfl (by kernel_rfl));go_wp2_with fail;refine bodyPost_ret (v:=.agg #[.int .i64 (f m).e,.int .u64 (f m).v,.int .i64 (f m).f,.int .i64 (f m).g,.int .i64 (f m).p]) ?_ rfl ⟨rfl,h10.out.drop,hB.out⟩;exact results_rowZ Tryz.results14 _ _ rfl hrun.out
def sp (s:Fm):Fm:={s with e:=4,v:=0,f:=0}
theorem enter_all (op:Int)(h:Named op)(args:Array Value)(w:World):(callFunc (methF op) args).run Tryz.prog w=.ok (.enter (methF op) args) w:=by
 have hc:op=0∨op=1∨op=2∨op=3∨op=4∨op=5∨op=6∨op=7∨op=8∨op=9∨op=10∨op=11∨op=12∨op=13∨op=20∨op=21∨op=22∨op=23∨op=24∨op=27∨op=28∨op=29∨op=30∨op=31∨op=32∨op=60∨op=61∨op=62∨op=63∨op=64∨op=65∨op=70∨op=71∨op=72:=by unfold Named at h;omega
 clear h;rcases hc with rfl|rfl|rfl|rfl|rfl|rfl|rfl|rfl|rfl|rfl|rfl|rfl|rfl|rfl|rfl|rfl|rfl|rfl|rfl|rfl|rfl|rfl|rfl|rfl|rfl|rfl|rfl|rfl|rfl|rfl|rfl|rfl|rfl|rfl
 ·rw[show methF 0=98 from rfl];simp[go_sem]
 ·rw[show methF 1=85 from rfl];simp[go_sem]
 ·rw[show methF 2=86 from rfl];simp[go_sem]
 ·rw[show methF 3=87 from rfl];simp[go_sem]
 ·rw[show methF 4=88 from rfl];simp[go_sem]
 ·rw[show methF 5=89 from rfl];simp[go_sem]
 ·rw[show methF 6=90 from rfl];simp[go_sem]
 ·rw[show methF 7=91 from rfl];simp[go_sem]
 ·rw[show methF 8=92 from rfl];simp[go_sem]
 ·rw[show methF 9=93 from rfl];simp[go_sem]
 ·rw[show methF 10=94 from rfl];simp[go_sem]
 ·rw[show methF 11=95 from rfl];simp[go_sem]
 ·rw[show methF 12=96 from rfl];simp[go_sem]
 ·rw[show methF 13=97 from rfl];simp[go_sem]
 ·rw[show methF 20=99 from rfl];simp[go_sem]
 ·rw[show methF 21=100 from rfl];simp[go_sem]
 ·rw[show methF 22=101 from rfl];simp[go_sem]
 ·rw[show methF 23=102 from rfl];simp[go_sem]
 ·rw[show methF 24=103 from rfl];simp[go_sem]
 ·rw[show methF 27=104 from rfl];simp[go_sem]
 ·rw[show methF 28=105 from rfl];simp[go_sem]
 ·rw[show methF 29=106 from rfl];simp[go_sem]
 ·rw[show methF 30=107 from rfl];simp[go_sem]
 ·rw[show methF 31=108 from rfl];simp[go_sem]
 ·rw[show methF 32=109 from rfl];simp[go_sem]
 ·rw[show methF 60=110 from rfl];simp[go_sem]
 ·rw[show methF 61=111 from rfl];simp[go_sem]
 ·rw[show methF 62=112 from rfl];simp[go_sem]
 ·rw[show methF 63=113 from rfl];simp[go_sem]
 ·rw[show methF 64=114 from rfl];simp[go_sem]
 ·rw[show methF 65=115 from rfl];simp[go_sem]
 ·rw[show methF 70=116 from rfl];simp[go_sem]
 ·rw[show methF 71=117 from rfl];simp[go_sem]
 ·rw[show methF 72=118 from rfl];simp[go_sem]
theorem goes_of {P:Pr}{s s':Fm}(i:Fi)(hg:s.g<P.code.length)(hp:s.p<P.code[s.g].length)(hi:P.code[s.g][s.p]=i)(hn:Named i.op)(hI:∀B V a l,MIn B V a P s l→Calls Tryz.prog (methF i.op) #[.agg #[.int .u8 i.op,.int .i64 i.a,.int .i64 i.b,.int .i64 i.c,.int .u64 i.i],.pointer (some ⟨a,0,none⟩)] V fun x w'=>x=.returned (.tuple #[])∧MIn B w' a P s' l∧Below B V w'):Goes P s s':=by
 subst hi;exact fun B W a l h=>do_ok B W a P s l s' h hg hp (enter_all _ hn) (fun V hV=>hI B V a l hV)
theorem touches_any (B:Nat)(W:World)(a:Nat)(P:Pr)(s:Fm)(l:List Ob)(h:MIn B W a P s l)(hl:s.tc.length≤1000000):
 Calls Tryz.prog 15 #[.pointer (some ⟨a,0,none⟩)] W fun x w'=>∃v,x=.returned v∧w'.ownsRow W.heap.size 67 3 v s.tc.length (s.tc.flatMap Tc.vals)∧Below W.heap.size W w':=by
 have hcl:∃v0,W.cell? ⟨a,25,none⟩=some v0∧Calls Tryz.prog 27 #[v0] W fun x w'=>∃v,x=.returned v∧w'.ownsRow W.heap.size 67 3 v s.tc.length (s.tc.flatMap Tc.vals)∧Below W.heap.size W w':=by
  obtain⟨⟨q,h1⟩,le⟩:=h;have hb:=h1.ins (bxOb a (bxOf P s q)) (by simp[obs]);have hO:W.ownsRow B 67 3 q.tv s.tc.length (s.tc.flatMap Tc.vals):=h1.ins (tcOb B q.tv s.tc) (by simp[obs]);refine⟨_,hb.at_ 25 (by omega),?_⟩;show Calls Tryz.prog _ #[q.tv] W _;have hlt:=hO.lt;rcases hO.2 with⟨e1,e2⟩|⟨g,cap,cur,e1,hbb,hg,hc1,hc2,hc3,hc4⟩
  ·rw[e1];refine(clnil_tcs W).mono ?_;rintro x w' ⟨rfl,rfl⟩;have hx:=hO.1;rw[e2,Nat.zero_mul]at hx;rw[e2,List.length_eq_zero_iff.1 hx];exact⟨_,rfl,World.ownsRow_nil _ _ _ _,Below.refl _ _⟩
  ·rw[e1];refine clone_tcs g 0 s.tc.length cap (s.tc.flatMap Tc.vals) W (hlt g (by rw[e1];rfl)).2 hO.1 (fun j u hj=>?_) (fun u hu=>by
   obtain⟨y,_,hy⟩:=List.mem_flatMap.1 hu;simp only[Tc.vals,List.mem_cons,List.not_mem_nil,or_false]at hy;rcases hy with rfl|rfl|rfl<;>rfl) (Nat.le_trans hl (by decide))
   have hjl:j<s.tc.length*3:=by have:=(List.getElem?_eq_some_iff.1 hj).1;rwa [hO.1]at this
   rw[←hc4,List.getElem?_take_of_lt hjl]at hj;have:W.cell? ⟨g,0+j,none⟩=cur[j]?:=by simp[World.cell?,hg]
   rw[this,←hj];simp
 obtain⟨v0,c0,hcl⟩:=hcl;replace hcl:=ζ hcl;replace h:=ζ h;go_enter Tryz.func15,Tryz.ntmps15;go_wp2_with fail;refine hcl.out.mono ?_;rintro x w' ⟨v,rfl,h1,h2⟩;replace h1:=ζ h1;replace h2:=ζ h2;go_wp2_with fail;go_ret;exact⟨_,rfl,h1.out,h2.out⟩
theorem out_any (B:Nat)(W:World)(a:Nat)(P:Pr)(s:Fm)(l:List Ob)(h:MIn B W a P s l)(hl:s.out.length≤1000000):
 Calls Tryz.prog 31 #[.pointer (some ⟨a,0,none⟩)] W fun x w'=>∃v,x=.returned v∧w'.ownsRow W.heap.size 51 1 v s.out.length (s.out.map u64I)∧Below W.heap.size W w':=by
 have hcl:∃v0,W.cell? ⟨a,24,none⟩=some v0∧Calls Tryz.prog 26 #[v0] W fun x w'=>∃v,x=.returned v∧w'.ownsRow W.heap.size 51 1 v s.out.length (s.out.map u64I)∧Below W.heap.size W w':=by
  obtain⟨⟨q,h1⟩,le⟩:=h;have hb:=h1.ins (bxOb a (bxOf P s q)) (by simp[obs]);have hO:W.ownsRow B 51 1 q.ov_ s.out.length (s.out.map u64I):=h1.ins (ouOb B q.ov_ s.out) (by simp[obs]);refine⟨_,hb.at_ 24 (by omega),?_⟩;show Calls Tryz.prog _ #[q.ov_] W _;have hlt:=hO.lt;rcases hO.2 with⟨e1,e2⟩|⟨g,cap,cur,e1,hbb,hg,hc1,hc2,hc3,hc4⟩
  ·rw[e1];refine(clnil_u64 W).mono ?_;rintro x w' ⟨rfl,rfl⟩;have hx:=hO.1;rw[e2,Nat.zero_mul]at hx;rw[e2,List.length_eq_zero_iff.1 hx];exact⟨_,rfl,World.ownsRow_nil _ _ _ _,Below.refl _ _⟩
  ·rw[e1];refine clone_u64 g 0 s.out.length cap (s.out.map u64I) W (hlt g (by rw[e1];rfl)).2 hO.1 (fun j u hj=>?_) (fun u hu=>by
   obtain⟨y,_,rfl⟩:=List.mem_map.1 hu
   rfl) (Nat.le_trans hl (by decide))
   have hjl:j<s.out.length*1:=by have:=(List.getElem?_eq_some_iff.1 hj).1;rwa [hO.1]at this
   rw[←hc4,List.getElem?_take_of_lt hjl]at hj;have:W.cell? ⟨g,0+j,none⟩=cur[j]?:=by simp[World.cell?,hg]
   rw[this,←hj];simp
 obtain⟨v0,c0,hcl⟩:=hcl;replace hcl:=ζ hcl;replace h:=ζ h;go_enter Tryz.func31,Tryz.ntmps31;go_wp2_with fail;refine hcl.out.mono ?_;rintro x w' ⟨v,rfl,h1,h2⟩;replace h1:=ζ h1;replace h2:=ζ h2;go_wp2_with fail;go_ret;exact⟨_,rfl,h1.out,h2.out⟩
def Pr.gate (P:Pr)(k:Nat):Fg:=P.gates.getD k ⟨0,0,0,fun _=>0⟩
theorem Pr.gate_at (P:Pr)(k:Nat)(h:k<P.gates.length):P.gate k=P.gates[k]:=by unfold Pr.gate;simp[h]
def stp0 (s:Fm):Fm:={s with p:=s.p+1}
def stp1 (i:Fi)(s:Fm):Fm:={s with r:=updR s.r i.a (i.i),p:=s.p+1}
def stp2 (i:Fi)(s:Fm):Fm:={s with r:=updR s.r i.a (s.r i.b),p:=s.p+1}
def stp3 (i:Fi)(s:Fm):Fm:={s with r:=updR s.r i.a (IntKind.u64.wrap (s.r i.b+s.r i.c)),p:=s.p+1}
def stp4 (i:Fi)(s:Fm):Fm:={s with r:=updR s.r i.a (IntKind.u64.wrap (s.r i.b - s.r i.c)),p:=s.p+1}
def stp5 (i:Fi)(s:Fm):Fm:={s with r:=updR s.r i.a (IntKind.u64.wrap (s.r i.b*s.r i.c)),p:=s.p+1}
def stp6 (i:Fi)(s:Fm):Fm:={s with r:=updR s.r i.a (bits .and .u64 (s.r i.b) (s.r i.c)),p:=s.p+1}
def stp7 (i:Fi)(s:Fm):Fm:={s with r:=updR s.r i.a (bits .or .u64 (s.r i.b) (s.r i.c)),p:=s.p+1}
def stp8 (i:Fi)(s:Fm):Fm:={s with r:=updR s.r i.a (bits .xor .u64 (s.r i.b) (s.r i.c)),p:=s.p+1}
def stp9 (i:Fi)(s:Fm):Fm:={s with r:=updR s.r i.a (IntKind.u64.wrap (s.r i.b*2^min ((s.r i.c).tmod 64).toNat 64)),p:=s.p+1}
def stp10 (i:Fi)(s:Fm):Fm:={s with r:=updR s.r i.a (s.r i.b/2^min ((s.r i.c).tmod 64).toNat 64),p:=s.p+1}
def stp11 (i:Fi)(s:Fm):Fm:={s with r:=updR s.r i.a (IntKind.u64.wrap (s.r i.b+i.i)),p:=s.p+1}
def stp12 (i:Fi)(s:Fm):Fm:={s with r:=updR s.r i.a (if s.r i.b<s.r i.c then 1 else 0),p:=s.p+1}
def stp13 (i:Fi)(s:Fm):Fm:={s with r:=updR s.r i.a (if s.r i.b=s.r i.c then 1 else 0),p:=s.p+1}
def stp20 (i:Fi)(s:Fm):Fm:={s with p:=i.i.toNat}
def stp21 (i:Fi)(s:Fm):Fm:={s with p:=if(s.r i.a==s.r i.b)=true then i.i.toNat else s.p+1}
def stp22 (i:Fi)(s:Fm):Fm:={s with p:=if(s.r i.a != s.r i.b)=true then i.i.toNat else s.p+1}
def stp23 (i:Fi)(s:Fm):Fm:={s with p:=if decide (s.r i.a<s.r i.b)=true then i.i.toNat else s.p+1}
def stp24 (i:Fi)(s:Fm):Fm:={s with p:=if decide (s.r i.b≤s.r i.a)=true then i.i.toNat else s.p+1}
def stp27 (i:Fi)(s:Fm):Fm:={s with e:=1,v:=s.r i.a,f:=0}
def stp28 (i:Fi)(s:Fm):Fm:={s with e:=3,v:=i.i,f:=0}
def stp29 (i:Fi)(s:Fm):Fm:=match s.inp with|[]=>{s with e:=6,v:=0,f:=0}|n::L=>{s with inp:=L,r:=updR s.r i.a n,p:=s.p+1}
def stp30 (i:Fi)(s:Fm):Fm:={s with out:=s.out++[s.r i.a],p:=s.p+1}
def stp31 (P:Pr)(i:Fi)(s:Fm):Fm:=if P.dep≤s.st.length then{s with e:=5,v:=0,f:=0}else{s with g:=i.i.toNat,p:=(P.gate i.i.toNat).e,r:=entR (P.gate i.i.toNat) (P.gate i.i.toNat).a (fun k=>s.r (k+1)),st:=s.st++[⟨s.g,s.p+1,s.r⟩]}
def stp32 (P:Pr)(s:Fm):Fm:=match s.st.getLast? with|none=>{s with e:=1,v:=if(P.gate s.g).s=0 then 0 else s.r 1,f:=0}|some t=>{s with g:=t.g,p:=t.p,r:=entR ⟨t.p,0,0,t.r⟩ (P.gate s.g).s (fun k=>s.r (k+1)),st:=s.st.dropLast}
def stp60 (i:Fi)(s:Fm):Fm:=if 65536 - 1<IntKind.u64.wrap (s.r i.b+i.i)then{s with e:=7,v:=0,f:=5}else{s with tc:=s.tc++[⟨false,IntKind.u64.wrap (s.r i.b+i.i),1⟩],r:=updR s.r i.a (T.ldV s.m (IntKind.u64.wrap (s.r i.b+i.i)).toNat 1:Nat),p:=s.p+1}
def stp61 (i:Fi)(s:Fm):Fm:=if 65536 - 8<IntKind.u64.wrap (s.r i.b+i.i)then{s with e:=7,v:=0,f:=5}else{s with tc:=s.tc++[⟨false,IntKind.u64.wrap (s.r i.b+i.i),8⟩],r:=updR s.r i.a (T.ldV s.m (IntKind.u64.wrap (s.r i.b+i.i)).toNat 8:Nat),p:=s.p+1}
def stp62 (i:Fi)(s:Fm):Fm:=if 65536 - 1<IntKind.u64.wrap (s.r i.b+i.i)then{s with e:=7,v:=0,f:=5}else{s with tc:=s.tc++[⟨true,IntKind.u64.wrap (s.r i.b+i.i),1⟩],m:=T.stB s.m (IntKind.u64.wrap (s.r i.b+i.i)).toNat 1 (s.r i.a).toNat,p:=s.p+1}
def stp63 (i:Fi)(s:Fm):Fm:=if 65536 - 8<IntKind.u64.wrap (s.r i.b+i.i)then{s with e:=7,v:=0,f:=5}else{s with tc:=s.tc++[⟨true,IntKind.u64.wrap (s.r i.b+i.i),8⟩],m:=T.stB s.m (IntKind.u64.wrap (s.r i.b+i.i)).toNat 8 (s.r i.a).toNat,p:=s.p+1}
def stp64 (i:Fi)(s:Fm):Fm:=if 65536 - 16<IntKind.u64.wrap (s.r i.b+i.i)then{s with e:=7,v:=0,f:=5}else{s with tc:=s.tc++[⟨false,IntKind.u64.wrap (s.r i.b+i.i),16⟩],r:=updR s.r i.a (T.ldV s.m (IntKind.u64.wrap (s.r i.b+i.i)).toNat 8:Nat),p:=s.p+1}
def stp65 (i:Fi)(s:Fm):Fm:=if 65536 - 16<IntKind.u64.wrap (s.r i.b+i.i)then{s with e:=7,v:=0,f:=5}else{s with tc:=s.tc++[⟨true,IntKind.u64.wrap (s.r i.b+i.i),16⟩],m:=T.stB (T.stB s.m (IntKind.u64.wrap (s.r i.b+i.i)).toNat 8 (s.r i.a).toNat) ((IntKind.u64.wrap (s.r i.b+i.i)).toNat+8) 8 0,p:=s.p+1}
def stp70 (i:Fi)(s:Fm):Fm:=if decide (s.r i.a<i.i)=true then{s with p:=s.p+1}else{s with e:=2,v:=IntKind.u64.wrap i.c,f:=0}
def stp71 (i:Fi)(s:Fm):Fm:=if decide (i.i≤s.r i.a)=true then{s with p:=s.p+1}else{s with e:=2,v:=IntKind.u64.wrap i.c,f:=0}
def stp72 (i:Fi)(s:Fm):Fm:={s with e:=2,v:=IntKind.u64.wrap i.c,f:=0}
def stepI (P:Pr)(i:Fi)(s:Fm):Fm:=if i.op=0 then stp0 s else if i.op=1 then stp1 i s else if i.op=2 then stp2 i s else if i.op=3 then stp3 i s else if i.op=4 then stp4 i s else if i.op=5 then stp5 i s else if i.op=6 then stp6 i s else if i.op=7 then stp7 i s else if i.op=8 then stp8 i s else if i.op=9 then stp9 i s else if i.op=10 then stp10 i s else if i.op=11 then stp11 i s else if i.op=12 then stp12 i s else if i.op=13 then stp13 i s else if i.op=20 then stp20 i s else if i.op=21 then stp21 i s else if i.op=22 then stp22 i s else if i.op=23 then stp23 i s else if i.op=24 then stp24 i s else if i.op=27 then stp27 i s else if i.op=28 then stp28 i s else if i.op=29 then stp29 i s else if i.op=30 then stp30 i s else if i.op=31 then stp31 P i s else if i.op=32 then stp32 P s else if i.op=60 then stp60 i s else if i.op=61 then stp61 i s else if i.op=62 then stp62 i s else if i.op=63 then stp63 i s else if i.op=64 then stp64 i s else if i.op=65 then stp65 i s else if i.op=70 then stp70 i s else if i.op=71 then stp71 i s else if i.op=72 then stp72 i s else s
structure Fm.Ok (P:Pr)(s:Fm):Prop where
 g:s.g<P.code.length
 p:s.p≤400
 r:∀k,0≤s.r k∧s.r k<18446744073709551616
 st:(s.st.length:Int)≤P.dep
 fr:∀f∈s.st,f.g<P.code.length∧f.p≤400∧∀k,0≤f.r k∧f.r k<18446744073709551616
 inp:∀n∈s.inp,0≤n∧n<18446744073709551616
 il:s.inp.length≤140737488355328
 ol:s.out.length≤1000000
 tl:s.tc.length≤1000000
theorem step_all (P:Pr)(ok:P.Ok)(s:Fm)(i:Fi)(hs:s.Ok P)(ho:∃n,n≤400∧i.Ok n P.gates.length)(B:Nat)(V:World)(a:Nat)(l:List Ob)(h:MIn B V a P s l):
 Calls Tryz.prog (methF i.op) #[.agg #[.int .u8 i.op,.int .i64 i.a,.int .i64 i.b,.int .i64 i.c,.int .u64 i.i],.pointer (some ⟨a,0,none⟩)] V fun x w'=>x=.returned (.tuple #[])∧MIn B w' a P (stepI P i s) l∧Below B V w':=by
 obtain⟨n,hn4,ho⟩:=ho;have ia:=ho.a;have ib:=ho.b;have hp:s.p≤1000000:=Nat.le_trans hs.p (by omega);have hgs:P.code.length=P.gates.length:=ok.nc;have hc:i.op=0∨i.op=1∨i.op=2∨i.op=3∨i.op=4∨i.op=5∨i.op=6∨i.op=7∨i.op=8∨i.op=9∨i.op=10∨i.op=11∨i.op=12∨i.op=13∨i.op=20∨i.op=21∨i.op=22∨i.op=23∨i.op=24∨i.op=27∨i.op=28∨i.op=29∨i.op=30∨i.op=31∨i.op=32∨i.op=60∨i.op=61∨i.op=62∨i.op=63∨i.op=64∨i.op=65∨i.op=70∨i.op=71∨i.op=72:=by have:=ho.op;unfold Named at this;omega
 rcases hc with e|e|e|e|e|e|e|e|e|e|e|e|e|e|e|e|e|e|e|e|e|e|e|e|e|e|e|e|e|e|e|e|e|e
 ·skip
  rw[show methF i.op=98 by rw[e];rfl,show stepI P i s=stp0 s by unfold stepI;rw[e];rfl];exact h.onBox (s':=stp0 s) ⟨rfl,rfl,rfl,rfl,rfl⟩ (fun q hb=>nop_op a _ i V hb hp)
 ·skip
  rw[show methF i.op=85 by rw[e];rfl,show stepI P i s=stp1 i s by unfold stepI;rw[e];rfl];exact h.onBox (s':=stp1 i s) ⟨rfl,rfl,rfl,rfl,rfl⟩ (fun q hb=>li_op a _ i V hb ia hp)
 ·skip
  rw[show methF i.op=86 by rw[e];rfl,show stepI P i s=stp2 i s by unfold stepI;rw[e];rfl];exact h.onBox (s':=stp2 i s) ⟨rfl,rfl,rfl,rfl,rfl⟩ (fun q hb=>mov_op a _ i V hb ia ib hp)
 ·skip
  have ic:i.c<16:=by have:=ho.c;omega
  rw[show methF i.op=87 by rw[e];rfl,show stepI P i s=stp3 i s by unfold stepI;rw[e];rfl];exact h.onBox (s':=stp3 i s) ⟨rfl,rfl,rfl,rfl,rfl⟩ (fun q hb=>add_op a _ i V hb ia ib ic hp)
 ·skip
  have ic:i.c<16:=by have:=ho.c;omega
  rw[show methF i.op=88 by rw[e];rfl,show stepI P i s=stp4 i s by unfold stepI;rw[e];rfl];exact h.onBox (s':=stp4 i s) ⟨rfl,rfl,rfl,rfl,rfl⟩ (fun q hb=>sub_op a _ i V hb ia ib ic hp)
 ·skip
  have ic:i.c<16:=by have:=ho.c;omega
  rw[show methF i.op=89 by rw[e];rfl,show stepI P i s=stp5 i s by unfold stepI;rw[e];rfl];exact h.onBox (s':=stp5 i s) ⟨rfl,rfl,rfl,rfl,rfl⟩ (fun q hb=>mul_op a _ i V hb ia ib ic hp)
 ·skip
  have ic:i.c<16:=by have:=ho.c;omega
  rw[show methF i.op=90 by rw[e];rfl,show stepI P i s=stp6 i s by unfold stepI;rw[e];rfl];exact h.onBox (s':=stp6 i s) ⟨rfl,rfl,rfl,rfl,rfl⟩ (fun q hb=>and_op a _ i V hb ia ib ic hp)
 ·skip
  have ic:i.c<16:=by have:=ho.c;omega
  rw[show methF i.op=91 by rw[e];rfl,show stepI P i s=stp7 i s by unfold stepI;rw[e];rfl];exact h.onBox (s':=stp7 i s) ⟨rfl,rfl,rfl,rfl,rfl⟩ (fun q hb=>or_op a _ i V hb ia ib ic hp)
 ·skip
  have ic:i.c<16:=by have:=ho.c;omega
  rw[show methF i.op=92 by rw[e];rfl,show stepI P i s=stp8 i s by unfold stepI;rw[e];rfl];exact h.onBox (s':=stp8 i s) ⟨rfl,rfl,rfl,rfl,rfl⟩ (fun q hb=>xor_op a _ i V hb ia ib ic hp)
 ·skip
  have ic:i.c<16:=by have:=ho.c;omega
  rw[show methF i.op=93 by rw[e];rfl,show stepI P i s=stp9 i s by unfold stepI;rw[e];rfl];exact h.onBox (s':=stp9 i s) ⟨rfl,rfl,rfl,rfl,rfl⟩ (fun q hb=>shl_op a _ i V hb ia ib ic hp (hs.r i.c).1)
 ·skip
  have ic:i.c<16:=by have:=ho.c;omega
  rw[show methF i.op=94 by rw[e];rfl,show stepI P i s=stp10 i s by unfold stepI;rw[e];rfl];exact h.onBox (s':=stp10 i s) ⟨rfl,rfl,rfl,rfl,rfl⟩ (fun q hb=>shr_op a _ i V hb ia ib ic hp (hs.r i.c).1)
 ·skip
  rw[show methF i.op=95 by rw[e];rfl,show stepI P i s=stp11 i s by unfold stepI;rw[e];rfl];exact h.onBox (s':=stp11 i s) ⟨rfl,rfl,rfl,rfl,rfl⟩ (fun q hb=>addi_op a _ i V hb ia ib hp)
 ·skip
  have ic:i.c<16:=by have:=ho.c;omega
  rw[show methF i.op=96 by rw[e];rfl,show stepI P i s=stp12 i s by unfold stepI;rw[e];rfl];exact h.onBox (s':=stp12 i s) ⟨rfl,rfl,rfl,rfl,rfl⟩ (fun q hb=>slt_op a _ i V hb ia ib ic hp)
 ·skip
  have ic:i.c<16:=by have:=ho.c;omega
  rw[show methF i.op=97 by rw[e];rfl,show stepI P i s=stp13 i s by unfold stepI;rw[e];rfl];exact h.onBox (s':=stp13 i s) ⟨rfl,rfl,rfl,rfl,rfl⟩ (fun q hb=>seq_op a _ i V hb ia ib ic hp)
 ·skip
  have hj:0≤i.i∧i.i<1000:=⟨ho.im.1,by have:=ho.jm ⟨by omega,by omega⟩;omega⟩;rw[show methF i.op=99 by rw[e];rfl,show stepI P i s=stp20 i s by unfold stepI;rw[e];rfl];exact h.onBox (s':=stp20 i s) ⟨rfl,rfl,rfl,rfl,rfl⟩ (fun q hb=>jmp_op a _ i V hb hj)
 ·skip
  have hj:0≤i.i∧i.i<1000:=⟨ho.im.1,by have:=ho.jm ⟨by omega,by omega⟩;omega⟩;rw[show methF i.op=100 by rw[e];rfl,show stepI P i s=stp21 i s by unfold stepI;rw[e];rfl];refine h.onBox (s':=stp21 i s) ⟨rfl,rfl,rfl,rfl,rfl⟩ (fun q hb=>?_);refine(beq_op a _ i V hb ia ib hp hj).mono ?_;rintro x w' ⟨h1,h2⟩;refine⟨h1,?_⟩;unfold Fx.br at h2;unfold stp21
  split at h2<;>rename_i hq
  ·replace hq:(s.r i.a==s.r i.b)=true:=hq;rw[if_pos hq];exact h2
  ·replace hq:¬(s.r i.a==s.r i.b)=true:=hq;rw[if_neg hq];exact h2
 ·skip
  have hj:0≤i.i∧i.i<1000:=⟨ho.im.1,by have:=ho.jm ⟨by omega,by omega⟩;omega⟩;rw[show methF i.op=101 by rw[e];rfl,show stepI P i s=stp22 i s by unfold stepI;rw[e];rfl];refine h.onBox (s':=stp22 i s) ⟨rfl,rfl,rfl,rfl,rfl⟩ (fun q hb=>?_);refine(bne_op a _ i V hb ia ib hp hj).mono ?_;rintro x w' ⟨h1,h2⟩;refine⟨h1,?_⟩;unfold Fx.br at h2;unfold stp22
  split at h2<;>rename_i hq
  ·replace hq:(s.r i.a != s.r i.b)=true:=hq;rw[if_pos hq];exact h2
  ·replace hq:¬(s.r i.a != s.r i.b)=true:=hq;rw[if_neg hq];exact h2
 ·skip
  have hj:0≤i.i∧i.i<1000:=⟨ho.im.1,by have:=ho.jm ⟨by omega,by omega⟩;omega⟩;rw[show methF i.op=102 by rw[e];rfl,show stepI P i s=stp23 i s by unfold stepI;rw[e];rfl];refine h.onBox (s':=stp23 i s) ⟨rfl,rfl,rfl,rfl,rfl⟩ (fun q hb=>?_);refine(blt_op a _ i V hb ia ib hp hj).mono ?_;rintro x w' ⟨h1,h2⟩;refine⟨h1,?_⟩;unfold Fx.br at h2;unfold stp23
  split at h2<;>rename_i hq
  ·replace hq:decide (s.r i.a<s.r i.b)=true:=hq;rw[if_pos hq];exact h2
  ·replace hq:¬decide (s.r i.a<s.r i.b)=true:=hq;rw[if_neg hq];exact h2
 ·skip
  have hj:0≤i.i∧i.i<1000:=⟨ho.im.1,by have:=ho.jm ⟨by omega,by omega⟩;omega⟩;rw[show methF i.op=103 by rw[e];rfl,show stepI P i s=stp24 i s by unfold stepI;rw[e];rfl];refine h.onBox (s':=stp24 i s) ⟨rfl,rfl,rfl,rfl,rfl⟩ (fun q hb=>?_);refine(bge_op a _ i V hb ia ib hp hj).mono ?_;rintro x w' ⟨h1,h2⟩;refine⟨h1,?_⟩;unfold Fx.br at h2;unfold stp24
  split at h2<;>rename_i hq
  ·replace hq:decide (s.r i.b≤s.r i.a)=true:=hq;rw[if_pos hq];exact h2
  ·replace hq:¬decide (s.r i.b≤s.r i.a)=true:=hq;rw[if_neg hq];exact h2
 ·skip
  rw[show methF i.op=104 by rw[e];rfl,show stepI P i s=stp27 i s by unfold stepI;rw[e];rfl];exact h.onBox (s':=stp27 i s) ⟨rfl,rfl,rfl,rfl,rfl⟩ (fun q hb=>halt_op a _ i V hb ia)
 ·skip
  rw[show methF i.op=105 by rw[e];rfl,show stepI P i s=stp28 i s by unfold stepI;rw[e];rfl];exact h.onBox (s':=stp28 i s) ⟨rfl,rfl,rfl,rfl,rfl⟩ (fun q hb=>trap_op a _ i V hb)
 ·skip
  rw[show methF i.op=106 by rw[e];rfl,show stepI P i s=stp29 i s by unfold stepI;rw[e];rfl]
  cases hi:s.inp with
  |nil=>
   rw[show stp29 i s={s with e:=6,v:=0,f:=0}by simp[stp29,hi]];exact takeIn_none B V a P s l i h hi
  |cons n L=>
   rw[show stp29 i s={s with inp:=L,r:=updR s.r i.a n,p:=s.p+1}by simp[stp29,hi]];exact takeIn_some B V a P s l i n L h hi (by have:=hs.il;rw[hi]at this;simp at this;omega) ia hp
 ·skip
  rw[show methF i.op=107 by rw[e];rfl,show stepI P i s=stp30 i s by unfold stepI;rw[e];rfl];exact putOut_op B V a P s l i h ia hs.ol hp
 ·skip
  rw[show methF i.op=108 by rw[e];rfl,show stepI P i s=stp31 P i s by unfold stepI;rw[e];rfl];unfold stp31;by_cases hq:P.dep≤s.st.length
  ·rw[if_pos hq];exact call_full B V a P s l i h hq
  ·rw[if_neg hq];have hcl:=ho.cl e;have him:=ho.im.1;have hgl:i.i.toNat<P.gates.length:=by omega
   have hd:=ok.dp;rw[P.gate_at _ hgl];exact call_ok B V a P s l i i.i.toNat h (by omega) (by omega) hgl (by have:=ok.n1;omega) (ok.gate _ hgl (by omega)).2.1 (by omega) hp
 ·skip
  rw[show methF i.op=109 by rw[e];rfl,show stepI P i s=stp32 P s by unfold stepI;rw[e];rfl];have hgl:s.g<P.gates.length:=by rw[←hgs];exact hs.g
  have h7:=(ok.gate s.g hgl hs.g).2.2;have hg:=P.gate_at _ hgl;have hd:=ok.dp;have hsl:=hs.st;rcases List.eq_nil_or_concat s.st with hz|⟨L,t,hz⟩
  ·by_cases h0:P.gates[s.g].s=0
   ·rw[show stp32 P s={s with e:=1,v:=0,f:=0}by simp[stp32,hz,hg,h0]];exact ret_end0 B V a P s l i h hgl h7 hz h0
   ·rw[show stp32 P s={s with e:=1,v:=s.r 1,f:=0}by simp[stp32,hz,hg,h0]];exact ret_end1 B V a P s l i h hgl h7 hz h0
  ·rw[List.concat_eq_append]at hz;rw[show stp32 P s={s with g:=t.g,p:=t.p,r:=entR ⟨t.p,0,0,t.r⟩ P.gates[s.g].s (fun k=>s.r (k+1)),st:=L}by simp[stp32,hz,hg]];exact ret_ok B V a P s l i L t h hgl h7 hz (by rw[hz,List.length_append]at hsl;simp at hsl;omega)
 ·skip
  rw[show methF i.op=110 by rw[e];rfl,show stepI P i s=stp60 i s by unfold stepI;rw[e];rfl];unfold stp60;by_cases hq:65536 - 1<IntKind.u64.wrap (s.r i.b+i.i)
  ·rw[if_pos hq];exact loadByte_bad B V a P s l i h ib hq
  ·rw[if_neg hq];exact loadByte_ok B V a P s l i h ia ib (by omega) hs.tl hp
 ·skip
  rw[show methF i.op=111 by rw[e];rfl,show stepI P i s=stp61 i s by unfold stepI;rw[e];rfl];unfold stp61;by_cases hq:65536 - 8<IntKind.u64.wrap (s.r i.b+i.i)
  ·rw[if_pos hq];exact loadWord_bad B V a P s l i h ib hq
  ·rw[if_neg hq];exact loadWord_ok B V a P s l i h ia ib (by omega) hs.tl hp
 ·skip
  rw[show methF i.op=112 by rw[e];rfl,show stepI P i s=stp62 i s by unfold stepI;rw[e];rfl];unfold stp62;by_cases hq:65536 - 1<IntKind.u64.wrap (s.r i.b+i.i)
  ·rw[if_pos hq];exact storeByte_bad B V a P s l i h ib hq
  ·rw[if_neg hq];exact storeByte_ok B V a P s l i h ia ib (by omega) hs.tl hp (hs.r i.a)
 ·skip
  rw[show methF i.op=113 by rw[e];rfl,show stepI P i s=stp63 i s by unfold stepI;rw[e];rfl];unfold stp63;by_cases hq:65536 - 8<IntKind.u64.wrap (s.r i.b+i.i)
  ·rw[if_pos hq];exact storeWord_bad B V a P s l i h ib hq
  ·rw[if_neg hq];exact storeWord_ok B V a P s l i h ia ib (by omega) hs.tl hp (hs.r i.a)
 ·skip
  rw[show methF i.op=114 by rw[e];rfl,show stepI P i s=stp64 i s by unfold stepI;rw[e];rfl];unfold stp64;by_cases hq:65536 - 16<IntKind.u64.wrap (s.r i.b+i.i)
  ·rw[if_pos hq];exact loadGranule_bad B V a P s l i h ib hq
  ·rw[if_neg hq];exact loadGranule_ok B V a P s l i h ia ib (by omega) hs.tl hp
 ·skip
  rw[show methF i.op=115 by rw[e];rfl,show stepI P i s=stp65 i s by unfold stepI;rw[e];rfl];unfold stp65;by_cases hq:65536 - 16<IntKind.u64.wrap (s.r i.b+i.i)
  ·rw[if_pos hq];exact storeGranule_bad B V a P s l i h ib hq
  ·rw[if_neg hq];exact storeGranule_ok B V a P s l i h ia ib (by omega) hs.tl hp (hs.r i.a)
 ·skip
  rw[show methF i.op=116 by rw[e];rfl,show stepI P i s=stp70 i s by unfold stepI;rw[e];rfl];unfold stp70;by_cases hq:decide (s.r i.a<i.i)=true
  ·rw[if_pos hq];refine h.onBox (s':={s with p:=s.p+1}) ⟨rfl,rfl,rfl,rfl,rfl⟩ (fun q hb=>?_);refine(guardBelow_op a _ i V hb ia hp).mono ?_;rintro x w' ⟨h1,h2⟩;unfold Fx.dm at h2;rw[if_pos (show decide ((bxOf P s q).r i.a<i.i)=true from hq)]at h2;exact⟨h1,h2⟩
  ·rw[if_neg hq];refine h.onBox (s':={s with e:=2,v:=IntKind.u64.wrap i.c,f:=0}) ⟨rfl,rfl,rfl,rfl,rfl⟩ (fun q hb=>?_);refine(guardBelow_op a _ i V hb ia hp).mono ?_;rintro x w' ⟨h1,h2⟩;unfold Fx.dm at h2;rw[if_neg (show ¬decide ((bxOf P s q).r i.a<i.i)=true from hq)]at h2;exact⟨h1,h2⟩
 ·skip
  rw[show methF i.op=117 by rw[e];rfl,show stepI P i s=stp71 i s by unfold stepI;rw[e];rfl];unfold stp71;by_cases hq:decide (i.i≤s.r i.a)=true
  ·rw[if_pos hq];refine h.onBox (s':={s with p:=s.p+1}) ⟨rfl,rfl,rfl,rfl,rfl⟩ (fun q hb=>?_);refine(guardNotBelow_op a _ i V hb ia hp).mono ?_;rintro x w' ⟨h1,h2⟩;unfold Fx.dm at h2;rw[if_pos (show decide (i.i≤(bxOf P s q).r i.a)=true from hq)]at h2;exact⟨h1,h2⟩
  ·rw[if_neg hq];refine h.onBox (s':={s with e:=2,v:=IntKind.u64.wrap i.c,f:=0}) ⟨rfl,rfl,rfl,rfl,rfl⟩ (fun q hb=>?_);refine(guardNotBelow_op a _ i V hb ia hp).mono ?_;rintro x w' ⟨h1,h2⟩;unfold Fx.dm at h2;rw[if_neg (show ¬decide (i.i≤(bxOf P s q).r i.a)=true from hq)]at h2;exact⟨h1,h2⟩
 ·skip
  rw[show methF i.op=118 by rw[e];rfl,show stepI P i s=stp72 i s by unfold stepI;rw[e];rfl];exact h.onBox (s':=stp72 i s) ⟨rfl,rfl,rfl,rfl,rfl⟩ (fun q hb=>guard_op a _ i V hb hp)
def Wd (n:Int):Prop:=0≤n∧n<18446744073709551616
theorem wd_wrap (n:Int):Wd (IntKind.u64.wrap n):=by unfold Wd;rw[IntKind.wrap_u64];omega
theorem wd_bits (op:BinOp)(a b:Int):Wd (bits op .u64 a b):=by
 have h:=bits_within op .u64 a b;simp only[IntKind.min,IntKind.max,IntKind.signed,IntKind.bits,Bool.false_eq_true,if_false]at h;exact⟨h.1,by have:=h.2;omega⟩
theorem wd_ld (m:Nat→UInt8)(n k:Nat)(hk:k≤8):Wd ((T.ldV m n k:Nat):Int):=by
 unfold T.ldV
 split
 ·have h:=T.leB_lt m n k;have h2:2^(8*k)≤2^64:=Nat.pow_le_pow_right (by omega) (by omega);exact⟨by omega,by have:T.leB m n k<18446744073709551616:=Nat.lt_of_lt_of_le h h2;omega⟩
 ·exact⟨by decide,by decide⟩
theorem wd_div {n:Int}(h:Wd n)(k:Nat):Wd (n/2^k):=by
 have hp:(0:Int)<2^k:=Int.pow_pos (by decide);exact⟨Int.ediv_nonneg h.1 (Int.le_of_lt hp),Int.lt_of_le_of_lt (Int.ediv_le_self _ h.1) h.2⟩
theorem wd_01 (p:Prop) [Decidable p]:Wd (if p then 1 else 0):=by split<;>exact⟨by decide,by decide⟩
theorem wd_upd {r:Nat→Int}(h:∀k,Wd (r k))(i:Nat){v:Int}(hv:Wd v):∀k,Wd (updR r i v k):=by
 intro k;unfold updR
 split
 ·exact hv
 ·exact h k
theorem wd_ent (g:Fg)(n:Nat){A:Nat→Int}(hg:∀k,Wd (g.r k))(hA:∀k,Wd (A k)):∀k,Wd (entR g n A k):=by
 intro k;unfold entR
 split
 ·exact hA _
 ·exact hg k
structure Fm.Okn (P:Pr)(n:Nat)(s:Fm):Prop where
 g:s.g<P.code.length
 p:s.p≤400
 r:∀k,Wd (s.r k)
 st:(s.st.length:Int)≤P.dep
 fr:∀f∈s.st,f.g<P.code.length∧f.p≤400∧∀k,Wd (f.r k)
 inp:∀n∈s.inp,Wd n
 il:s.inp.length≤140737488355328
 out:∀n∈s.out,Wd n
 ol:s.out.length≤n
 tl:s.tc.length≤n
 v:Wd s.v
theorem Fm.Okn.ok {P:Pr}{n:Nat}{s:Fm}(h:s.Okn P n)(hn:n≤1000000):s.Ok P:=⟨h.g,h.p,h.r,h.st,h.fr,h.inp,h.il,Nat.le_trans h.ol hn,Nat.le_trans h.tl hn⟩
theorem Fm.Okn.mono {P:Pr}{n m:Nat}{s:Fm}(h:s.Okn P n)(hn:n≤m):s.Okn P m:=⟨h.g,h.p,h.r,h.st,h.fr,h.inp,h.il,h.out,Nat.le_trans h.ol hn,Nat.le_trans h.tl hn,h.v⟩
theorem Fm.Okn.end {P:Pr}{n:Nat}{s:Fm}(h:s.Okn P n)(e f:Int){v:Int}(hv:Wd v):({s with e:=e,v:=v,f:=f}:Fm).Okn P n:=⟨h.g,h.p,h.r,h.st,h.fr,h.inp,h.il,h.out,h.ol,h.tl,hv⟩
theorem Fm.Okn.at {P:Pr}{n:Nat}{s:Fm}(h:s.Okn P n){p:Nat}(hp:p≤400):({s with p:=p}:Fm).Okn P n:=⟨h.g,hp,h.r,h.st,h.fr,h.inp,h.il,h.out,h.ol,h.tl,h.v⟩
theorem Fm.Okn.lay {P:Pr}{n:Nat}{s:Fm}(h:s.Okn P n)(i:Nat){v:Int}(hv:Wd v){p:Nat}(hp:p≤400):({s with r:=updR s.r i v,p:=p}:Fm).Okn P n:=⟨h.g,hp,wd_upd h.r i hv,h.st,h.fr,h.inp,h.il,h.out,h.ol,h.tl,h.v⟩
theorem wd0:Wd 0:=⟨by decide,by decide⟩
def Pr.Rr (P:Pr):Prop:=∀k,∀j,Wd ((P.gate k).r j)
theorem okn_step (P:Pr)(ok:P.Ok)(rr:P.Rr)(s:Fm)(i:Fi)(n m:Nat)(hs:s.Okn P n)(hm:m≤400)(ho:i.Ok m P.gates.length)(hp:s.p<m):(stepI P i s).Okn P (n+1):=by
 have h1:=hs.mono (Nat.le_succ n);have h2:s.p+1≤400:=by omega
 have hgs:P.code.length=P.gates.length:=ok.nc;have hc:i.op=0∨i.op=1∨i.op=2∨i.op=3∨i.op=4∨i.op=5∨i.op=6∨i.op=7∨i.op=8∨i.op=9∨i.op=10∨i.op=11∨i.op=12∨i.op=13∨i.op=20∨i.op=21∨i.op=22∨i.op=23∨i.op=24∨i.op=27∨i.op=28∨i.op=29∨i.op=30∨i.op=31∨i.op=32∨i.op=60∨i.op=61∨i.op=62∨i.op=63∨i.op=64∨i.op=65∨i.op=70∨i.op=71∨i.op=72:=by have:=ho.op;unfold Named at this;omega
 rcases hc with e|e|e|e|e|e|e|e|e|e|e|e|e|e|e|e|e|e|e|e|e|e|e|e|e|e|e|e|e|e|e|e|e|e
 ·skip
  rw[show stepI P i s=stp0 s by unfold stepI;rw[e];rfl];exact h1.at h2
 ·skip
  rw[show stepI P i s=stp1 i s by unfold stepI;rw[e];rfl];exact h1.lay _ ho.im h2
 ·skip
  rw[show stepI P i s=stp2 i s by unfold stepI;rw[e];rfl];exact h1.lay _ (hs.r _) h2
 ·skip
  rw[show stepI P i s=stp3 i s by unfold stepI;rw[e];rfl];exact h1.lay _ (wd_wrap _) h2
 ·skip
  rw[show stepI P i s=stp4 i s by unfold stepI;rw[e];rfl];exact h1.lay _ (wd_wrap _) h2
 ·skip
  rw[show stepI P i s=stp5 i s by unfold stepI;rw[e];rfl];exact h1.lay _ (wd_wrap _) h2
 ·skip
  rw[show stepI P i s=stp6 i s by unfold stepI;rw[e];rfl];exact h1.lay _ (wd_bits _ _ _) h2
 ·skip
  rw[show stepI P i s=stp7 i s by unfold stepI;rw[e];rfl];exact h1.lay _ (wd_bits _ _ _) h2
 ·skip
  rw[show stepI P i s=stp8 i s by unfold stepI;rw[e];rfl];exact h1.lay _ (wd_bits _ _ _) h2
 ·skip
  rw[show stepI P i s=stp9 i s by unfold stepI;rw[e];rfl];exact h1.lay _ (wd_wrap _) h2
 ·skip
  rw[show stepI P i s=stp10 i s by unfold stepI;rw[e];rfl];exact h1.lay _ (wd_div (hs.r _) _) h2
 ·skip
  rw[show stepI P i s=stp11 i s by unfold stepI;rw[e];rfl];exact h1.lay _ (wd_wrap _) h2
 ·skip
  rw[show stepI P i s=stp12 i s by unfold stepI;rw[e];rfl];exact h1.lay _ (wd_01 _) h2
 ·skip
  rw[show stepI P i s=stp13 i s by unfold stepI;rw[e];rfl];exact h1.lay _ (wd_01 _) h2
 ·skip
  rw[show stepI P i s=stp20 i s by unfold stepI;rw[e];rfl];have hj:i.i.toNat≤400:=by have:=ho.jm ⟨by omega,by omega⟩;have:=ho.im;omega
  exact h1.at hj
 ·skip
  rw[show stepI P i s=stp21 i s by unfold stepI;rw[e];rfl];have hj:i.i.toNat≤400:=by have:=ho.jm ⟨by omega,by omega⟩;have:=ho.im;omega
  unfold stp21;refine h1.at ?_
  split
  ·exact hj
  ·exact h2
 ·skip
  rw[show stepI P i s=stp22 i s by unfold stepI;rw[e];rfl];have hj:i.i.toNat≤400:=by have:=ho.jm ⟨by omega,by omega⟩;have:=ho.im;omega
  unfold stp22;refine h1.at ?_
  split
  ·exact hj
  ·exact h2
 ·skip
  rw[show stepI P i s=stp23 i s by unfold stepI;rw[e];rfl];have hj:i.i.toNat≤400:=by have:=ho.jm ⟨by omega,by omega⟩;have:=ho.im;omega
  unfold stp23;refine h1.at ?_
  split
  ·exact hj
  ·exact h2
 ·skip
  rw[show stepI P i s=stp24 i s by unfold stepI;rw[e];rfl];have hj:i.i.toNat≤400:=by have:=ho.jm ⟨by omega,by omega⟩;have:=ho.im;omega
  unfold stp24;refine h1.at ?_
  split
  ·exact hj
  ·exact h2
 ·skip
  rw[show stepI P i s=stp27 i s by unfold stepI;rw[e];rfl];exact h1.end _ _ (hs.r _)
 ·skip
  rw[show stepI P i s=stp28 i s by unfold stepI;rw[e];rfl];exact h1.end _ _ ho.im
 ·skip
  rw[show stepI P i s=stp29 i s by unfold stepI;rw[e];rfl]
  cases hi:s.inp with
  |nil=>
   rw[show stp29 i s={s with e:=6,v:=0,f:=0}by simp[stp29,hi]];exact h1.end _ _ wd0
  |cons x L=>
   rw[show stp29 i s={s with inp:=L,r:=updR s.r i.a x,p:=s.p+1}by simp[stp29,hi]];exact⟨h1.g,h2,wd_upd h1.r _ (hs.inp x (by simp[hi])),h1.st,h1.fr,fun y hy=>hs.inp y (by simp[hi,hy]),by have:=hs.il;rw[hi]at this;simp at this;show L.length≤_;omega,h1.out,h1.ol,h1.tl,h1.v⟩
 ·skip
  rw[show stepI P i s=stp30 i s by unfold stepI;rw[e];rfl];refine⟨h1.g,h2,h1.r,h1.st,h1.fr,h1.inp,h1.il,fun y hy=>?_,by have:=hs.ol;simp[stp30];omega,h1.tl,h1.v⟩;simp only[stp30,List.mem_append,List.mem_singleton]at hy;rcases hy with hy|rfl
  ·exact hs.out y hy
  ·exact hs.r _
 ·skip
  rw[show stepI P i s=stp31 P i s by unfold stepI;rw[e];rfl];unfold stp31
  split
  ·exact h1.end _ _ wd0
  ·rename_i hd
   have hcl:=ho.cl e;have him:=ho.im.1;have hgl:i.i.toNat<P.gates.length:=by omega
   have hgc:i.i.toNat<P.code.length:=by omega
   have hge:=(ok.gate _ hgl hgc).1;have hr4:=(ok.row _ (List.getElem_mem hgc)).1.2;refine⟨hgc,?_,wd_ent _ _ (rr _) (fun k=>hs.r (k+1)),?_,fun f hf=>?_,h1.inp,h1.il,h1.out,h1.ol,h1.tl,h1.v⟩
   ·show(P.gate i.i.toNat).e≤400;rw[P.gate_at _ hgl];omega
   ·show((s.st++[_]).length:Int)≤P.dep;rw[List.length_append];simp;omega
   ·rcases List.mem_append.1 hf with hf|hf
    ·exact hs.fr f hf
    ·rw[List.mem_singleton.1 hf];exact⟨hs.g,h2,hs.r⟩
 ·skip
  rw[show stepI P i s=stp32 P s by unfold stepI;rw[e];rfl];have hsl:=hs.st;rcases List.eq_nil_or_concat s.st with hz|⟨L,t,hz⟩
  ·rw[show stp32 P s={s with e:=1,v:=if(P.gate s.g).s=0 then 0 else s.r 1,f:=0}by simp[stp32,hz]];refine h1.end _ _ ?_
   split
   ·exact wd0
   ·exact hs.r _
  ·rw[List.concat_eq_append]at hz;rw[show stp32 P s={s with g:=t.g,p:=t.p,r:=entR ⟨t.p,0,0,t.r⟩ (P.gate s.g).s (fun k=>s.r (k+1)),st:=L}by simp[stp32,hz]];have ht:=hs.fr t (by simp[hz]);exact⟨ht.1,ht.2.1,wd_ent _ _ ht.2.2 (fun k=>hs.r (k+1)),by rw[hz,List.length_append]at hsl;simp at hsl;show(L.length:Int)≤P.dep;omega,fun f hf=>hs.fr f (by simp[hz,hf]),h1.inp,h1.il,h1.out,h1.ol,h1.tl,h1.v⟩
 ·skip
  rw[show stepI P i s=stp60 i s by unfold stepI;rw[e];rfl];unfold stp60
  split
  ·exact h1.end _ _ wd0
  ·exact⟨h1.g,h2,wd_upd h1.r _ (wd_ld _ _ _ (by omega)),h1.st,h1.fr,h1.inp,h1.il,h1.out,h1.ol,by have:=hs.tl;simp;omega,h1.v⟩
 ·skip
  rw[show stepI P i s=stp61 i s by unfold stepI;rw[e];rfl];unfold stp61
  split
  ·exact h1.end _ _ wd0
  ·exact⟨h1.g,h2,wd_upd h1.r _ (wd_ld _ _ _ (by omega)),h1.st,h1.fr,h1.inp,h1.il,h1.out,h1.ol,by have:=hs.tl;simp;omega,h1.v⟩
 ·skip
  rw[show stepI P i s=stp62 i s by unfold stepI;rw[e];rfl];unfold stp62
  split
  ·exact h1.end _ _ wd0
  ·exact⟨h1.g,h2,h1.r,h1.st,h1.fr,h1.inp,h1.il,h1.out,h1.ol,by have:=hs.tl;simp;omega,h1.v⟩
 ·skip
  rw[show stepI P i s=stp63 i s by unfold stepI;rw[e];rfl];unfold stp63
  split
  ·exact h1.end _ _ wd0
  ·exact⟨h1.g,h2,h1.r,h1.st,h1.fr,h1.inp,h1.il,h1.out,h1.ol,by have:=hs.tl;simp;omega,h1.v⟩
 ·skip
  rw[show stepI P i s=stp64 i s by unfold stepI;rw[e];rfl];unfold stp64
  split
  ·exact h1.end _ _ wd0
  ·exact⟨h1.g,h2,wd_upd h1.r _ (wd_ld _ _ _ (by omega)),h1.st,h1.fr,h1.inp,h1.il,h1.out,h1.ol,by have:=hs.tl;simp;omega,h1.v⟩
 ·skip
  rw[show stepI P i s=stp65 i s by unfold stepI;rw[e];rfl];unfold stp65
  split
  ·exact h1.end _ _ wd0
  ·exact⟨h1.g,h2,h1.r,h1.st,h1.fr,h1.inp,h1.il,h1.out,h1.ol,by have:=hs.tl;simp;omega,h1.v⟩
 ·skip
  rw[show stepI P i s=stp70 i s by unfold stepI;rw[e];rfl];unfold stp70
  split
  ·exact h1.at h2
  ·exact h1.end _ _ (wd_wrap _)
 ·skip
  rw[show stepI P i s=stp71 i s by unfold stepI;rw[e];rfl];unfold stp71
  split
  ·exact h1.at h2
  ·exact h1.end _ _ (wd_wrap _)
 ·skip
  rw[show stepI P i s=stp72 i s by unfold stepI;rw[e];rfl];exact h1.end _ _ (wd_wrap _)
def stepM (P:Pr)(s:Fm):Fm:=match (P.code.getD s.g [])[s.p]? with|some i=>stepI P i s|none=>{s with e:=7,v:=0,f:=8}
theorem goes_all (P:Pr)(ok:P.Ok)(s:Fm)(hs:s.Ok P):Goes P s (stepM P s):=by
 have hg:=hs.g;have e1:P.code.getD s.g []=P.code[s.g]:=by simp[hg]
 by_cases hp:s.p<P.code[s.g].length
 ·have hi:stepM P s=stepI P P.code[s.g][s.p] s:=by
   unfold stepM;rw[e1,List.getElem?_eq_getElem hp]
  rw[hi];have hr:=ok.row _ (List.getElem_mem hg);have ho:=hr.2 _ (List.getElem_mem hp);exact goes_of P.code[s.g][s.p] hg hp rfl ho.op (fun B V a l h=>step_all P ok s _ hs ⟨_,hr.1.2,ho⟩ B V a l h)
 ·have hi:stepM P s={s with e:=7,v:=0,f:=8}:=by
   unfold stepM;rw[e1,List.getElem?_eq_none (by omega)]
  rw[hi];exact fun B W a l h=>do_out B W a P s l h hg (by omega)
theorem okn_stepM (P:Pr)(ok:P.Ok)(rr:P.Rr)(s:Fm)(n:Nat)(hs:s.Okn P n):(stepM P s).Okn P (n+1):=by
 have hg:=hs.g;have e1:P.code.getD s.g []=P.code[s.g]:=by simp[hg]
 by_cases hp:s.p<P.code[s.g].length
 ·have hi:stepM P s=stepI P P.code[s.g][s.p] s:=by
   unfold stepM;rw[e1,List.getElem?_eq_getElem hp]
  rw[hi];have hr:=ok.row _ (List.getElem_mem hg);exact okn_step P ok rr s _ n _ hs hr.1.2 (hr.2 _ (List.getElem_mem hp)) hp
 ·have hi:stepM P s={s with e:=7,v:=0,f:=8}:=by
   unfold stepM;rw[e1,List.getElem?_eq_none (by omega)]
  rw[hi];exact(hs.mono (Nat.le_succ n)).end _ _ wd0
def stepsM (P:Pr)(s:Fm):Nat→Fm
 |0=>s
 |k+1=>if(stepsM P s k).e=0 then stepM P (stepsM P s k)else stepsM P s k
theorem okn_stepsM (P:Pr)(ok:P.Ok)(rr:P.Rr)(s:Fm)(n:Nat)(hs:s.Okn P n)(k:Nat):(stepsM P s k).Okn P (n+k):=by
 induction k with
 |zero=>exact hs
 |succ k ih=>
  unfold stepsM
  split
  ·exact okn_stepM P ok rr _ _ ih
  ·exact ih.mono (by omega)
theorem stepsM_over (P:Pr)(s:Fm)(k j:Nat)(h:(stepsM P s k).e≠0):stepsM P s (k+j)=stepsM P s k:=by
 induction j with
 |zero=>rfl
 |succ j ih=>
  show(if(stepsM P s (k+j)).e=0 then stepM P (stepsM P s (k+j))else stepsM P s (k+j))=_;rw[ih,if_neg h]
theorem stops (P:Pr)(s:Fm)(n:Nat):∃m,m≤n∧(∀k,k<m→(stepsM P s k).e=0)∧(m=n∨(stepsM P s m).e≠0)∧stepsM P s m=stepsM P s n:=by
 induction n with
 |zero=>exact⟨0,Nat.le_refl _,fun k h=>absurd h (Nat.not_lt_zero _),.inl rfl,rfl⟩
 |succ n ih=>
  obtain⟨m,h1,h2,h3,h4⟩:=ih;by_cases he:(stepsM P s m).e=0
  ·have hmn:m=n:=by
    rcases h3 with q|q
    ·exact q
    ·exact absurd he q
   subst hmn;refine⟨m+1,Nat.le_refl _,fun k hk=>?_,.inl rfl,rfl⟩;by_cases hkm:k<m
   ·exact h2 k hkm
   ·rw[show k=m by omega];exact he
  ·refine⟨m,by omega,h2,.inr he,?_⟩;rw[h4];rw[h4]at he;exact(stepsM_over P s n 1 he).symm
theorem steps_goes (P:Pr)(ok:P.Ok)(rr:P.Rr)(s:Fm)(c n m:Nat)(hs:s.Okn P c)(hn:c+n≤1000000)(hm:m≤n)(h0:∀k,k<m→(stepsM P s k).e=0):∀k,k<m→Goes P (stepsM P s k) (stepsM P s (k+1)):=by
 intro k hk;have e:stepsM P s (k+1)=stepM P (stepsM P s k):=by
  show(if(stepsM P s k).e=0 then stepM P (stepsM P s k)else stepsM P s k)=_;rw[if_pos (h0 k hk)]
 rw[e];exact goes_all P ok _ ((okn_stepsM P ok rr s c hs k).ok (by omega))
def runM (P:Pr)(s:Fm)(n:Nat):Fm:=if(stepsM P s n).e=0 then sp (stepsM P s n)else stepsM P s n
def Fm.outc (s:Fm):Value:=.agg #[.int .i64 s.e,.int .u64 s.v,.int .i64 s.f,.int .i64 s.g,.int .i64 s.p]
theorem step_fn (B:Nat)(W:World)(a:Nat)(P:Pr)(l:List Ob)(m:Nat)(f:Nat→Fm)(h:MIn B W a P (f 0) l)(hm:m≤1)(h0:∀k,k<m→(f k).e=0)(hG:∀k,k<m→Goes P (f k) (f (k+1)))(hE:m=1∨(f m).e≠0):
 Calls Tryz.prog 28 #[.pointer (some ⟨a,0,none⟩)] W fun x w'=>x=.returned (.agg #[.int .i64 (f m).e,.int .u64 (f m).v,.int .i64 (f m).f,.int .i64 (f m).g,.int .i64 (f m).p])∧MIn B w' a P (f m) l∧Below B W w':=by
 have h2:=ζ (h.new #[.int .i64 0,.int .u64 0,.int .i64 0,.int .i64 0,.int .i64 0] 62);clear h;go_enter Tryz.func28,Tryz.ntmps28;go_upto_region 1 with fail
 refine wp_world (fun V=>MIn B V a P (f 0) (boxOb W.heap.size #[.int .i64 0,.int .u64 0,.int .i64 0,.int .i64 0,.int .i64 0]::l)∧Below B W V) h2.out ?_;rintro V ⟨h,hB⟩;replace h:=ζ h;replace hB:=ζ hB;clear h2;generalize hkr:W.heap.size=kr at*;clear hkr;have hst:Hz (Calls Tryz.prog 44 #[.pointer (some ⟨a,0,none⟩),.int .i64 1] V fun x w'=>x=.returned (.tuple #[])∧MIn B w' a P (f m) (boxOb kr #[.int .i64 0,.int .u64 0,.int .i64 0,.int .i64 0,.int .i64 0]::l)∧Below B V w'):=ζ (steps_any B V a P _ 1 m f h.out hm h0 hG hE (by omega));replace h0:=ζ h0;replace hG:=ζ hG;replace hE:=ζ hE;go_wp2_with fail;refine hst.out.mono ?_;rintro r V8 ⟨rfl,h8,hB8⟩;replace hB:=ζ (hB.out.trans hB8);replace h8:=ζ h8;clear h hst hB8;have hsd:=ζ (stands_any B V8 a P (f m) _ h8.out);go_upto_region 4 with fail
 have hle8:=h8.out.le;refine wp_region_lit ?_;refine xp fun K hK=>?_
 go_simp;with_reducible refine hK _ _ ?_
 clear hK K;try simp only[xap]
 refine xp fun K hK=>?_
 go_simp
 (refine hsd.out.mono ?_;rintro r V9 ⟨rfl,g9⟩)
 with_reducible refine hK _ _ ?_
 clear hK K;try simp only[xap]
 replace h8:=ζ (h8.out.gro g9);replace hB:Hz (Below B W V9):=ζ (hB.out.trans (g9.below.mono hle8));have hA9:At V9 kr #[.int .i64 0,.int .u64 0,.int .i64 0,.int .i64 0,.int .i64 0]:=h8.out.there (boxOb kr #[.int .i64 0,.int .u64 0,.int .i64 0,.int .i64 0,.int .i64 0]) (.head _);have hth:=ζ (At.there (cs:=[Value.int .i64 0,.int .u64 0,.int .i64 0,.int .i64 0,.int .i64 0]) hA9 0 5 (by decide));have hA10:=ζ (At.setAll (cs:=[Value.int .i64 0,.int .u64 0,.int .i64 0,.int .i64 0,.int .i64 0]) hA9 [Value.int .i64 (f m).e,.int .u64 (f m).v,.int .i64 (f m).f,.int .i64 (f m).g,.int .i64 (f m).p] rfl);have hk10:Kp (fun k=>k=kr) V9 (V9.setCells kr 0 [Value.int .i64 (f m).e,.int .u64 (f m).v,.int .i64 (f m).f,.int .i64 (f m).g,.int .i64 (f m).p]):=kp_setsZ V9 kr [Value.int .i64 (f m).e,.int .u64 (f m).v,.int .i64 (f m).f,.int .i64 (f m).g,.int .i64 (f m).p] 0;have h10:=h8.out.side (o':=boxOb kr (List.toArray [Value.int .i64 (f m).e,.int .u64 (f m).v,.int .i64 (f m).f,.int .i64 (f m).g,.int .i64 (f m).p])) hA10.out hk10 (fun _ r=>.inl r)
 replace hB:=ζ (hB.out.trans h10.2);replace h10:=ζ h10.1;clear h8 hA9 hk10 hsd g9;refine xp fun K hK=>?_
 refine wp_store_mid _ _ _ rfl _ _ (List.toArray [Value.int .i64 (f m).e,.int .u64 (f m).v,.int .i64 (f m).f,.int .i64 (f m).g,.int .i64 (f m).p]) rfl rfl hth.out (by kernel_rfl) (by simp[Value.oneCell']) (hK _ _ ?_);clear hK K;try simp only[Act.put]
 generalize World.setCells _ _ _ _=V11 at*;have hrun:=ζ (run_loadVar_mid (P:=Tryz.prog) V11 kr 0 62 [Value.int .i64 (f m).e,.int .u64 (f m).v,.int .i64 (f m).f,.int .i64 (f m).g,.int .i64 (f m).p] _ (fun j v q=>by rw[Nat.zero_add];exact(hA10.out.2.1 j).trans (by simpa using q)) Tryz.underlying62 rfl (by kernel_rfl));go_wp2_with fail;refine bodyPost_ret (v:=.agg #[.int .i64 (f m).e,.int .u64 (f m).v,.int .i64 (f m).f,.int .i64 (f m).g,.int .i64 (f m).p]) ?_ rfl ⟨rfl,h10.out.drop,hB.out⟩;exact results_rowZ Tryz.results28 _ _ rfl hrun.out
theorem step_op (P:Pr)(ok:P.Ok)(rr:P.Rr)(s:Fm)(c:Nat)(hs:s.Okn P c)(hn:c+1≤1000000)(B:Nat)(W:World)(a:Nat)(l:List Ob)(h:MIn B W a P s l):
 Calls Tryz.prog 28 #[.pointer (some ⟨a,0,none⟩)] W fun x w'=>x=.returned (stepsM P s 1).outc∧MIn B w' a P (stepsM P s 1) l∧Below B W w':=by
 obtain⟨m,h1,h2,h3,h4⟩:=stops P s 1;rw[←h4];exact step_fn B W a P l m (stepsM P s) h h1 h2 (steps_goes P ok rr s c 1 m hs hn h1 h2) h3
theorem memory_any (B:Nat)(W:World)(a:Nat)(P:Pr)(s:Fm)(l:List Ob)(h:MIn B W a P s l):
 Calls Tryz.prog 38 #[.pointer (some ⟨a,0,none⟩)] W fun x w'=>x=.returned (.string ⟨(T.rowB s.m 0 65536).toArray⟩)∧Below W.heap.size W w':=by
 obtain⟨mp,c3,hb⟩:∃mp:Nat,W.cell? ⟨a,3,none⟩=some (.pointer (some ⟨mp,0,none⟩))∧Calls Tryz.prog 24 #[.pointer (some ⟨mp,0,none⟩)] W fun x w'=>x=.returned (.string ⟨(T.rowB s.m 0 65536).toArray⟩)∧Below W.heap.size W w':=by
  obtain⟨⟨q,h1⟩,le⟩:=h;have hb:=h1.ins (bxOb a (bxOf P s q)) (by simp[obs]);exact⟨q.mp,hb.at_ 3 (by omega),T.flBytes_any q.F q.mp s.m W (h1.ins (flOb q.F q.mp s.m) (by simp[obs]))⟩
 replace hb:=ζ hb;generalize (T.rowB s.m 0 65536).toArray=RR at*;clear h;go_enter Tryz.func38,Tryz.ntmps38;go_wp2_with fail;refine hb.out.mono ?_;rintro x w' ⟨rfl,h2⟩;replace h2:=ζ h2;go_wp2_with fail;go_ret;exact⟨rfl,h2.out⟩
def snV (g p d:Int)(r:Nat→Int):List Value:=.int .i64 g::.int .i64 p::.int .i64 d::regs r
theorem snV_len (g p d:Int)(r:Nat→Int):(snV g p d r).length=19:=by simp[snV,regs_len]
theorem snV_one (g p d:Int)(r:Nat→Int):(snV g p d r).toArray.all (fun x=>x.oneCell')=true:=by
 rw[Array.all_eq_true_iff_forall_mem];intro u hu;simp only[List.mem_toArray,snV,List.mem_cons]at hu;rcases hu with rfl|rfl|rfl|hu
 ·rfl
 ·rfl
 ·rfl
 ·exact regs_one r u hu
theorem build_sn (g p d:Int)(r:Nat→Int)(W:World):(Instr.build 103 #[(0,.int .i64 g),(1,.int .i64 p),(2,.int .i64 d),(3,.agg (regs r).toArray)]).run Tryz.prog W=.ok (.agg (snV g p d r).toArray) W:=by kernel_rfl
theorem yields_sn {ops:Array Oper}{S:World→Prop}{op:Oper}{a:Act}(hw:Region.wanted op (yielded ops a.tmps)=true)(x0 x1 x2 x3:Operand)(ho:op.op=.build 103 #[(0,x0),(1,x1),(2,x2),(3,x3)])
 (g p d:Int)(r:Nat→Int)(h0:a.eval x0=.int .i64 g)(h1:a.eval x1=.int .i64 p)(h2:a.eval x2=.int .i64 d)(h3:a.eval x3=.agg (regs r).toArray):
 YieldsIf Tryz.prog ops S op (.agg (snV g p d r).toArray) a:=
 .inl ⟨hw,fun w _=>by
  unfold execOp;simp only[ho,List.map_toArray,List.map_cons,List.map_nil,h0,h1,h2,h3,build_sn,Sem.run_bind,Sem.run_pure,Result.andThen_ok]⟩
theorem MIn.snap {B:Nat}{W:World}{a:Nat}{P:Pr}{s:Fm}{l:List Ob}(h:MIn B W a P s l):∃sa sc,∀V,Gr W V→V.cell? ⟨a,4,none⟩=some (.int .i64 s.g)∧V.cell? ⟨a,5,none⟩=some (.int .i64 s.p)∧V.cell? ⟨a,22,none⟩=some (.slice sa s.st.length sc)∧V.rangeAt a 6 (regs s.r):=by
 obtain⟨⟨q,h1⟩,le⟩:=h;have hb:=h1.ins (bxOb a (bxOf P s q)) (by simp[obs]);have hO:=h1.ins (stOb B q.sv s.st) (by simp[obs]);obtain⟨sa,sc,e⟩:∃sa sc,q.sv=.slice sa s.st.length sc:=by
  rcases hO.2 with⟨e1,e2⟩|⟨g,cap,cur,e1,_⟩
  ·exact⟨none,0,by rw[e1,e2]⟩
  ·exact⟨_,_,e1⟩
 refine⟨sa,sc,fun V g=>?_⟩;have hk:=fun j=>T.cell_of_block (g.below.block a hb.1) j
 refine⟨(hk _).trans (hb.at_ 4 (by omega)),(hk _).trans (hb.at_ 5 (by omega)),?_,fun j v qv=>?_⟩
 ·rw[←e];exact(hk _).trans (hb.at_ 22 (by omega))
 ·have hj:j<16:=by have:=(List.getElem?_eq_some_iff.1 qv).1;rwa [regs_len]at this
  rw[regs_at s.r j hj]at qv;refine(hk _).trans ((hb.at_ (6+j) (by omega)).trans ?_);rw[Fx.reg _ j hj];exact qv
theorem snap_any (B:Nat)(W:World)(a:Nat)(P:Pr)(s:Fm)(l:List Ob)(h:MIn B W a P s l):
 Calls Tryz.prog 36 #[.pointer (some ⟨a,0,none⟩)] W fun x w'=>x=.returned (.agg (snV s.g s.p s.st.length s.r).toArray)∧Gr W w':=by
 obtain⟨sa,sc,KS⟩:=h.snap;replace KS:=ζ KS;clear h;go_enter Tryz.func36,Tryz.ntmps36;go_upto_region 1 with fail;refine wp_world (fun V=>At V W.heap.size (List.toArray [Value.int .i64 0,.int .i64 0,.int .i64 0,.int .u64 0,.int .u64 0,.int .u64 0,.int .u64 0,.int .u64 0,.int .u64 0,.int .u64 0,.int .u64 0,.int .u64 0,.int .u64 0,.int .u64 0,.int .u64 0,.int .u64 0,.int .u64 0,.int .u64 0,.int .u64 0])∧Gr W V) ⟨At.new W _ _,(Gr.refl _).alloc _⟩ ?_;rintro V ⟨hA,G⟩;have hkW:W.heap.size≤W.heap.size:=Nat.le_refl _;generalize hk:W.heap.size=kr at hA hkW ⊢;go_upto_region 3 with fail;have hAd:At V.drew kr (List.toArray [Value.int .i64 0,.int .i64 0,.int .i64 0,.int .u64 0,.int .u64 0,.int .u64 0,.int .u64 0,.int .u64 0,.int .u64 0,.int .u64 0,.int .u64 0,.int .u64 0,.int .u64 0,.int .u64 0,.int .u64 0,.int .u64 0,.int .u64 0,.int .u64 0,.int .u64 0]):=hA.gr (Gr.refl V).drew;have Gd:=G.drew;have hth:=ζ (At.there (cs:=[Value.int .i64 0,.int .i64 0,.int .i64 0,.int .u64 0,.int .u64 0,.int .u64 0,.int .u64 0,.int .u64 0,.int .u64 0,.int .u64 0,.int .u64 0,.int .u64 0,.int .u64 0,.int .u64 0,.int .u64 0,.int .u64 0,.int .u64 0,.int .u64 0,.int .u64 0]) hAd 0 19 (by decide))
 have hA2:=ζ (At.setAll (cs:=[Value.int .i64 0,.int .i64 0,.int .i64 0,.int .u64 0,.int .u64 0,.int .u64 0,.int .u64 0,.int .u64 0,.int .u64 0,.int .u64 0,.int .u64 0,.int .u64 0,.int .u64 0,.int .u64 0,.int .u64 0,.int .u64 0,.int .u64 0,.int .u64 0,.int .u64 0]) hAd (snV s.g s.p s.st.length s.r) (by rw[snV_len];rfl));have G2:=ζ (Gr.setCells Gd kr (by omega) (snV s.g s.p s.st.length s.r) 0);rw[←snV_len s.g s.p s.st.length s.r]at hth;clear hA hAd G;refine wp_region_held_drew (S:=(fun W=>W.cell? ⟨a,4,none⟩=some (.int .i64 s.g)∧W.cell? ⟨a,5,none⟩=some (.int .i64 s.p)∧W.cell? ⟨a,22,none⟩=some (.slice sa s.st.length sc)∧W.rangeAt a 6 (regs s.r))) (by kernel_rfl) (KS.out _ Gd) (fun hHeld=>?_);refine xz 0 rfl (h:=xz 1 rfl (h:=xz 2 rfl (h:=xz 3 rfl (h:=xz 4 rfl (h:=xz 5 rfl (h:=xz 6 rfl (h:=xz 7 rfl (h:=xz 8 rfl (h:=xz 9 rfl (h:=xz 10 rfl (h:=xz 11 rfl (h:=xz 12 rfl (h:=xz 13 rfl (h:=xz 14 rfl (h:=xz 15 rfl (h:=xz 16 rfl (h:=xz 17 rfl (h:=xz 18 rfl (h:=?_)))))))))))))))))))
 try simp only[xap]
 refine xtk 19 rfl (yieldsIf_load_mid (by rfl) _ _ rfl _ _ rfl _ _ (fun _ h=>h.2.2.2) Tryz.underlying68 rfl (by rw[regs_len];kernel_rfl)) ?_;try simp only[xap]
 refine xtk 20 rfl (yields_sn (by rfl) _ _ _ _ rfl _ _ _ s.r (by rfl) (by rfl) (by rfl) (by rfl)) ?_;try simp only[xap]
 refine xrd 21 rfl (fun K hK=>?_);rw[if_pos (by rfl)];refine wp_store_mid _ _ _ rfl _ _ (List.toArray (snV s.g s.p s.st.length s.r)) rfl rfl (hth.out) (by rw[List.size_toArray,snV_len];kernel_rfl) (snV_one _ _ _ _) ?_;refine hK.out _ _ (KS.out _ G2.out) (fun hHeld=>?_);clear hK K;try simp only[Act.put]
 refine xdn ?_ _;clear hHeld;generalize World.setCells _ _ _ _=Z at*;have hrun:=ζ (run_loadVar_mid (P:=Tryz.prog) Z kr 0 103 (snV s.g s.p s.st.length s.r) _ (fun j v q=>by rw[Nat.zero_add];exact(hA2.out.2.1 j).trans (by simpa using q)) Tryz.underlying103 rfl (by rw[snV_len];kernel_rfl));go_wp2_with fail;refine bodyPost_ret (v:=.agg (snV s.g s.p s.st.length s.r).toArray) ?_ rfl ⟨rfl,G2.out⟩;exact results_rowZ Tryz.results36 _ _ rfl hrun.out
structure Ri where
 op:Int
 a:Int
 b:Int
 c:Int
 i:Int
abbrev Ri.w (i:Ri):Array Value:=#[.int .u8 i.op,.int .i64 i.a,.int .i64 i.b,.int .i64 i.c,.int .u64 i.i]
def Ri.vals (i:Ri):List Value:=[.int .u8 i.op,.int .i64 i.a,.int .i64 i.b,.int .i64 i.c,.int .u64 i.i]
structure Ri.Is (i:Ri):Prop where
 op:0≤i.op∧i.op<256
 im:0≤i.i∧i.i<18446744073709551616
def Ri.Fl (i:Ri):Prop:=(0≤i.a∧i.a≤15)∧(0≤i.b∧i.b≤15)∧0≤i.c∧i.c≤if 70≤i.op then 255 else 15
def Ri.Th (i:Ri)(n k:Nat):Prop:=(20≤i.op∧i.op≤24→i.i<n)∧(i.op=31→i.i<k)
structure Ri.Ok (i:Ri)(n k:Nat):Prop where
 op:Named i.op
 fl:i.Fl
 th:i.Th n k
def Says (p:Prop)(x:Ending):Prop:=∃b:Bool,x=.returned (.bool b)∧(b=true↔p)
def Ri.fi (i:Ri):Fi:=⟨i.op,i.a.toNat,i.b.toNat,i.c.toNat,i.i⟩
theorem Ri.Ok.fi {i:Ri}{n k:Nat}(h:i.Ok n k)(hi:i.Is):i.fi.Ok n k∧i.fi.vals=i.vals:=by
 obtain⟨h1,h2,h3⟩:=h;obtain⟨ha,hb,hc0,hc⟩:=h2;refine⟨⟨h1,?_,?_,?_,hi.im,h3.1,h3.2⟩,?_⟩
 ·show i.a.toNat<16;omega
 ·show i.b.toNat<16;omega
 ·show i.c.toNat<16∨70≤i.op∧i.c.toNat≤255
  split at hc<;>omega
 ·show [Value.int .u8 i.op,.int .i64 (i.a.toNat:Int),.int .i64 (i.b.toNat:Int),.int .i64 (i.c.toNat:Int),.int .u64 i.i]=_;rw[Int.toNat_of_nonneg ha.1,Int.toNat_of_nonneg hb.1,Int.toNat_of_nonneg hc0]
  rfl
theorem isWithin_no (n lo hi:Int)(w:World)(h:¬(lo≤n∧n≤hi)):
 Calls Tryz.prog 61 #[.int .i64 n,.int .i64 lo,.int .i64 hi] w fun x w'=>x=.returned (.bool false)∧w'=w:=by
 by_cases h1:lo≤n
 ·have h2:¬n≤hi:=fun q=>h ⟨h1,q⟩
  clear h;go_enter Tryz.func61,Tryz.ntmps61;go_wp2_with fail;go_ret;exact⟨rfl,rfl⟩
 ·clear h;go_enter Tryz.func61,Tryz.ntmps61;go_wp2_with fail;go_ret;exact⟨rfl,rfl⟩
theorem isNamed_no (op:Int)(w:World)(h:0≤op∧op<256)(hn:¬Named op):
 Calls Tryz.prog 74 #[.int .u8 op] w fun x w'=>x=.returned (.bool false)∧w'=w:=by
 have hc:(14≤op∧op≤19)∨(25≤op∧op≤26)∨(33≤op∧op≤59)∨(66≤op∧op≤69)∨(73≤op∧op≤255):=by unfold Named at hn;omega
 clear hn h;rcases hc with hc|hc|hc|hc|hc
 ·skip
  have n13:¬op≤13:=by omega
  have y24:op≤24:=by omega
  have l20:¬20≤op:=by omega
  clear hc;go_enter Tryz.func74,Tryz.ntmps74;go_wp2_with fail;go_ret;exact⟨rfl,rfl⟩
 ·skip
  have n13:¬op≤13:=by omega
  have n24:¬op≤24:=by omega
  have y32:op≤32:=by omega
  have l27:¬27≤op:=by omega
  clear hc;go_enter Tryz.func74,Tryz.ntmps74;go_wp2_with fail;go_ret;exact⟨rfl,rfl⟩
 ·skip
  have n13:¬op≤13:=by omega
  have n24:¬op≤24:=by omega
  have n32:¬op≤32:=by omega
  have y65:op≤65:=by omega
  have l60:¬60≤op:=by omega
  clear hc;go_enter Tryz.func74,Tryz.ntmps74;go_wp2_with fail;go_ret;exact⟨rfl,rfl⟩
 ·skip
  have n13:¬op≤13:=by omega
  have n24:¬op≤24:=by omega
  have n32:¬op≤32:=by omega
  have n65:¬op≤65:=by omega
  have l70:¬70≤op:=by omega
  clear hc;go_enter Tryz.func74,Tryz.ntmps74;go_wp2_with fail;go_ret;exact⟨rfl,rfl⟩
 ·skip
  have n13:¬op≤13:=by omega
  have n24:¬op≤24:=by omega
  have n32:¬op≤32:=by omega
  have n65:¬op≤65:=by omega
  have y70:70≤op:=by omega
  have n72:¬op≤72:=by omega
  clear hc;go_enter Tryz.func74,Tryz.ntmps74;go_wp2_with fail;go_ret;exact⟨rfl,rfl⟩
theorem fields_any (i:Ri)(w:World):
 Calls Tryz.prog 75 #[.agg #[.int .u8 i.op,.int .i64 i.a,.int .i64 i.b,.int .i64 i.c,.int .u64 i.i]] w fun x w'=>Says i.Fl x∧Gr w w':=by
 by_cases h70:70≤i.op
 ·skip
  by_cases ha:0≤i.a∧i.a≤15
  ·by_cases hb:0≤i.b∧i.b≤15
   ·by_cases hc:0≤i.c∧i.c≤255
    ·skip
     go_enter Tryz.func75,Tryz.ntmps75;go_wp2_with fail;refine(isWithin_ok _ _ _ _ (by omega) (by omega)).mono ?_;rintro r w1 ⟨rfl,e1⟩;subst e1;go_wp2_with fail;refine(isWithin_ok _ _ _ _ (by omega) (by omega)).mono ?_;rintro r w1 ⟨rfl,e1⟩;subst e1;go_wp2_with fail;refine(isWithin_ok _ _ _ _ (by omega) (by omega)).mono ?_;rintro r w1 ⟨rfl,e1⟩;subst e1;go_wp2_with fail;go_ret;refine⟨⟨true,rfl,?_⟩,(Gr.refl w).alloc _⟩;unfold Ri.Fl;rw[if_pos h70];exact iff_of_true rfl ⟨ha,hb,hc⟩
    ·skip
     go_enter Tryz.func75,Tryz.ntmps75;go_wp2_with fail;refine(isWithin_ok _ _ _ _ (by omega) (by omega)).mono ?_;rintro r w1 ⟨rfl,e1⟩;subst e1;go_wp2_with fail;refine(isWithin_ok _ _ _ _ (by omega) (by omega)).mono ?_;rintro r w1 ⟨rfl,e1⟩;subst e1;go_wp2_with fail;refine(isWithin_no _ _ _ _ (by omega)).mono ?_;rintro r w1 ⟨rfl,e1⟩;subst e1;go_wp2_with fail;go_ret;refine⟨⟨false,rfl,?_⟩,(Gr.refl w).alloc _⟩;unfold Ri.Fl;rw[if_pos h70];refine iff_of_false (by decide) (fun q=>?_);exact absurd q.2.2 hc
   ·skip
    go_enter Tryz.func75,Tryz.ntmps75;go_wp2_with fail;refine(isWithin_ok _ _ _ _ (by omega) (by omega)).mono ?_;rintro r w1 ⟨rfl,e1⟩;subst e1;go_wp2_with fail;refine(isWithin_no _ _ _ _ (by omega)).mono ?_;rintro r w1 ⟨rfl,e1⟩;subst e1;go_wp2_with fail;go_ret;refine⟨⟨false,rfl,?_⟩,(Gr.refl w).alloc _⟩;unfold Ri.Fl;rw[if_pos h70];refine iff_of_false (by decide) (fun q=>?_);exact absurd q.2.1 hb
  ·skip
   go_enter Tryz.func75,Tryz.ntmps75;go_wp2_with fail;refine(isWithin_no _ _ _ _ (by omega)).mono ?_;rintro r w1 ⟨rfl,e1⟩;subst e1;go_wp2_with fail;go_ret;refine⟨⟨false,rfl,?_⟩,(Gr.refl w).alloc _⟩;unfold Ri.Fl;rw[if_pos h70];refine iff_of_false (by decide) (fun q=>?_);exact absurd q.1 ha
 ·skip
  by_cases ha:0≤i.a∧i.a≤15
  ·by_cases hb:0≤i.b∧i.b≤15
   ·by_cases hc:0≤i.c∧i.c≤15
    ·skip
     go_enter Tryz.func75,Tryz.ntmps75;go_wp2_with fail;refine(isWithin_ok _ _ _ _ (by omega) (by omega)).mono ?_;rintro r w1 ⟨rfl,e1⟩;subst e1;go_wp2_with fail;refine(isWithin_ok _ _ _ _ (by omega) (by omega)).mono ?_;rintro r w1 ⟨rfl,e1⟩;subst e1;go_wp2_with fail;refine(isWithin_ok _ _ _ _ (by omega) (by omega)).mono ?_;rintro r w1 ⟨rfl,e1⟩;subst e1;go_wp2_with fail;go_ret;refine⟨⟨true,rfl,?_⟩,(Gr.refl w).alloc _⟩;unfold Ri.Fl;rw[if_neg (show ¬70≤i.op by omega)];exact iff_of_true rfl ⟨ha,hb,hc⟩
    ·skip
     go_enter Tryz.func75,Tryz.ntmps75;go_wp2_with fail;refine(isWithin_ok _ _ _ _ (by omega) (by omega)).mono ?_;rintro r w1 ⟨rfl,e1⟩;subst e1;go_wp2_with fail;refine(isWithin_ok _ _ _ _ (by omega) (by omega)).mono ?_;rintro r w1 ⟨rfl,e1⟩;subst e1;go_wp2_with fail;refine(isWithin_no _ _ _ _ (by omega)).mono ?_;rintro r w1 ⟨rfl,e1⟩;subst e1;go_wp2_with fail;go_ret;refine⟨⟨false,rfl,?_⟩,(Gr.refl w).alloc _⟩;unfold Ri.Fl;rw[if_neg (show ¬70≤i.op by omega)];refine iff_of_false (by decide) (fun q=>?_);exact absurd q.2.2 hc
   ·skip
    go_enter Tryz.func75,Tryz.ntmps75;go_wp2_with fail;refine(isWithin_ok _ _ _ _ (by omega) (by omega)).mono ?_;rintro r w1 ⟨rfl,e1⟩;subst e1;go_wp2_with fail;refine(isWithin_no _ _ _ _ (by omega)).mono ?_;rintro r w1 ⟨rfl,e1⟩;subst e1;go_wp2_with fail;go_ret;refine⟨⟨false,rfl,?_⟩,(Gr.refl w).alloc _⟩;unfold Ri.Fl;rw[if_neg (show ¬70≤i.op by omega)];refine iff_of_false (by decide) (fun q=>?_);exact absurd q.2.1 hb
  ·skip
   go_enter Tryz.func75,Tryz.ntmps75;go_wp2_with fail;refine(isWithin_no _ _ _ _ (by omega)).mono ?_;rintro r w1 ⟨rfl,e1⟩;subst e1;go_wp2_with fail;go_ret;refine⟨⟨false,rfl,?_⟩,(Gr.refl w).alloc _⟩;unfold Ri.Fl;rw[if_neg (show ¬70≤i.op by omega)];refine iff_of_false (by decide) (fun q=>?_);exact absurd q.1 ha
theorem there_any (i:Ri)(n k:Nat)(w:World)(hl:n≤1000∧k≤1000):
 Calls Tryz.prog 76 #[.agg #[.int .u8 i.op,.int .i64 i.a,.int .i64 i.b,.int .i64 i.c,.int .u64 i.i],.int .i64 n,.int .i64 k] w fun x w'=>Says (i.Th n k) x∧Gr w w':=by
 obtain⟨op,ia,ib,ic,im⟩:=i;dsimp only at*;have hn:IntKind.u64.wrap (n:Int)=(n:Int):=by simp[IntKind.wrap,IntKind.bits,IntKind.signed];omega
 have hk:IntKind.u64.wrap (k:Int)=(k:Int):=by simp[IntKind.wrap,IntKind.bits,IntKind.signed];omega
 replace hl:=ζ hl;by_cases e20:op=20
 ·subst e20;by_cases y:im<(n:Int)
  ·have z:Hz (Says (Ri.Th ⟨20,ia,ib,ic,im⟩ n k) (.returned (.bool true))):=ζ ⟨true,rfl,iff_of_true rfl (by unfold Ri.Th;dsimp only;omega)⟩;go_enter Tryz.func76,Tryz.ntmps76;go_wp2_with fail;go_ret;exact⟨z.out,(Gr.refl w).alloc _⟩
  ·have z:Hz (Says (Ri.Th ⟨20,ia,ib,ic,im⟩ n k) (.returned (.bool false))):=ζ ⟨false,rfl,iff_of_false (by decide) (by unfold Ri.Th;dsimp only;omega)⟩;go_enter Tryz.func76,Tryz.ntmps76;go_wp2_with fail;go_ret;exact⟨z.out,(Gr.refl w).alloc _⟩
 by_cases e21:op=21
 ·subst e21;by_cases y:im<(n:Int)
  ·have z:Hz (Says (Ri.Th ⟨21,ia,ib,ic,im⟩ n k) (.returned (.bool true))):=ζ ⟨true,rfl,iff_of_true rfl (by unfold Ri.Th;dsimp only;omega)⟩;go_enter Tryz.func76,Tryz.ntmps76;go_wp2_with fail;go_ret;exact⟨z.out,(Gr.refl w).alloc _⟩
  ·have z:Hz (Says (Ri.Th ⟨21,ia,ib,ic,im⟩ n k) (.returned (.bool false))):=ζ ⟨false,rfl,iff_of_false (by decide) (by unfold Ri.Th;dsimp only;omega)⟩;go_enter Tryz.func76,Tryz.ntmps76;go_wp2_with fail;go_ret;exact⟨z.out,(Gr.refl w).alloc _⟩
 by_cases e22:op=22
 ·subst e22;by_cases y:im<(n:Int)
  ·have z:Hz (Says (Ri.Th ⟨22,ia,ib,ic,im⟩ n k) (.returned (.bool true))):=ζ ⟨true,rfl,iff_of_true rfl (by unfold Ri.Th;dsimp only;omega)⟩;go_enter Tryz.func76,Tryz.ntmps76;go_wp2_with fail;go_ret;exact⟨z.out,(Gr.refl w).alloc _⟩
  ·have z:Hz (Says (Ri.Th ⟨22,ia,ib,ic,im⟩ n k) (.returned (.bool false))):=ζ ⟨false,rfl,iff_of_false (by decide) (by unfold Ri.Th;dsimp only;omega)⟩;go_enter Tryz.func76,Tryz.ntmps76;go_wp2_with fail;go_ret;exact⟨z.out,(Gr.refl w).alloc _⟩
 by_cases e23:op=23
 ·subst e23;by_cases y:im<(n:Int)
  ·have z:Hz (Says (Ri.Th ⟨23,ia,ib,ic,im⟩ n k) (.returned (.bool true))):=ζ ⟨true,rfl,iff_of_true rfl (by unfold Ri.Th;dsimp only;omega)⟩;go_enter Tryz.func76,Tryz.ntmps76;go_wp2_with fail;go_ret;exact⟨z.out,(Gr.refl w).alloc _⟩
  ·have z:Hz (Says (Ri.Th ⟨23,ia,ib,ic,im⟩ n k) (.returned (.bool false))):=ζ ⟨false,rfl,iff_of_false (by decide) (by unfold Ri.Th;dsimp only;omega)⟩;go_enter Tryz.func76,Tryz.ntmps76;go_wp2_with fail;go_ret;exact⟨z.out,(Gr.refl w).alloc _⟩
 by_cases e24:op=24
 ·subst e24;by_cases y:im<(n:Int)
  ·have z:Hz (Says (Ri.Th ⟨24,ia,ib,ic,im⟩ n k) (.returned (.bool true))):=ζ ⟨true,rfl,iff_of_true rfl (by unfold Ri.Th;dsimp only;omega)⟩;go_enter Tryz.func76,Tryz.ntmps76;go_wp2_with fail;go_ret;exact⟨z.out,(Gr.refl w).alloc _⟩
  ·have z:Hz (Says (Ri.Th ⟨24,ia,ib,ic,im⟩ n k) (.returned (.bool false))):=ζ ⟨false,rfl,iff_of_false (by decide) (by unfold Ri.Th;dsimp only;omega)⟩;go_enter Tryz.func76,Tryz.ntmps76;go_wp2_with fail;go_ret;exact⟨z.out,(Gr.refl w).alloc _⟩
 by_cases e31:op=31
 ·subst e31;by_cases y:im<(k:Int)
  ·have z:Hz (Says (Ri.Th ⟨31,ia,ib,ic,im⟩ n k) (.returned (.bool true))):=ζ ⟨true,rfl,iff_of_true rfl (by unfold Ri.Th;dsimp only;omega)⟩;go_enter Tryz.func76,Tryz.ntmps76;go_wp2_with fail;go_ret;exact⟨z.out,(Gr.refl w).alloc _⟩
  ·have z:Hz (Says (Ri.Th ⟨31,ia,ib,ic,im⟩ n k) (.returned (.bool false))):=ζ ⟨false,rfl,iff_of_false (by decide) (by unfold Ri.Th;dsimp only;omega)⟩;go_enter Tryz.func76,Tryz.ntmps76;go_wp2_with fail;go_ret;exact⟨z.out,(Gr.refl w).alloc _⟩
 have z:Hz (Says (Ri.Th ⟨op,ia,ib,ic,im⟩ n k) (.returned (.bool true))):=ζ ⟨true,rfl,iff_of_true rfl (by unfold Ri.Th;dsimp only;omega)⟩;have f20:(op==20)=false:=by simpa using e20
 have f21:(op==21)=false:=by simpa using e21
 have f22:(op==22)=false:=by simpa using e22
 have f23:(op==23)=false:=by simpa using e23
 have f24:(op==24)=false:=by simpa using e24
 have f31:(op==31)=false:=by simpa using e31
 clear e20 e21 e22 e23 e24 e31;go_enter Tryz.func76,Tryz.ntmps76;go_wp2_with fail;go_ret;exact⟨z.out,(Gr.refl w).alloc _⟩
structure Rg where
 e:Int
 a:Int
 s:Int
 r:Nat→Int
def Rg.vals (g:Rg):List Value:=.int .i64 g.e::.int .i64 g.a::.int .i64 g.s::regs g.r
theorem Rg.len (g:Rg):g.vals.length=19:=by simp[Rg.vals,regs_len]
def Rg.Ok (g:Rg)(n:Nat):Prop:=(0≤g.e∧g.e≤(n:Int) - 1)∧(0≤g.a∧g.a≤7)∧0≤g.s∧g.s≤7
def Rg.fg (g:Rg):Fg:=⟨g.e.toNat,g.a.toNat,g.s.toNat,g.r⟩
theorem Rg.Ok.vals {g:Rg}{n:Nat}(h:g.Ok n):g.fg.vals=g.vals:=by
 obtain⟨h1,h2,h3⟩:=h;show Value.int .i64 (g.e.toNat:Int)::Value.int .i64 (g.a.toNat:Int)::Value.int .i64 (g.s.toNat:Int)::regs g.r=_;rw[Int.toNat_of_nonneg h1.1,Int.toNat_of_nonneg h2.1,Int.toNat_of_nonneg h3.1]
 rfl
def RowOk (L:List Ri)(k:Nat):Prop:=(1≤L.length∧L.length≤400)∧∀j (h:j<L.length),L[j].Ok L.length k
theorem rgate_any (g:Rg)(n:Nat)(w:World)(hn:n≤1000):
 Calls Tryz.prog 63 #[.agg (Rg.vals g).toArray,.int .i64 n] w fun x w'=>Says (g.Ok n) x∧Gr w w':=by
 have e1:wrap64 ((n:Int) - 1)=(n:Int) - 1:=by unfold wrap64;omega
 go_enter Tryz.func63,Tryz.ntmps63;go_upto_region 1 with fail
 refine wp_world (fun W=>At W w.heap.size (Rg.vals g).toArray∧Gr w W) ⟨At.new w _ _,(Gr.refl _).alloc _⟩ ?_;rintro W ⟨hA,G⟩;generalize w.heap.size=kb at*;have c0:W.cell? ⟨kb,0,none⟩=some (.int .i64 g.e):=hA.2.1 0;have c1:W.cell? ⟨kb,1,none⟩=some (.int .i64 g.a):=hA.2.1 1;have c2:W.cell? ⟨kb,2,none⟩=some (.int .i64 g.s):=hA.2.1 2;replace hA:=ζ hA;by_cases he:0≤g.e∧g.e≤(n:Int) - 1
 ·by_cases ha:0≤g.a∧g.a≤7
  ·by_cases hs:0≤g.s∧g.s≤7
   ·skip
    have z:Hz (Says (Rg.Ok g n) (.returned (.bool true))):=ζ ⟨true,rfl,iff_of_true rfl ⟨he,ha,hs⟩⟩;go_wp2_with fail;refine(isWithin_ok _ _ _ _ (by omega) (by omega)).mono ?_;rintro r w1 ⟨rfl,e1⟩;subst e1;go_wp2_with fail;refine(isWithin_ok _ _ _ _ (by omega) (by omega)).mono ?_;rintro r w1 ⟨rfl,e1⟩;subst e1;go_wp2_with fail;refine(isWithin_ok _ _ _ _ (by omega) (by omega)).mono ?_;rintro r w1 ⟨rfl,e1⟩;subst e1;go_wp2_with fail;go_ret;exact⟨z.out,G⟩
   ·skip
    have z:Hz (Says (Rg.Ok g n) (.returned (.bool false))):=ζ ⟨false,rfl,iff_of_false (by decide) (fun q=>absurd q.2.2 hs)⟩;go_wp2_with fail;refine(isWithin_ok _ _ _ _ (by omega) (by omega)).mono ?_;rintro r w1 ⟨rfl,e1⟩;subst e1;go_wp2_with fail;refine(isWithin_ok _ _ _ _ (by omega) (by omega)).mono ?_;rintro r w1 ⟨rfl,e1⟩;subst e1;go_wp2_with fail;refine(isWithin_no _ _ _ _ (by omega)).mono ?_;rintro r w1 ⟨rfl,e1⟩;subst e1;go_wp2_with fail;go_ret;exact⟨z.out,G⟩
  ·skip
   have z:Hz (Says (Rg.Ok g n) (.returned (.bool false))):=ζ ⟨false,rfl,iff_of_false (by decide) (fun q=>absurd q.2.1 ha)⟩;go_wp2_with fail;refine(isWithin_ok _ _ _ _ (by omega) (by omega)).mono ?_;rintro r w1 ⟨rfl,e1⟩;subst e1;go_wp2_with fail;refine(isWithin_no _ _ _ _ (by omega)).mono ?_;rintro r w1 ⟨rfl,e1⟩;subst e1;go_wp2_with fail;go_ret;exact⟨z.out,G⟩
 ·skip
  have z:Hz (Says (Rg.Ok g n) (.returned (.bool false))):=ζ ⟨false,rfl,iff_of_false (by decide) (fun q=>absurd q.1 he)⟩;go_wp2_with fail;refine(isWithin_no _ _ _ _ (by omega)).mono ?_;rintro r w1 ⟨rfl,e1⟩;subst e1;go_wp2_with fail;go_ret;exact⟨z.out,G⟩
theorem reat5 {w W:World}{a:Option Addr}{L:List Ri}(h:T.EIn 5 Ri.vals w a L)(g:Gr w W)(j:Nat)(hj:j<L.length):∃b off:Nat,a=some ⟨b,off,none⟩∧b<W.heap.size∧W.rangeAt b (off+j*5) L[j].vals:=by
 obtain⟨b,off,e1,e2,e3⟩:=h j hj;exact⟨b,off,e1,Nat.lt_of_lt_of_le e2 g.below.size,fun i v q=>(T.cell_of_block (g.below.block b e2) _).trans (e3 i v q)⟩
theorem row_any (L:List Ri)(a:Option Addr)(c k:Nat)(w:World)(hL:T.EIn 5 Ri.vals w a L)(his:∀i∈L,i.Is)(hk:k≤1000):
 Calls Tryz.prog 62 #[.slice a L.length c,.int .i64 k] w fun x w'=>Says (RowOk L k) x∧Gr w w':=by
 by_cases hl:1≤(L.length:Int)∧(L.length:Int)≤400;rotate_left
 ·skip
  have z:Hz (Says (RowOk L k) (.returned (.bool false))):=ζ ⟨false,rfl,iff_of_false (by decide) (fun q=>absurd q.1 (by omega))⟩;go_enter Tryz.func62,Tryz.ntmps62;go_wp2_with fail;refine(isWithin_no _ _ _ _ hl).mono ?_;rintro r w1 ⟨rfl,e1⟩;subst e1;go_wp2_with fail;go_ret;exact⟨z.out,Gr.refl _⟩
 replace hL:=ζ hL;replace his:=ζ his;have hlen:L.length≤1000000:=by omega
 go_enter Tryz.func62,Tryz.ntmps62;go_wp2_with fail;refine(isWithin_ok _ _ _ _ (by omega) (by omega)).mono ?_;rintro r w1 ⟨rfl,e1⟩;subst e1;go_upto_region 4 with fail
 go_loopw [13] (fun x wr=>∃j:Nat,x=.int .i64 j∧j≤L.length∧Hz (∀m (h:m<L.length),m<j→L[m].Ok L.length k)∧Hz (Gr w1 wr)) (fun x _=>L.length - (intOf x).toNat)
 case atStart=>exact⟨0,rfl,Nat.zero_le _,ζ (fun m h q=>absurd q (Nat.not_lt_zero _)),ζ (Gr.refl _)⟩
 case round=>
  obtain⟨j,rfl,hj,hbe,G⟩:=hrel;by_cases hlt:j<L.length
  ·have hj1:(j:Int)<(L.length:Int):=Int.ofNat_lt.2 hlt;obtain⟨b,off,rfl,hb,hr⟩:=reat5 hL.out G.out j hlt;have hii:=his.out _ (List.getElem_mem hlt);obtain⟨i,hij⟩:∃i,L[j]=i:=⟨_,rfl⟩;rw[hij]at hr hii;replace hij:=ζ hij;have c0:wr.cell? ⟨b,off+j*5,none⟩=some (.int .u8 i.op):=hr 0 _ rfl;have c1:wr.cell? ⟨b,off+j*5+1,none⟩=some (.int .i64 i.a):=hr 1 _ rfl;have c2:wr.cell? ⟨b,off+j*5+1+1,none⟩=some (.int .i64 i.b):=hr 2 _ rfl;have c3:wr.cell? ⟨b,off+j*5+1+1+1,none⟩=some (.int .i64 i.c):=hr 3 _ rfl;have c4:wr.cell? ⟨b,off+j*5+1+1+1+1,none⟩=some (.int .u64 i.i):=hr 4 _ rfl;replace hii:=ζ hii;replace hr:=ζ hr;go_upto_region 6 with fail
   refine wp_world (fun W=>At W wr.heap.size i.w∧Gr wr W) ⟨At.new wr _ _,(Gr.refl _).alloc _⟩ ?_;rintro V ⟨hA,g1⟩;replace G:=ζ (G.out.trans g1);generalize wr.heap.size=kb at*;clear c0 c1 c2 c3 c4 hr hb g1;have d0:V.cell? ⟨kb,0,none⟩=some (.int .u8 i.op):=hA.2.1 0;have d1:V.cell? ⟨kb,1,none⟩=some (.int .i64 i.a):=hA.2.1 1;have d2:V.cell? ⟨kb,2,none⟩=some (.int .i64 i.b):=hA.2.1 2;have d3:V.cell? ⟨kb,3,none⟩=some (.int .i64 i.c):=hA.2.1 3;have d4:V.cell? ⟨kb,4,none⟩=some (.int .u64 i.i):=hA.2.1 4;by_cases hn:Named i.op;rotate_left
   ·skip
    have z:Hz (Says (RowOk L k) (.returned (.bool false))):=ζ ⟨false,rfl,iff_of_false (by decide) (fun q=>absurd (hij.out▸q.2 j hlt).op hn)⟩;replace hn:=ζ hn;go_wp2_with fail;refine(isNamed_no _ _ hii.out.op hn.out).mono ?_;rintro r V1 ⟨rfl,e1⟩;subst e1;go_wp2_with fail;go_ret;exact⟨z.out,G.out⟩
   replace hn:=ζ hn;go_wp2_with fail;refine(isNamed_ok _ _ hn.out).mono ?_;rintro r V1 ⟨rfl,e1⟩;subst e1;go_wp2_with fail;refine(fields_any i _).mono ?_;rintro r V2 ⟨⟨b2,rfl,h2⟩,g2⟩
   cases b2
   ·skip
    have z:Hz (Says (RowOk L k) (.returned (.bool false))):=ζ ⟨false,rfl,iff_of_false (by decide) (fun q=>absurd (h2.2 (hij.out▸q.2 j hlt).fl) (by decide))⟩;replace G:=ζ (G.out.trans g2);clear h2 d0 d1 d2 d3 d4 hA g2;go_wp2_with fail;go_ret;exact⟨z.out,G.out⟩
   replace h2:=ζ (h2.1 rfl);have hA2:=hA.gr g2;clear d0 d1 d2 d3 d4;have d0:V2.cell? ⟨kb,0,none⟩=some (.int .u8 i.op):=hA2.2.1 0;have d1:V2.cell? ⟨kb,1,none⟩=some (.int .i64 i.a):=hA2.2.1 1;have d2:V2.cell? ⟨kb,2,none⟩=some (.int .i64 i.b):=hA2.2.1 2;have d3:V2.cell? ⟨kb,3,none⟩=some (.int .i64 i.c):=hA2.2.1 3;have d4:V2.cell? ⟨kb,4,none⟩=some (.int .u64 i.i):=hA2.2.1 4;go_wp2_with fail;refine(there_any i L.length k _ ⟨by omega,hk⟩).mono ?_;rintro r V3 ⟨⟨b3,rfl,h3⟩,g3⟩;have G4:=ζ ((G.out.trans g2).trans g3);clear G g2 g3 hA hA2 d0 d1 d2 d3 d4
   cases b3
   ·skip
    have z:Hz (Says (RowOk L k) (.returned (.bool false))):=ζ ⟨false,rfl,iff_of_false (by decide) (fun q=>absurd (h3.2 (hij.out▸q.2 j hlt).th) (by decide))⟩;clear h3;go_wp2_with fail;go_ret;exact⟨z.out,G4.out⟩
   replace h3:=ζ (h3.1 rfl);have hbe2:Hz (∀m (h:m<L.length),m<j+1→L[m].Ok L.length k):=ζ (fun m h q=>by
    by_cases e:m<j
    ·exact hbe.out m h e
    ·obtain rfl:m=j:=by omega
     rw[hij.out];exact⟨hn.out,h2.out,h3.out⟩)
   clear hbe h2 h3 hn hij;go_wp2_with fail;refine⟨⟨j+1,?_,hlt,hbe2,G4⟩,?_⟩
   ·first|rfl|rw[next_wY hlt hlen]|go_num
   ·first|exact next_mY hlt|(rw[next_wY hlt hlen];exact next_mY hlt)
  ·have hj1:¬(j:Int)<(L.length:Int):=fun q=>hlt (Int.ofNat_lt.1 q)
   have z:Hz (Says (RowOk L k) (.returned (.bool true))):=ζ ⟨true,rfl,iff_of_true rfl ⟨by omega,fun m h=>hbe.out m h (by omega)⟩⟩;go_wp2_with fail;go_ret;exact⟨z.out,G.out⟩
end Z
end Go.Proofs.YtdidjhillmgccaaGreat
