import Derived.Test.YtdidjhillmgccaaGreatP16
import Derived.Test.YtdidjhillmgccaaGreatZStor
import Derived.Test.YtdidjhillmgccaaGreatRRow0
namespace Go.Proofs.YtdidjhillmgccaaGreat
set_option maxRecDepth 100000
set_option maxHeartbeats 40000000
namespace Z
open Go.RowKit
open T (Sep Ob Kp Mf FlIn boxOb)
theorem MIn.codeAt {B:Nat}{W:World}{a:Nat}{P:Pr}{s:Fm}{l:List Ob}(h:MIn B W a P s l)(hg:s.g<P.code.length):∃g0 gk c0 ck,W.cell? ⟨a,0,none⟩=some (.slice (some ⟨g0,0,none⟩) P.code.length c0)∧W.cell? ⟨a,4,none⟩=some (.int .i64 s.g)∧W.cell? ⟨a,5,none⟩=some (.int .i64 s.p)∧W.cell? ⟨g0,s.g,none⟩=some (.slice (some ⟨gk,0,none⟩) P.code[s.g].length ck)∧∀j (hj:j<P.code[s.g].length),W.cell? ⟨gk,j,none⟩=some (methV P.code[s.g][j]):=by
 obtain⟨⟨q,h1⟩,le⟩:=h;have hb:=h1.ins (bxOb a (bxOf P s q)) (by simp[obs]);obtain⟨g0,gk,c0,ck,e1,_,e3,_,e5⟩:=(h1.ins (pgOb q.SP q.cv q.gv P) (by simp[obs])).code s.g hg;exact⟨g0,gk,c0,ck,by rw[←e1];exact hb.at_ 0 (by omega),hb.at_ 4 (by omega),hb.at_ 5 (by omega),e3,e5⟩
theorem do_out (B:Nat)(W:World)(a:Nat)(P:Pr)(s:Fm)(l:List Ob)(h:MIn B W a P s l)(hg:s.g<P.code.length)(hp:P.code[s.g].length≤s.p):
 Calls Tryz.prog 65 #[.pointer (some ⟨a,0,none⟩)] W fun x w'=>x=.returned (.tuple #[])∧MIn B w' a P {s with e:=7,v:=0,f:=8} l∧Below B W w':=by
 have hpi:(P.code[s.g].length:Int)≤(s.p:Int):=Int.ofNat_le.2 hp;have hle:=h.le;replace h:=h.gro (Gr.refl W).drew;obtain⟨g0,gk,c0,ck,k0,k4,k5,kr,km⟩:=h.codeAt hg;have hgi:(s.g:Int)<(P.code.length:Int):=Int.ofNat_lt.2 hg;have hB:Hz (Below B W W.drew):=ζ ((Below.refl B W).drew);go_enter Tryz.func65,Tryz.ntmps65;go_upto_region 0 with fail
 refine wp_region_held_drew (S:=(fun W=>W.cell? ⟨a,0,none⟩=some (.slice (some ⟨g0,0,none⟩) P.code.length c0)∧W.cell? ⟨a,4,none⟩=some (.int .i64 s.g)∧W.cell? ⟨g0,s.g,none⟩=some (.slice (some ⟨gk,0,none⟩) P.code[s.g].length ck))) (by kernel_rfl) (⟨k0,k4,kr⟩) (fun hHeld=>?_);refine xz 0 rfl (h:=xz 1 rfl (h:=xz 2 rfl (h:=xz 3 rfl (h:=xz 4 rfl (h:=xz 5 rfl (h:=xz 6 rfl (h:=xz 7 rfl (h:=xz 8 rfl (h:=xz 9 rfl (h:=xz 10 rfl (h:=xz 11 rfl (h:=?_))))))))))));try simp only[xap]
 refine xdn ?_ _;clear hHeld;generalize W.drew=V at*;clear k0 k4 kr;have hf:=ζ (h.onBox (s':={s with e:=7,v:=0,f:=8}) ⟨rfl,rfl,rfl,rfl,rfl⟩ (fun q hb=>fail_any a _ 8 _ hb));replace h:=ζ h;replace km:=ζ km;go_wp2_with fail;refine hf.out.mono ?_;rintro r V2 ⟨rfl,h2,hB2⟩;replace h2:=ζ h2;go_wp2_with fail
 first|go_end0|((try simp only[Exit.inBlock,Exit.then]);refine xre ?_)
 exact⟨rfl,h2.out,hB.out.trans hB2⟩
theorem do_ok (B:Nat)(W:World)(a:Nat)(P:Pr)(s:Fm)(l:List Ob)(s':Fm)(h:MIn B W a P s l)(hg:s.g<P.code.length)(hp:s.p<P.code[s.g].length)(hE:∀args w,(callFunc (methF P.code[s.g][s.p].op) args).run Tryz.prog w=.ok (.enter (methF P.code[s.g][s.p].op) args) w)(hI:∀V,MIn B V a P s l→Calls Tryz.prog (methF P.code[s.g][s.p].op) #[.agg #[.int .u8 P.code[s.g][s.p].op,.int .i64 P.code[s.g][s.p].a,.int .i64 P.code[s.g][s.p].b,.int .i64 P.code[s.g][s.p].c,.int .u64 P.code[s.g][s.p].i],.pointer (some ⟨a,0,none⟩)] V fun x w'=>x=.returned (.tuple #[])∧MIn B w' a P s' l∧Below B V w'):
 Calls Tryz.prog 65 #[.pointer (some ⟨a,0,none⟩)] W fun x w'=>x=.returned (.tuple #[])∧MIn B w' a P s' l∧Below B W w':=by
 have hpi:(s.p:Int)<(P.code[s.g].length:Int):=Int.ofNat_lt.2 hp;have hpj:¬(P.code[s.g].length:Int)≤(s.p:Int):=by omega
 have hle:=h.le;replace h:=h.gro (Gr.refl W).drew;obtain⟨g0,gk,c0,ck,k0,k4,k5,kr,km⟩:=h.codeAt hg;have hgi:(s.g:Int)<(P.code.length:Int):=Int.ofNat_lt.2 hg;have hB:Hz (Below B W W.drew):=ζ ((Below.refl B W).drew);go_enter Tryz.func65,Tryz.ntmps65;go_upto_region 0 with fail
 refine wp_region_held_drew (S:=(fun W=>W.cell? ⟨a,0,none⟩=some (.slice (some ⟨g0,0,none⟩) P.code.length c0)∧W.cell? ⟨a,4,none⟩=some (.int .i64 s.g)∧W.cell? ⟨g0,s.g,none⟩=some (.slice (some ⟨gk,0,none⟩) P.code[s.g].length ck))) (by kernel_rfl) (⟨k0,k4,kr⟩) (fun hHeld=>?_);refine xz 0 rfl (h:=xz 1 rfl (h:=xz 2 rfl (h:=xz 3 rfl (h:=xz 4 rfl (h:=xz 5 rfl (h:=xz 6 rfl (h:=xz 7 rfl (h:=xz 8 rfl (h:=xz 9 rfl (h:=xz 10 rfl (h:=xz 11 rfl (h:=?_))))))))))));try simp only[xap]
 refine xdn ?_ _;clear hHeld;generalize W.drew=V at*;clear k0 k4 kr;have km2:=km s.p hp;clear km;have hI2:=ζ (hI V h);clear hI;replace h:=ζ h;unfold methV at km2;generalize P.code[s.g][s.p]=i at*;generalize methF i.op=mf at*;go_wp2_with fail;refine hI2.out.mono ?_;rintro r V2 ⟨rfl,h2,hB2⟩;replace h2:=ζ h2;go_wp2_with fail
 first|go_end0|((try simp only[Exit.inBlock,Exit.then]);refine xre ?_)
 exact⟨rfl,h2.out,hB.out.trans hB2⟩
def Goes (P:Pr)(s s':Fm):Prop:=∀B W a l,MIn B W a P s l→Calls Tryz.prog 65 #[.pointer (some ⟨a,0,none⟩)] W fun x w'=>x=.returned (.tuple #[])∧MIn B w' a P s' l∧Below B W w'
theorem next_mZ {k n:Nat}(h:k<n):n - (intOf (.int .i64 ((k+1:Nat):Int))).toNat<n - (intOf (.int .i64 (k:Int))).toNat:=by simp[intOf];omega
theorem MIn.e26 {B:Nat}{W:World}{a:Nat}{P:Pr}{s:Fm}{l:List Ob}(h:MIn B W a P s l):W.cell? ⟨a,26,none⟩=some (.int .i64 s.e):=by
 obtain⟨q,hb⟩:=h.bx;exact hb.at_ 26 (by omega)
theorem steps_any (B:Nat)(W:World)(a:Nat)(P:Pr)(l:List Ob)(n m:Nat)(f:Nat→Fm)(h:MIn B W a P (f 0) l)(hm:m≤n)(h0:∀k,k<m→(f k).e=0)(hG:∀k,k<m→Goes P (f k) (f (k+1)))(hE:m=n∨(f m).e≠0)(hn:n≤1000000):
 Calls Tryz.prog 44 #[.pointer (some ⟨a,0,none⟩),.int .i64 n] W fun x w'=>x=.returned (.tuple #[])∧MIn B w' a P (f m) l∧Below B W w':=by
 have hM:=ζ h;clear h;replace h0:=ζ h0;replace hG:=ζ hG;replace hE:=ζ hE;go_enter Tryz.func44,Tryz.ntmps44;go_upto_region 1 with fail
 go_loopw [5] (fun x wr=>∃k:Nat,x=.int .i64 k∧k≤m∧Hz (MIn B wr a P (f k) l)∧Hz (Below B W wr)) (fun x _=>n - (intOf x).toNat)
 case atStart=>exact⟨0,rfl,Nat.zero_le _,hM,ζ (Below.refl _ _)⟩
 case round=>
  clear hM;obtain⟨k,rfl,hk,hM,hB⟩:=hrel;by_cases hkn:k<n
  ·have hk1:(k:Int)<(n:Int):=Int.ofNat_lt.2 hkn;have c26:=hM.out.e26;by_cases hkm:k<m
   ·have e0:=h0.out k hkm;rw[e0]at c26;have hg:=ζ (hG.out k hkm B wr a l hM.out);go_wp2_with fail;refine hg.out.mono ?_;rintro r V ⟨rfl,h2,hB2⟩;replace h2:=ζ h2;replace hB:=ζ (hB.out.trans hB2);clear hM hg hB2;go_wp2_with fail;refine⟨⟨k+1,?_,hkm,h2,hB⟩,?_⟩
    ·first|rfl|rw[next_wZ hkn hn]|go_num
    ·first|exact next_mZ hkn|(rw[next_wZ hkn hn];exact next_mZ hkn)
   ·obtain rfl:k=m:=by omega
    have e1:(f k).e≠0:=by
     rcases hE.out with q|q
     ·omega
     ·exact q
    have e2:((f k).e != 0)=true:=by simpa using e1
    replace e1:=ζ e1;go_wp2_with fail
    first|go_end0|((try simp only[Exit.inBlock,Exit.then]);refine xre ?_)
    exact⟨rfl,hM.out,hB.out⟩
  ·have hk1:¬(k:Int)<(n:Int):=fun q=>hkn (Int.ofNat_lt.1 q)
   obtain rfl:k=m:=by omega
   go_wp2_with fail
   first|go_end0|((try simp only[Exit.inBlock,Exit.then]);refine xre ?_)
   exact⟨rfl,hM.out,hB.out⟩
theorem steps_neg (a:Nat)(n:Int)(W:World)(hn:¬0<n):
 Calls Tryz.prog 44 #[.pointer (some ⟨a,0,none⟩),.int .i64 n] W fun x w'=>x=.returned (.tuple #[])∧w'=W:=by
 go_enter Tryz.func44,Tryz.ntmps44;go_upto_region 1 with fail
 go_loopw [5] (fun x wr=>x=.int .i64 0∧wr=W) (fun _ _=>0)
 case atStart=>exact⟨rfl,rfl⟩
 case round=>
  obtain⟨rfl,rfl⟩:=hrel;go_wp2_with fail
  first|go_end0|((try simp only[Exit.inBlock,Exit.then]);refine xre ?_)
  exact⟨rfl,rfl⟩
theorem results_rowZ {fn:Func}{p:Tmp}{ty:TypeId}{v:Value}{a:Addr}(h:fn.results=#[.cell p ty])(tmps:Array Value)(w:World)(ht:tmps.getD p undef=.pointer (some a))(hl:(loadVar ty a).run Tryz.prog w=.ok v w):
 (results fn tmps).run Tryz.prog w=.ok v w:=by
 have ht':tmps[p]?.getD undef=.pointer (some a):=by simpa using ht
 simp[results,h,ht',asAddr,hl]
theorem stands_any (B:Nat)(W:World)(a:Nat)(P:Pr)(s:Fm)(l:List Ob)(h:MIn B W a P s l):
 Calls Tryz.prog 46 #[.pointer (some ⟨a,0,none⟩)] W fun x w'=>x=.returned (.agg #[.int .i64 s.e,.int .u64 s.v,.int .i64 s.f,.int .i64 s.g,.int .i64 s.p])∧Gr W w':=by
 have KS:Hz (∀V,MIn B V a P s l→V.cell? ⟨a,26,none⟩=some (.int .i64 s.e)∧V.cell? ⟨a,27,none⟩=some (.int .u64 s.v)∧V.cell? ⟨a,28,none⟩=some (.int .i64 s.f)∧V.cell? ⟨a,4,none⟩=some (.int .i64 s.g)∧V.cell? ⟨a,5,none⟩=some (.int .i64 s.p)):=ζ (fun V g=>by
  obtain⟨q,hb⟩:=g.bx;exact⟨hb.at_ 26 (by omega),hb.at_ 27 (by omega),hb.at_ 28 (by omega),hb.at_ 4 (by omega),hb.at_ 5 (by omega)⟩)
 have hM:=ζ h;clear h;go_enter Tryz.func46,Tryz.ntmps46;go_upto_region 1 with fail
 refine wp_world (fun V=>At V W.heap.size #[.int .i64 0,.int .u64 0,.int .i64 0,.int .i64 0,.int .i64 0]∧Gr W V) ⟨At.new W _ _,(Gr.refl _).alloc _⟩ ?_;rintro V ⟨hA,G⟩;have hkW:W.heap.size≤W.heap.size:=Nat.le_refl _;generalize hk:W.heap.size=kr at hA hkW ⊢;have hD:MIn B V.drew a P s l:=hM.out.gro G.drew;have hAd:At V.drew kr #[.int .i64 0,.int .u64 0,.int .i64 0,.int .i64 0,.int .i64 0]:=hA.gr (Gr.refl V).drew;have Gd:=G.drew;have hth:=ζ (At.there (cs:=[Value.int .i64 0,.int .u64 0,.int .i64 0,.int .i64 0,.int .i64 0]) hAd 0 5 (by decide));have hA2:=ζ (At.setAll (cs:=[Value.int .i64 0,.int .u64 0,.int .i64 0,.int .i64 0,.int .i64 0]) hAd [Value.int .i64 s.e,.int .u64 s.v,.int .i64 s.f,.int .i64 s.g,.int .i64 s.p] rfl);have G2:=ζ (Gr.setCells Gd kr (by omega) [Value.int .i64 s.e,.int .u64 s.v,.int .i64 s.f,.int .i64 s.g,.int .i64 s.p] 0);have hN:=ζ (hM.out.gro G2.out);clear hA hAd G Gd;refine wp_region_held_drew (S:=(fun W=>W.cell? ⟨a,26,none⟩=some (.int .i64 s.e)∧W.cell? ⟨a,27,none⟩=some (.int .u64 s.v)∧W.cell? ⟨a,28,none⟩=some (.int .i64 s.f)∧W.cell? ⟨a,4,none⟩=some (.int .i64 s.g)∧W.cell? ⟨a,5,none⟩=some (.int .i64 s.p))) (by kernel_rfl) (KS.out _ hD) (fun hHeld=>?_)
 refine xz 0 rfl (h:=xz 1 rfl (h:=xz 2 rfl (h:=xz 3 rfl (h:=xz 4 rfl (h:=xz 5 rfl (h:=xz 6 rfl (h:=xz 7 rfl (h:=xz 8 rfl (h:=xz 9 rfl (h:=xz 10 rfl (h:=xz 11 rfl (h:=xz 12 rfl (h:=xz 13 rfl (h:=xz 14 rfl (h:=xz 15 rfl (h:=xz 16 rfl (h:=xz 17 rfl (h:=xz 18 rfl (h:=xz 19 rfl (h:=xz 20 rfl (h:=xz 21 rfl (h:=xz 22 rfl (h:=xz 23 rfl (h:=xz 24 rfl (h:=xz 25 rfl (h:=?_))))))))))))))))))))))))));try simp only[xap]
 refine xrd 26 rfl (fun K hK=>?_);rw[if_pos (by rfl)];refine wp_store_mid _ _ _ rfl _ _ (List.toArray [Value.int .i64 s.e,.int .u64 s.v,.int .i64 s.f,.int .i64 s.g,.int .i64 s.p]) rfl rfl (hth.out) (by kernel_rfl) (by simp[Value.oneCell']) ?_;refine hK.out _ _ (KS.out _ hN.out) (fun hHeld=>?_);clear hK K;try simp only[Act.put]
 refine xdn ?_ _;clear hHeld;generalize World.setCells _ _ _ _=Z at*;have hrun:=ζ (run_loadVar_mid (P:=Tryz.prog) Z kr 0 62 [Value.int .i64 s.e,.int .u64 s.v,.int .i64 s.f,.int .i64 s.g,.int .i64 s.p] _ (fun j v q=>by rw[Nat.zero_add];exact(hA2.out.2.1 j).trans (by simpa using q)) Tryz.underlying62 rfl (by kernel_rfl));go_wp2_with fail;refine bodyPost_ret (v:=.agg #[.int .i64 s.e,.int .u64 s.v,.int .i64 s.f,.int .i64 s.g,.int .i64 s.p]) ?_ rfl ⟨rfl,G2.out⟩;exact results_rowZ Tryz.results46 _ _ rfl hrun.out
end Z
end Go.Proofs.YtdidjhillmgccaaGreat
