/- Elder texts, cut down and merged (22). -/
import Derived.Test.YtlpfhjbpknbndaaGreatDoorP21
import Derived.Test.YtlpfhjbpknbndaaGreatDoorP20
import Derived.Test.YtlpfhjbpknbndaaGreatDoorPTk
set_option maxRecDepth 100000
set_option maxHeartbeats 8000000
namespace Go.Proofs.YtlpfhjbpknbndaaGreatDoor
open Value renaming int→bf,string→bR,slice→cx,bool→eX
open IntKind renaming u64→dg,i64→cu
open Option renaming none→av,some→aD
open Obj renaming cells→ey
open Or renaming inl→dc,inr→dn
open Ending renaming returned→eb
open World renaming alloc->aC,setCell->iX,size_alloc->aS
open Bool renaming and_eq_true->eH
open Nat renaming zero_le->aB,le_refl->ah,lt_of_le_of_lt->fP,zero_add->bE
open List renaming length_take->aO,getElem?_eq_getElem->aK
section
open Go.RowKit Lib
theorem MY.Xn {w X:World} {u:Value} {t:TypeId} {cs:List Value} (h:MY w u t cs X) (U:Value):MY w U t cs ((X.setCell ⟨w.heap.size,0,av⟩ U).setCell ⟨w.heap.size,1,av⟩ (bf dg 1))/\aG (fun k=>k=w.heap.size) X ((X.setCell ⟨w.heap.size,0,av⟩ U).setCell ⟨w.heap.size,1,av⟩ (bf dg 1)):=by obtain⟨Q,q⟩:=DP h.m U (bf dg 1);exact⟨⟨h.below.trans (q.below h.below.size fun k H e=>by omega),Q,h.y.but q (by omega),h.r.but q (by omega)⟩,q⟩
theorem xJ (w:World) {B:Nat} {u:Value} {l:List Bk.B} (h:b8 B w u l) (hl:l.length<=90000) (hg:Bk.Good l) (b:Bk.B):
  Calls Tryz.prog 22 #[mV u,qH b] w fun e w'=>oR w w' u l (Bk.restore l b).1 (Bk.restore l b).2 e:=by
 obtain⟨a,cp,rfl,hc⟩:=Own.slice h;obtain⟨N,hN⟩:∃N,N=l.length:=⟨_,rfl⟩;rw[<-hN] at h hc |-;have H:=aa (MY.begin w (cx a N cp) 46 #[bR (bs b.name),bf cu b.state,bf dg b.born,eX b.on,bR (bs b.pre),bf dg b.after]);have HO:=aa h;have R:=aa (fun W=>lZ (bs b.name) W);rw[bS] at R;have HN:=aa (And.intro hN hl);have IP:(N:Int)<=90000:=by omega
 have xM:(N:Int)<=cp:=by omega
 unfold mV qH;cases hv:Nm.bucket b.name with
 |false=>
  have hV:Bk.restore l b=(l,28):=by unfold Bk.restore;rw[hv];rfl
  rw[hV];rw[hv] at R;clear hV hv h hN hc;generalize bs b.name=K at*;generalize bs b.pre=PB at*;go_enter Tryz.func22,Tryz.ntmps22;go_wp2_with fail;generalize aC (aC (aC w _) _) _=w2 at*;have s0:=H.o.y.cell (j:=0) rfl;have s1:=H.o.y.cell (j:=1) rfl;have s2:=H.o.y.cell (j:=2) rfl;have s:=H.o.y.cell (j:=3) rfl;have S:=H.o.y.cell (j:=4) rfl;have d:=H.o.y.cell (j:=5) rfl;refine (R.o _).mono ?_;rintro e w3 ⟨rfl,rfl⟩;have x0:=H.o.m.cell (j:=0) rfl;have x:=H.o.m.cell (j:=1) rfl;have r0:=H.o.r.cell (j:=0) rfl;have r1:=H.o.r.cell (j:=1) rfl;have Z:=H.o.r.frozen 0;have T:=H.o.r.frozen 1;go_wp2;obtain⟨Q,q⟩:=H.o.kX (cx a N cp) (bf dg 1);try simp only[Exit.inBlock,Exit.then]
  refine bodyPost_ret (fC rfl _ rfl Q) rfl ?_;exact⟨_,rfl,dn ⟨rfl,rfl⟩,H.o.below.trans (q.below H.o.below.size fun k F e=>by omega)⟩
 |true=>
  rw[hv] at R;by_cases V:b.state<0\/2<b.state\/Bk.wrong b.on b.pre b.after=true
  ·have hV:Bk.restore l b=(l,30):=(by unfold Bk.restore;rw[hv,if_neg (by decide),if_pos V]);rw[hV];have hps:(bs b.pre).size=b.pre.length:=aP b.pre;clear hV hv h hN hc;by_cases h1:b.state<0
   ·clear V;generalize bs b.name=K at*;generalize bs b.pre=PB at*;go_enter Tryz.func22,Tryz.ntmps22;go_wp2_with fail;generalize aC (aC (aC w _) _) _=w2 at*;have s0:=H.o.y.cell (j:=0) rfl;have s1:=H.o.y.cell (j:=1) rfl;have s2:=H.o.y.cell (j:=2) rfl;have s:=H.o.y.cell (j:=3) rfl;have S:=H.o.y.cell (j:=4) rfl;have d:=H.o.y.cell (j:=5) rfl;refine (R.o _).mono ?_;rintro e w3 ⟨rfl,rfl⟩;have x0:=H.o.m.cell (j:=0) rfl;have x:=H.o.m.cell (j:=1) rfl;have r0:=H.o.r.cell (j:=0) rfl;have r1:=H.o.r.cell (j:=1) rfl;have Z:=H.o.r.frozen 0;have T:=H.o.r.frozen 1;go_wp2;obtain⟨Q,q⟩:=H.o.kX (cx a N cp) (bf dg 1);try simp only[Exit.inBlock,Exit.then]
    refine bodyPost_ret (fC rfl _ rfl Q) rfl ?_;exact⟨_,rfl,dn ⟨rfl,rfl⟩,H.o.below.trans (q.below H.o.below.size fun k F e=>by omega)⟩
   ·by_cases h2:2<b.state
    ·clear V;generalize bs b.name=K at*;generalize bs b.pre=PB at*;go_enter Tryz.func22,Tryz.ntmps22;go_wp2_with fail;generalize aC (aC (aC w _) _) _=w2 at*;have s0:=H.o.y.cell (j:=0) rfl;have s1:=H.o.y.cell (j:=1) rfl;have s2:=H.o.y.cell (j:=2) rfl;have s:=H.o.y.cell (j:=3) rfl;have S:=H.o.y.cell (j:=4) rfl;have d:=H.o.y.cell (j:=5) rfl;refine (R.o _).mono ?_;rintro e w3 ⟨rfl,rfl⟩;have x0:=H.o.m.cell (j:=0) rfl;have x:=H.o.m.cell (j:=1) rfl;have r0:=H.o.r.cell (j:=0) rfl;have r1:=H.o.r.cell (j:=1) rfl;have Z:=H.o.r.frozen 0;have T:=H.o.r.frozen 1;go_wp2;obtain⟨Q,q⟩:=H.o.kX (cx a N cp) (bf dg 1);try simp only[Exit.inBlock,Exit.then]
     refine bodyPost_ret (fC rfl _ rfl Q) rfl ?_;exact⟨_,rfl,dn ⟨rfl,rfl⟩,H.o.below.trans (q.below H.o.below.size fun k F e=>by omega)⟩
    ·have hw:=(V.resolve_left h1).resolve_left h2;clear V;unfold Bk.wrong at hw;simp only[Bool.or_eq_true,eH,decide_eq_true_eq,Bool.not_eq_true',bne_iff_ne] at hw;by_cases hp:20<b.pre.length
     ·have BT:(20:Int)<(bs b.pre).size:=(by omega);clear hw hps hp;generalize bs b.name=K at*;generalize bs b.pre=PB at*;go_enter Tryz.func22,Tryz.ntmps22;go_wp2_with fail;generalize aC (aC (aC w _) _) _=w2 at*;have s0:=H.o.y.cell (j:=0) rfl;have s1:=H.o.y.cell (j:=1) rfl;have s2:=H.o.y.cell (j:=2) rfl;have s:=H.o.y.cell (j:=3) rfl;have S:=H.o.y.cell (j:=4) rfl;have d:=H.o.y.cell (j:=5) rfl;refine (R.o _).mono ?_;rintro e w3 ⟨rfl,rfl⟩;have x0:=H.o.m.cell (j:=0) rfl;have x:=H.o.m.cell (j:=1) rfl;have r0:=H.o.r.cell (j:=0) rfl;have r1:=H.o.r.cell (j:=1) rfl;have Z:=H.o.r.frozen 0;have T:=H.o.r.frozen 1;go_wp2;obtain⟨Q,q⟩:=H.o.kX (cx a N cp) (bf dg 1);try simp only[Exit.inBlock,Exit.then]
      refine bodyPost_ret (fC rfl _ rfl Q) rfl ?_;exact⟨_,rfl,dn ⟨rfl,rfl⟩,H.o.below.trans (q.below H.o.below.size fun k F e=>by omega)⟩
     ·have BT:¬(20:Int)<(bs b.pre).size:=(by omega);obtain⟨ho,jL⟩:=hw.resolve_left hp;rw[ho] at H |-;clear hw hps hp;by_cases Y:b.pre=[]
      ·have ha:b.after≠0:=jL.resolve_left (fun h=>h Y);have LB:((b.after:Int) !=0)=true:=(by rw[bne_iff_ne];omega);have V:bs b.pre=⟨#[]⟩:=(by rw[Y];rfl);rw[V] at H BT |-;clear jL ha V Y;generalize bs b.name=K at*;go_enter Tryz.func22,Tryz.ntmps22;go_wp2_with fail;generalize aC (aC (aC w _) _) _=w2 at*;have s0:=H.o.y.cell (j:=0) rfl;have s1:=H.o.y.cell (j:=1) rfl;have s2:=H.o.y.cell (j:=2) rfl;have s:=H.o.y.cell (j:=3) rfl;have S:=H.o.y.cell (j:=4) rfl;have d:=H.o.y.cell (j:=5) rfl;refine (R.o _).mono ?_;rintro e w3 ⟨rfl,rfl⟩;have x0:=H.o.m.cell (j:=0) rfl;have x:=H.o.m.cell (j:=1) rfl;have r0:=H.o.r.cell (j:=0) rfl;have r1:=H.o.r.cell (j:=1) rfl;have Z:=H.o.r.frozen 0;have T:=H.o.r.frozen 1;go_wp2;obtain⟨Q,q⟩:=H.o.kX (cx a N cp) (bf dg 1);try simp only[Exit.inBlock,Exit.then]
       refine bodyPost_ret (fC rfl _ rfl Q) rfl ?_;exact⟨_,rfl,dn ⟨rfl,rfl⟩,H.o.below.trans (q.below H.o.below.size fun k F e=>by omega)⟩
      ·have hpb:((bs b.pre).toList==(⟨#[]⟩:ByteArray).toList)=false:=(by rw[bt,show (⟨#[]⟩:ByteArray)=bs [] from rfl,bt,beq_eq_false_iff_ne];exact Y);have aaG:¬(bs b.pre).toList=[]:=(by rw[bt];exact Y);clear jL Y;generalize bs b.name=K at*;generalize bs b.pre=PB at*;go_enter Tryz.func22,Tryz.ntmps22;go_wp2_with fail;generalize aC (aC (aC w _) _) _=w2 at*;have s0:=H.o.y.cell (j:=0) rfl;have s1:=H.o.y.cell (j:=1) rfl;have s2:=H.o.y.cell (j:=2) rfl;have s:=H.o.y.cell (j:=3) rfl;have S:=H.o.y.cell (j:=4) rfl;have d:=H.o.y.cell (j:=5) rfl;refine (R.o _).mono ?_;rintro e w3 ⟨rfl,rfl⟩;have x0:=H.o.m.cell (j:=0) rfl;have x:=H.o.m.cell (j:=1) rfl;have r0:=H.o.r.cell (j:=0) rfl;have r1:=H.o.r.cell (j:=1) rfl;have Z:=H.o.r.frozen 0;have T:=H.o.r.frozen 1;go_wp2;obtain⟨Q,q⟩:=H.o.kX (cx a N cp) (bf dg 1);try simp only[Exit.inBlock,Exit.then]
       refine bodyPost_ret (fC rfl _ rfl Q) rfl ?_;exact⟨_,rfl,dn ⟨rfl,rfl⟩,H.o.below.trans (q.below H.o.below.size fun k F e=>by omega)⟩
  ·have hV:Bk.restore l b=(Bk.ins l b,0):=(by unfold Bk.restore;rw[hv,if_neg (by decide),if_neg V]);rw[hV];have h1:¬b.state<0:=fun h=>V (dc h);have h2:¬2<b.state:=fun h=>V (dn (dc h));have hw:Bk.wrong b.on b.pre b.after=false:=by
    cases hw:Bk.wrong b.on b.pre b.after with
    |false=>rfl
    |true=>exact absurd (dn (dn hw)) V
   unfold Bk.wrong at hw;simp only[Bool.or_eq_false_iff,Bool.and_eq_false_iff,decide_eq_false_iff_not,Bool.not_eq_false',bne_eq_false_iff_eq] at hw;have BT:¬(20:Int)<(bs b.pre).size:=(by have:=aP b.pre;omega);have j3:=aa (fun (W:World) (I:b8 0 W (cx a N cp) l)=>ig W I (by omega) b.name);have Ry:=aa (Own.mono h (aB _));unfold mV at j3;have hww:b.on=true\/(b.on=false/\bs b.pre=⟨#[]⟩/\(b.after:Int)=0):=by
    rcases hw.2 with h|h;·exact dc h
    ·cases hon:b.on with
     |true=>exact dc rfl
     |false=>exact dn ⟨rfl,by rw[h.1];rfl,by rw[h.2];rfl⟩
   clear hV V hw;cases hi:Bk.idx l b.name with
   |some i=>
    obtain⟨z,hx1,hx2⟩:=Bk.iO hi;clear hx1 hx2;have hI:jr l b.name=i:=(by unfold jr;rw[hi]);have IA:l.set i b=Bk.ins l b:=(by have h1:=Bk.uT hg hi z fun _=>b;have h3:(Bk.find l b.name).isSome=true:=(by rw[<-Bk.kG,hi];rfl);rw[h1,Bk.zH hg h3]);have DQ:=aa (fun (W:World) (I:b8 0 W (cx a N cp) l)=>lG W I (by omega) i z b);rw[IA] at DQ;rw[hI] at j3;have Qp:=HN;have oS:=aa z;have Ka:=j3;have abM:¬(i:Int)<0:=(by omega);unfold Uc mV at DQ;clear h hN hc hg hl hi hI hv IA z;generalize Bk.ins l b=L2 at*;generalize bs b.name=K at*;generalize bs b.pre=PB at*;generalize b.state=st at*;generalize b.born=bo at*;generalize (b.after:Int)=af at*;generalize b.on=on at*;rcases hww with rfl|⟨rfl,rfl,rfl⟩
    ·skip
     go_enter Tryz.func22,Tryz.ntmps22;go_wp2_with fail;generalize aC (aC (aC w _) _) _=w2 at*;have s0:=H.o.y.cell (j:=0) rfl;have s1:=H.o.y.cell (j:=1) rfl;have s2:=H.o.y.cell (j:=2) rfl;have s:=H.o.y.cell (j:=3) rfl;have S:=H.o.y.cell (j:=4) rfl;have d:=H.o.y.cell (j:=5) rfl;refine (R.o _).mono ?_;rintro e w3 ⟨rfl,rfl⟩;have x0:=H.o.m.cell (j:=0) rfl;have x:=H.o.m.cell (j:=1) rfl;go_wp2_with fail;refine (j3.o _ (Own.below Ry.o H.o.below (ah _))).mono ?_;rintro e n ⟨rfl,c⟩;have f:=aa (H.o.later c);have NH:=aa (Own.below Ry.o f.o.below (ah _));clear c H x0 x s0 s1 s2 s S d;have s0:=f.o.y.cell (j:=0) rfl;have s1:=f.o.y.cell (j:=1) rfl;have s2:=f.o.y.cell (j:=2) rfl;have s:=f.o.y.cell (j:=3) rfl;have S:=f.o.y.cell (j:=4) rfl;have d:=f.o.y.cell (j:=5) rfl;have x0:=f.o.m.cell (j:=0) rfl;have x:=f.o.m.cell (j:=1) rfl;go_wp2_with fail;refine (Ka.o _ NH.o).mono ?_;rintro e n ⟨rfl,c⟩;have E:=aa (f.o.later c);have t:=aa (Own.below NH.o c (ah _));clear c f x0 x s0 s1 s2 s S d;have s0:=E.o.y.cell (j:=0) rfl;have s1:=E.o.y.cell (j:=1) rfl;have s2:=E.o.y.cell (j:=2) rfl;have s:=E.o.y.cell (j:=3) rfl;have S:=E.o.y.cell (j:=4) rfl;have d:=E.o.y.cell (j:=5) rfl;have x0:=E.o.m.cell (j:=0) rfl;have x:=E.o.m.cell (j:=1) rfl;obtain⟨g,cap',e,L,mw,M⟩:=Own.form t.o (fP (aB _) oS.o);have e1:a=aD ⟨g,0,av⟩:=(by injection e);subst e1;obtain⟨c0,c1,C,c3,c4,c5,c6,c7⟩:=kH (Own.lies t.o) i oS.o;rw[bE] at c0 c1 C c3 c4 c5 c6 c7;have hii:(i:Int)<N:=(by have:=oS.o;have:=Qp.o.1;omega);have A:=aa (E.o.later ((Below.refl _ n).alloc (ah _) (ey #[bR K,bf cu st,bf dg bo,eX true,bR PB,bf dg af,cx av 0 0,cx av 0 0] 53)));have ND:=aa (show b8 0 (n.alloc (ey #[bR K,bf cu st,bf dg bo,eX true,bR PB,bf dg af,cx av 0 0,cx av 0 0] 53)) _ _ from Own.alloc t.o _);have y0:=A.o.m.cell (j:=0) rfl;have y1:=A.o.m.cell (j:=1) rfl;have n3:w.heap.size<n.heap.size:=E.o.m.lt;have n4:w.heap.size+1<n.heap.size:=E.o.y.lt;clear L mw M e;go_wp2_with fail;clear c0 c1 C c3 c4 c5 c6 c7 x0 x s0 s1 s2 s S d;generalize aC n _=w5 at*;refine (DQ.o _ ND.o).mono ?_;rintro e w6 ⟨v',rfl,O,jO⟩;have G:=aa (A.o.later jO);obtain⟨a6,P,Gc,_⟩:=Own.slice O;subst Gc;have xG:=aa O;have xH:=aa (show w.heap.size+2<w5.heap.size from A.o.r.lt);clear O jO y0 y1;have r0:=G.o.r.cell (j:=0) rfl;have r1:=G.o.r.cell (j:=1) rfl;have Z:=G.o.r.frozen 0;have T:=G.o.r.frozen 1;go_wp2;obtain⟨Q,q⟩:=G.o.kX (cx a6 L2.length P) (bf dg 1);try simp only[Exit.inBlock,Exit.then]
     refine bodyPost_ret (fC rfl _ rfl Q) rfl ?_;exact⟨_,rfl,dc (Own.mono (Own.but xG.o q fun k F e=>by have:=(Own.block xG.o k F).1;have:=xH.o;omega) (by have:=xH.o;omega)),G.o.below.trans (q.below G.o.below.size fun k F e=>by omega)⟩
    ·skip
     go_enter Tryz.func22,Tryz.ntmps22;go_wp2_with fail;generalize aC (aC (aC w _) _) _=w2 at*;have s0:=H.o.y.cell (j:=0) rfl;have s1:=H.o.y.cell (j:=1) rfl;have s2:=H.o.y.cell (j:=2) rfl;have s:=H.o.y.cell (j:=3) rfl;have S:=H.o.y.cell (j:=4) rfl;have d:=H.o.y.cell (j:=5) rfl;refine (R.o _).mono ?_;rintro e w3 ⟨rfl,rfl⟩;have x0:=H.o.m.cell (j:=0) rfl;have x:=H.o.m.cell (j:=1) rfl;go_wp2_with fail;refine (j3.o _ (Own.below Ry.o H.o.below (ah _))).mono ?_;rintro e n ⟨rfl,c⟩;have f:=aa (H.o.later c);have NH:=aa (Own.below Ry.o f.o.below (ah _));clear c H x0 x s0 s1 s2 s S d;have s0:=f.o.y.cell (j:=0) rfl;have s1:=f.o.y.cell (j:=1) rfl;have s2:=f.o.y.cell (j:=2) rfl;have s:=f.o.y.cell (j:=3) rfl;have S:=f.o.y.cell (j:=4) rfl;have d:=f.o.y.cell (j:=5) rfl;have x0:=f.o.m.cell (j:=0) rfl;have x:=f.o.m.cell (j:=1) rfl;go_wp2_with fail;refine (Ka.o _ NH.o).mono ?_;rintro e n ⟨rfl,c⟩;have E:=aa (f.o.later c);have t:=aa (Own.below NH.o c (ah _));clear c f x0 x s0 s1 s2 s S d;have s0:=E.o.y.cell (j:=0) rfl;have s1:=E.o.y.cell (j:=1) rfl;have s2:=E.o.y.cell (j:=2) rfl;have s:=E.o.y.cell (j:=3) rfl;have S:=E.o.y.cell (j:=4) rfl;have d:=E.o.y.cell (j:=5) rfl;have x0:=E.o.m.cell (j:=0) rfl;have x:=E.o.m.cell (j:=1) rfl;obtain⟨g,cap',e,L,mw,M⟩:=Own.form t.o (fP (aB _) oS.o);have e1:a=aD ⟨g,0,av⟩:=(by injection e);subst e1;obtain⟨c0,c1,C,c3,c4,c5,c6,c7⟩:=kH (Own.lies t.o) i oS.o;rw[bE] at c0 c1 C c3 c4 c5 c6 c7;have hii:(i:Int)<N:=(by have:=oS.o;have:=Qp.o.1;omega);have A:=aa (E.o.later ((Below.refl _ n).alloc (ah _) (ey #[bR K,bf cu st,bf dg bo,eX false,bR ⟨#[]⟩,bf dg 0,cx av 0 0,cx av 0 0] 53)));have ND:=aa (show b8 0 (n.alloc (ey #[bR K,bf cu st,bf dg bo,eX false,bR ⟨#[]⟩,bf dg 0,cx av 0 0,cx av 0 0] 53)) _ _ from Own.alloc t.o _);have y0:=A.o.m.cell (j:=0) rfl;have y1:=A.o.m.cell (j:=1) rfl;have n3:w.heap.size<n.heap.size:=E.o.m.lt;have n4:w.heap.size+1<n.heap.size:=E.o.y.lt;clear L mw M e;go_wp2_with fail;clear c0 c1 C c3 c4 c5 c6 c7 x0 x s0 s1 s2 s S d;generalize aC n _=w5 at*;refine (DQ.o _ ND.o).mono ?_;rintro e w6 ⟨v',rfl,O,jO⟩;have G:=aa (A.o.later jO);obtain⟨a6,P,Gc,_⟩:=Own.slice O;subst Gc;have xG:=aa O;have xH:=aa (show w.heap.size+2<w5.heap.size from A.o.r.lt);clear O jO y0 y1;have r0:=G.o.r.cell (j:=0) rfl;have r1:=G.o.r.cell (j:=1) rfl;have Z:=G.o.r.frozen 0;have T:=G.o.r.frozen 1;go_wp2;obtain⟨Q,q⟩:=G.o.kX (cx a6 L2.length P) (bf dg 1);try simp only[Exit.inBlock,Exit.then]
     refine bodyPost_ret (fC rfl _ rfl Q) rfl ?_;exact⟨_,rfl,dc (Own.mono (Own.but xG.o q fun k F e=>by have:=(Own.block xG.o k F).1;have:=xH.o;omega) (by have:=xH.o;omega)),G.o.below.trans (q.below G.o.below.size fun k F e=>by omega)⟩
   |none=>
    have hfn:=Bk.xB hi;obtain⟨J,hb0⟩:∃J:Bk.B,J=⟨b.name,0,b.born,false,[],0⟩:=⟨_,rfl⟩;have hn0:J.name=b.name:=(by rw[hb0]);have hmk:Bk.make l b.name b.born=(Bk.ins l J,0):=(by unfold Bk.make;rw[hv,if_neg (by decide),hfn,hb0];rfl);have Tw:=aa (fun (W:World) (I:b8 0 W (cx a N cp) l)=>ur W I (by omega) hg b.name b.born);rw[hmk] at Tw;have hI:jr l b.name=-1:=(by unfold jr;rw[hi]);rw[hI] at j3;have TH:Bk.Good (Bk.ins l J):=hg.ins J (by rw[hn0];exact Nm.eS hv);have hfs:Bk.find (Bk.ins l J) b.name=aD J:=(by rw[Bk.Ni,if_pos hn0.symm]);obtain⟨i,hi2⟩:∃i,Bk.idx (Bk.ins l J) b.name=aD i:=Option.isSome_iff_exists.1 (by rw[Bk.kG,hfs];rfl);obtain⟨z,hx1,hx2⟩:=Bk.iO hi2;have IA:(Bk.ins l J).set i b=Bk.ins l b:=(by rw[Bk.uT TH hi2 z fun _=>b,Bk.FW hn0]);have Q9:(Bk.ins l J).length<=100000:=(by have:=Bk.jd (l:=l) J;omega);have Qs:=aa (fun (v:Value) (W:World) (I:b8 0 W v (Bk.ins l J))=>ig W I Q9 b.name);have Qt:=aa (fun (v:Value) (W:World) (I:b8 0 W v (Bk.ins l J))=>lG W I Q9 i z b);have Ir:jr (Bk.ins l J) b.name=i:=(by unfold jr;rw[hi2]);rw[IA] at Qt;rw[Ir] at Qs;have oS:=aa z;have sH:=aa Q9;unfold Uc mV at Qt;unfold mV at Qs;unfold oR mV at Tw;simp only at Tw;have HU:=aa (fun D p=>(Own.block h D p).2);clear h hN hc hg hl hi hI hv IA z Q9 hfn hb0 hn0 hmk TH hfs hi2 hx1 hx2 Ir;generalize Bk.ins l b=L2 at*;generalize Bk.ins l J=L0 at*;generalize bs b.name=K at*;generalize bs b.pre=PB at*;generalize b.state=st at*;generalize b.born=bo at*;generalize (b.after:Int)=af at*;generalize b.on=on at*;rcases hww with rfl|⟨rfl,rfl,rfl⟩
    ·skip
     go_enter Tryz.func22,Tryz.ntmps22;go_wp2_with fail;generalize aC (aC (aC w _) _) _=w2 at*;have s0:=H.o.y.cell (j:=0) rfl;have s1:=H.o.y.cell (j:=1) rfl;have s2:=H.o.y.cell (j:=2) rfl;have s:=H.o.y.cell (j:=3) rfl;have S:=H.o.y.cell (j:=4) rfl;have d:=H.o.y.cell (j:=5) rfl;refine (R.o _).mono ?_;rintro e w3 ⟨rfl,rfl⟩;have x0:=H.o.m.cell (j:=0) rfl;have x:=H.o.m.cell (j:=1) rfl;go_wp2_with fail;refine (j3.o _ (Own.below Ry.o H.o.below (ah _))).mono ?_;rintro e n ⟨rfl,c⟩;have X:=aa (H.o.later c);have t:=aa (Own.below Ry.o X.o.below (ah _));clear c H x0 x s0 s1 s2 s S d;have s0:=X.o.y.cell (j:=0) rfl;have s1:=X.o.y.cell (j:=1) rfl;have s2:=X.o.y.cell (j:=2) rfl;have s:=X.o.y.cell (j:=3) rfl;have S:=X.o.y.cell (j:=4) rfl;have d:=X.o.y.cell (j:=5) rfl;have x0:=X.o.m.cell (j:=0) rfl;have x:=X.o.m.cell (j:=1) rfl;go_wp2_with fail;refine (Tw.o _ t.o).mono ?_;rintro e w5 ⟨v',rfl,zQ,dP⟩;have U:=aa (X.o.later dP);have E7:b8 0 w5 v' L0/\∀D,v'.ownBlock=aD D->D≠w.heap.size:=by
      rcases zQ with h|⟨h1,h2⟩;·exact⟨Own.mono h (aB _),fun D p=>by have:=(Own.block h D p).1;have:=X.o.m.lt;omega⟩
      ·rw[h1,h2];exact⟨Own.below t.o dP (ah _),fun D p=>by have:=HU.o D p;omega⟩
     obtain⟨Gd,NI⟩:=E7;obtain⟨a2,c2,Bj,hc2⟩:=Own.slice Gd;obtain⟨N2,N7⟩:∃N2,N2=L0.length:=⟨_,rfl⟩;rw[<-N7] at Bj hc2;subst Bj;have Qp:=aa (And.intro N7 sH.o);have Ka:=aa (fun W I=>Qs.o (cx a2 N2 c2) W I);have DQ:=aa (fun W I=>Qt.o (cx a2 N2 c2) W I);obtain⟨k1,k2⟩:=U.o.Xn (cx a2 N2 c2);have f:=aa k1;have NH:=aa (Own.but Gd k2 (fun D p e=>NI D p e));clear dP zQ Gd NI N7 hc2 t x0 x s0 s1 s2 s S d k1 k2 Tw j3;have s0:=U.o.y.cell (j:=0) rfl;have s1:=U.o.y.cell (j:=1) rfl;have s2:=U.o.y.cell (j:=2) rfl;have s:=U.o.y.cell (j:=3) rfl;have S:=U.o.y.cell (j:=4) rfl;have d:=U.o.y.cell (j:=5) rfl;have x0:=U.o.m.cell (j:=0) rfl;have x:=U.o.m.cell (j:=1) rfl;have Z:=U.o.m.frozen 0;have T:=U.o.m.frozen 1;go_wp2_with fail;clear Z T U;generalize iX (iX w5 _ _) _ _=w6 at*;refine (Ka.o _ NH.o).mono ?_;rintro e n ⟨rfl,c⟩;have E:=aa (f.o.later c);have t:=aa (Own.below NH.o c (ah _));clear c f x0 x s0 s1 s2 s S d;have s0:=E.o.y.cell (j:=0) rfl;have s1:=E.o.y.cell (j:=1) rfl;have s2:=E.o.y.cell (j:=2) rfl;have s:=E.o.y.cell (j:=3) rfl;have S:=E.o.y.cell (j:=4) rfl;have d:=E.o.y.cell (j:=5) rfl;have x0:=E.o.m.cell (j:=0) rfl;have x:=E.o.m.cell (j:=1) rfl;obtain⟨g,cap',e,L,mw,M⟩:=Own.form t.o (fP (aB _) oS.o);have e1:a2=aD ⟨g,0,av⟩:=(by injection e);subst e1;obtain⟨c0,c1,C,c3,c4,c5,c6,c7⟩:=kH (Own.lies t.o) i oS.o;rw[bE] at c0 c1 C c3 c4 c5 c6 c7;have hii:(i:Int)<N2:=(by have:=oS.o;have:=Qp.o.1;omega);have A:=aa (E.o.later ((Below.refl _ n).alloc (ah _) (ey #[bR K,bf cu st,bf dg bo,eX true,bR PB,bf dg af,cx av 0 0,cx av 0 0] 53)));have ND:=aa (show b8 0 (n.alloc (ey #[bR K,bf cu st,bf dg bo,eX true,bR PB,bf dg af,cx av 0 0,cx av 0 0] 53)) _ _ from Own.alloc t.o _);have y0:=A.o.m.cell (j:=0) rfl;have y1:=A.o.m.cell (j:=1) rfl;have n3:w.heap.size<n.heap.size:=E.o.m.lt;have n4:w.heap.size+1<n.heap.size:=E.o.y.lt;clear L mw M e;go_wp2_with fail;clear c0 c1 C c3 c4 c5 c6 c7 x0 x s0 s1 s2 s S d;generalize aC n _=w5 at*;refine (DQ.o _ ND.o).mono ?_;rintro e w6 ⟨v',rfl,O,jO⟩;have G:=aa (A.o.later jO);obtain⟨a6,P,Gc,_⟩:=Own.slice O;subst Gc;have xG:=aa O;have xH:=aa (show w.heap.size+2<w5.heap.size from A.o.r.lt);clear O jO y0 y1;have r0:=G.o.r.cell (j:=0) rfl;have r1:=G.o.r.cell (j:=1) rfl;have Z:=G.o.r.frozen 0;have T:=G.o.r.frozen 1;go_wp2;obtain⟨Q,q⟩:=G.o.kX (cx a6 L2.length P) (bf dg 1);try simp only[Exit.inBlock,Exit.then]
     refine bodyPost_ret (fC rfl _ rfl Q) rfl ?_;exact⟨_,rfl,dc (Own.mono (Own.but xG.o q fun k F e=>by have:=(Own.block xG.o k F).1;have:=xH.o;omega) (by have:=xH.o;omega)),G.o.below.trans (q.below G.o.below.size fun k F e=>by omega)⟩
    ·skip
     go_enter Tryz.func22,Tryz.ntmps22;go_wp2_with fail;generalize aC (aC (aC w _) _) _=w2 at*;have s0:=H.o.y.cell (j:=0) rfl;have s1:=H.o.y.cell (j:=1) rfl;have s2:=H.o.y.cell (j:=2) rfl;have s:=H.o.y.cell (j:=3) rfl;have S:=H.o.y.cell (j:=4) rfl;have d:=H.o.y.cell (j:=5) rfl;refine (R.o _).mono ?_;rintro e w3 ⟨rfl,rfl⟩;have x0:=H.o.m.cell (j:=0) rfl;have x:=H.o.m.cell (j:=1) rfl;go_wp2_with fail;refine (j3.o _ (Own.below Ry.o H.o.below (ah _))).mono ?_;rintro e n ⟨rfl,c⟩;have X:=aa (H.o.later c);have t:=aa (Own.below Ry.o X.o.below (ah _));clear c H x0 x s0 s1 s2 s S d;have s0:=X.o.y.cell (j:=0) rfl;have s1:=X.o.y.cell (j:=1) rfl;have s2:=X.o.y.cell (j:=2) rfl;have s:=X.o.y.cell (j:=3) rfl;have S:=X.o.y.cell (j:=4) rfl;have d:=X.o.y.cell (j:=5) rfl;have x0:=X.o.m.cell (j:=0) rfl;have x:=X.o.m.cell (j:=1) rfl;go_wp2_with fail;refine (Tw.o _ t.o).mono ?_;rintro e w5 ⟨v',rfl,zQ,dP⟩;have U:=aa (X.o.later dP);have E7:b8 0 w5 v' L0/\∀D,v'.ownBlock=aD D->D≠w.heap.size:=by
      rcases zQ with h|⟨h1,h2⟩;·exact⟨Own.mono h (aB _),fun D p=>by have:=(Own.block h D p).1;have:=X.o.m.lt;omega⟩
      ·rw[h1,h2];exact⟨Own.below t.o dP (ah _),fun D p=>by have:=HU.o D p;omega⟩
     obtain⟨Gd,NI⟩:=E7;obtain⟨a2,c2,Bj,hc2⟩:=Own.slice Gd;obtain⟨N2,N7⟩:∃N2,N2=L0.length:=⟨_,rfl⟩;rw[<-N7] at Bj hc2;subst Bj;have Qp:=aa (And.intro N7 sH.o);have Ka:=aa (fun W I=>Qs.o (cx a2 N2 c2) W I);have DQ:=aa (fun W I=>Qt.o (cx a2 N2 c2) W I);obtain⟨k1,k2⟩:=U.o.Xn (cx a2 N2 c2);have f:=aa k1;have NH:=aa (Own.but Gd k2 (fun D p e=>NI D p e));clear dP zQ Gd NI N7 hc2 t x0 x s0 s1 s2 s S d k1 k2 Tw j3;have s0:=U.o.y.cell (j:=0) rfl;have s1:=U.o.y.cell (j:=1) rfl;have s2:=U.o.y.cell (j:=2) rfl;have s:=U.o.y.cell (j:=3) rfl;have S:=U.o.y.cell (j:=4) rfl;have d:=U.o.y.cell (j:=5) rfl;have x0:=U.o.m.cell (j:=0) rfl;have x:=U.o.m.cell (j:=1) rfl;have Z:=U.o.m.frozen 0;have T:=U.o.m.frozen 1;go_wp2_with fail;clear Z T U;generalize iX (iX w5 _ _) _ _=w6 at*;refine (Ka.o _ NH.o).mono ?_;rintro e n ⟨rfl,c⟩;have E:=aa (f.o.later c);have t:=aa (Own.below NH.o c (ah _));clear c f x0 x s0 s1 s2 s S d;have s0:=E.o.y.cell (j:=0) rfl;have s1:=E.o.y.cell (j:=1) rfl;have s2:=E.o.y.cell (j:=2) rfl;have s:=E.o.y.cell (j:=3) rfl;have S:=E.o.y.cell (j:=4) rfl;have d:=E.o.y.cell (j:=5) rfl;have x0:=E.o.m.cell (j:=0) rfl;have x:=E.o.m.cell (j:=1) rfl;obtain⟨g,cap',e,L,mw,M⟩:=Own.form t.o (fP (aB _) oS.o);have e1:a2=aD ⟨g,0,av⟩:=(by injection e);subst e1;obtain⟨c0,c1,C,c3,c4,c5,c6,c7⟩:=kH (Own.lies t.o) i oS.o;rw[bE] at c0 c1 C c3 c4 c5 c6 c7;have hii:(i:Int)<N2:=(by have:=oS.o;have:=Qp.o.1;omega);have A:=aa (E.o.later ((Below.refl _ n).alloc (ah _) (ey #[bR K,bf cu st,bf dg bo,eX false,bR ⟨#[]⟩,bf dg 0,cx av 0 0,cx av 0 0] 53)));have ND:=aa (show b8 0 (n.alloc (ey #[bR K,bf cu st,bf dg bo,eX false,bR ⟨#[]⟩,bf dg 0,cx av 0 0,cx av 0 0] 53)) _ _ from Own.alloc t.o _);have y0:=A.o.m.cell (j:=0) rfl;have y1:=A.o.m.cell (j:=1) rfl;have n3:w.heap.size<n.heap.size:=E.o.m.lt;have n4:w.heap.size+1<n.heap.size:=E.o.y.lt;clear L mw M e;go_wp2_with fail;clear c0 c1 C c3 c4 c5 c6 c7 x0 x s0 s1 s2 s S d;generalize aC n _=w5 at*;refine (DQ.o _ ND.o).mono ?_;rintro e w6 ⟨v',rfl,O,jO⟩;have G:=aa (A.o.later jO);obtain⟨a6,P,Gc,_⟩:=Own.slice O;subst Gc;have xG:=aa O;have xH:=aa (show w.heap.size+2<w5.heap.size from A.o.r.lt);clear O jO y0 y1;have r0:=G.o.r.cell (j:=0) rfl;have r1:=G.o.r.cell (j:=1) rfl;have Z:=G.o.r.frozen 0;have T:=G.o.r.frozen 1;go_wp2;obtain⟨Q,q⟩:=G.o.kX (cx a6 L2.length P) (bf dg 1);try simp only[Exit.inBlock,Exit.then]
     refine bodyPost_ret (fC rfl _ rfl Q) rfl ?_;exact⟨_,rfl,dc (Own.mono (Own.but xG.o q fun k F e=>by have:=(Own.block xG.o k F).1;have:=xH.o;omega) (by have:=xH.o;omega)),G.o.below.trans (q.below G.o.below.size fun k F e=>by omega)⟩
theorem Ge (w:World):Calls Tryz.prog 9 #[] w fun e w'=>e=eb (mV (.slice av 0 0))/\Below w.heap.size w w':=by
 have k:=aU.new w #[.slice av 0 0,.int dg 1] 35;have H:=aa ((Below.refl _ w).alloc (ah _) (ey #[.slice av 0 0,.int dg 1] 35));unfold mV;go_enter Tryz.func9,Tryz.ntmps9;go_wp2;try simp only[Exit.inBlock,Exit.then]
 refine bodyPost_ret (aU.result rfl _ _ rfl k Tryz.underlying35 rfl (by kernel_rfl)) rfl ?_;exact⟨rfl,H.o⟩
structure Xo (w:World) (u:Value) (out:List Bk.B) (ov:Value) (X:World):Prop where
 x:MX w u X
 own:b8 (w.heap.size+2) X ov out
theorem Xo.app {w X W X':World} {u ov v':Value} {out out':List Bk.B} {o:Obj} (h:Xo w u out ov X) (H:W=X.alloc o) (a:b8 (w.heap.size+2) X' v' out') (hg:W.grownBy X' ov.ownBlock):Xo w u out' v' X':=by have b:aG (fun k=>w.heap.size+2<=k) X X':=((aG.refl _ X).alloc o).grown (by rw[<-H];exact hg) (fun k e _=>(Own.block h.own k e).1);exact⟨h.x.but b fun k c=>by omega,a⟩
theorem DR (w:World) {B:Nat} {u:Value} {l:List Bk.B} (h:b8 B w u l) (hl:l.length<=100000) (hg:Bk.Good l) (nm:List UInt8):
  Calls Tryz.prog 20 #[mV u,bR (bs nm)] w fun e w'=>oR w w' u l (Bk.dropped l nm).1 (Bk.dropped l nm).2 e:=by
 obtain⟨a,b,rfl,hc⟩:=Own.slice h;obtain⟨N,G⟩:∃N,N=l.length:=⟨_,rfl⟩;rw[<-G] at h hc |-;have T:=aa (fun (W:World) (L:b8 B W (cx a N b) l)=>kI W L hl nm);have n:=aa (MX.begin w (cx a N b));have s:=aa h;have J:=aa (fun (W:World) (L:b8 B W (cx a N b) l)=>ig W L hl nm);have D:=aa (And.intro G hl);have IP:(N:Int)<=100000:=by omega
 have xM:(N:Int)<=b:=by omega
 unfold mV at T J |-;clear h G hc;by_cases p:Bk.err l nm=0
 ·obtain⟨i,hi⟩:=Bk.uV p;obtain⟨M,O,hx2⟩:=Bk.iO hi;clear O hx2;have F:jr l nm=i:=by unfold jr;rw[hi]
  have t:Bk.dropped l nm=(l.eraseIdx i,0):=by unfold Bk.dropped;rw[p,if_neg (by simp),Bk.FV hg hi]
  rw[t];rw[p] at T;rw[F] at J;have P:=aa M;clear t p hi F hg hl;generalize bs nm=NM at*;go_enter Tryz.func20,Tryz.ntmps20;go_wp2_with fail;generalize aC (aC w _) _=w2 at*;refine (T.o _ (Own.below s.o n.o.below (ah _))).mono ?_;rintro e w3 ⟨rfl,v⟩;have C:=aa (n.o.later v);clear v n;have x0:=C.o.m.cell (j:=0) rfl;have X:=C.o.m.cell (j:=1) rfl;go_wp2_with fail;refine (J.o _ (Own.below s.o C.o.below (ah _))).mono ?_;rintro e w4 ⟨rfl,y⟩;have E:=aa (C.o.later y);clear y C x0 X;have x0:=E.o.m.cell (j:=0) rfl;have X:=E.o.m.cell (j:=1) rfl;have q:b8 B w4 (cx a N b) l:=Own.below s.o E.o.below (ah _);obtain⟨g,cap',e,Q,mw,R⟩:=Own.form q (fP (aB _) P.o);have e1:a=aD ⟨g,0,av⟩:=by injection e
  subst e1;obtain⟨c0,c1,c2,c3,c4,c5,c6,c7⟩:=kH (Own.lies q) i P.o;rw[bE] at c0 c1 c2 c3 c4 c5 c6 c7;have hii:(i:Int)<N:=by have:=P.o;have:=D.o.1;omega
  have A:=aa (show Xo w (cx (aD ⟨g,0,av⟩) N b) [] (cx av 0 0) w4 from⟨E.o,Own.nil _ _ _ _⟩);clear Q mw R q e c0 c1 c2 c3 c4 c5 E;go_wp2_with fail;clear c6 c7 x0 X
  go_loopw [8,9] (fun ov S wr=>∃(k:Nat),k<=N/\S=bf cu k/\Hid (Xo w (cx (aD ⟨g,0,av⟩) N b) ((l.take k).eraseIdx i) ov wr)) (fun _ S _=>N-(RowKit.intOf S).toNat)
  case atStart=>exact⟨0,aB _,rfl,A⟩
  case round=>
   clear A;obtain⟨k,hk,rfl,U⟩:=hrel;obtain⟨a8,c8,EB,Vv⟩:=Own.slice U.o.own;generalize ((l.take k).eraseIdx i).length=n8 at EB;subst EB;have H:=aa U.o
   have qE:=aa (show ((l.take k).eraseIdx i).length+1<=1000000000 by
    have h1:=List.length_eraseIdx_le (l.take k) i;rw[aO] at h1;have:=D.o;omega)
   have x0:=H.o.x.m.cell (j:=0) rfl;clear Vv U;by_cases d:k<N
   ·have F:(k:Int)<N:=(by omega);have lK:k<l.length:=(by rw[<-D.o.1];exact d);have I:=aa (Bk.FX (i:=i) k lK);by_cases f:k=i
    ·have hS:(l.take (k+1)).eraseIdx i=(l.take k).eraseIdx i:=(by rw[I.o,if_pos f]);rw[<-hS] at H qE;have hb:((k:Int) !=i)=false:=(by rw[bne_eq_false_iff_eq];omega);have aV:(k:Int)=i:=(by omega);clear hS I;go_wp2_with fail;go_roundw
     case rel=>exact⟨k+1,d,by go_num,H⟩
     case measure=>simp[RowKit.intOf];omega
    ·have hS:=I.o;rw[if_neg f] at hS;have hb:((k:Int) !=i)=true:=(by rw[bne_iff_ne];omega);have q:b8 B wr (cx (aD ⟨g,0,av⟩) N b) l:=Own.below s.o H.o.x.below (ah _);obtain⟨c0,c1,c2,c3,c4,c5,c6,c7⟩:=kH (Own.lies q) k lK;rw[bE] at c0 c1 c2 c3 c4 c5 c6 c7;obtain⟨x,hx⟩:∃x,x=l[k]:=⟨_,rfl⟩;rw[<-hx] at c0 c1 c2 c3 c4 c5 hS;have sW:=aa hS;clear hx q I hS f;go_wp2_with (at_builtin;refine Hid.o ?_);refine aa ?_;refine cT (K:=dm) Gb rfl _ _ rfl rfl (Own.alloc H.o.own _) (by have:=H.o.x.r.lt;rw[aS];omega) wr.heap.size 0 1 1 [x] rfl rfl (uU wr x) (by have:=qE.o;omega) ?_;intro v5 w5 V fT _;rw[<-sW.o] at V;have xT:=aa (H.o.app rfl V fT);clear V fT c0 c1 c2 c3 c4 c5 c6 c7 x0;go_wp2_with fail;go_roundw
     case rel=>exact⟨k+1,d,by go_num,aa xT.o⟩
     case measure=>simp[RowKit.intOf];omega
   ·obtain rfl:k=N:=by omega
    have F:¬(k:Int)<k:=(by omega);rw[show l.take k=l by rw[D.o.1];exact List.take_length] at H;have X:=H.o.x.m.cell (j:=1) rfl;have r0:=H.o.x.r.cell (j:=0) rfl;have r1:=H.o.x.r.cell (j:=1) rfl;have z:=H.o.x.m.frozen 0;have z0:=H.o.x.r.frozen 0;have z1:=H.o.x.r.frozen 1;go_wp2;obtain⟨Y,Z,q3⟩:=H.o.x.turned H.o.own (by omega);try simp only[Exit.inBlock,Exit.then]
    refine bodyPost_ret (fC rfl _ rfl Y) rfl ?_;exact⟨_,rfl,dc q3,Z⟩
 ·have t:Bk.dropped l nm=(l,Bk.err l nm):=by unfold Bk.dropped;rw[if_pos p]
  rw[t];have O6:((Bk.err l nm:Int) !=0)=true:=by rw[bne_iff_ne];omega
  clear t p J;generalize Bk.err l nm=c at*;generalize bs nm=NM at*;go_enter Tryz.func20,Tryz.ntmps20;go_wp2_with fail;generalize aC (aC w _) _=w2 at*;refine (T.o _ (Own.below s.o n.o.below (ah _))).mono ?_;rintro e w3 ⟨rfl,v⟩;have C:=aa (n.o.later v);clear v n;have x0:=C.o.m.cell (j:=0) rfl;have X:=C.o.m.cell (j:=1) rfl;have r0:=C.o.r.cell (j:=0) rfl;have r1:=C.o.r.cell (j:=1) rfl;have z0:=C.o.r.frozen 0;have z1:=C.o.r.frozen 1;go_wp2;obtain⟨Y,Z⟩:=C.o.kX (cx a N b) (bf dg 1);try simp only[Exit.inBlock,Exit.then]
  refine bodyPost_ret (fC rfl _ rfl Y) rfl ?_;exact⟨_,rfl,dn ⟨rfl,rfl⟩,C.o.below.trans (Z.below C.o.below.size fun k hk e=>by omega)⟩
section
variable {w X X':World} {rb place n B:Nat} {l:Tr.fB} {K:Nat->Prop} {Q:World->Prop}
theorem RH.Gf (h:RH w rb place n l B K Q X) (cs:Array Value) (t:TypeId):∃(a:Nat->Prop) (q:World->Prop),RH w rb place n l B a q (X.alloc (ey cs t))/\
  (∀l' B' Y y,RH w rb place n l' B' a q Y->aG (fun k=>k=X.heap.size) Y y->RH w rb place n l' B' K Q y)/\∀Y,q Y->Q Y/\aU Y X.heap.size t cs.toList:=by
 have hs:(X.alloc (ey cs t)).heap.size=X.heap.size+1:=aS _ _;have hl:=h.T9;refine⟨_,_,h.box (P:=fun Y=>aU Y X.heap.size t cs.toList) ((Below.refl _ X).alloc (ah _) (ey cs t)) fun X2 A=>(aU.new X cs t).but A fun hn=>hn ⟨ah _,by omega⟩,fun l' B' Y y H b=> ?_,fun Y H=>⟨H.1 Y (aG.refl _ _),H.2⟩⟩;exact (H.store (P':=fun _=>True) b ⟨ah _,by omega⟩ hl fun _ _=>trivial).unbox
end
theorem NJ {X:World} {g o:Nat} {l:List Bk.B} (h:bu dm X g o l) (j:Nat) {x:Bk.B} (a:l[j]?=aD x):
  X.cell? ⟨g,o+j*8,av⟩=aD (bR (bs x.name))/\X.cell? ⟨g,o+j*8+1,av⟩=aD (bf cu x.state)/\X.cell? ⟨g,o+j*8+2,av⟩=aD (bf dg x.born)/\X.cell? ⟨g,o+j*8+3,av⟩=aD (eX x.on)/\
  X.cell? ⟨g,o+j*8+4,av⟩=aD (bR (bs x.pre))/\X.cell? ⟨g,o+j*8+5,av⟩=aD (bf dg x.after)/\X.cell? ⟨g,o+j*8+6,av⟩=aD (cx av 0 0)/\X.cell? ⟨g,o+j*8+7,av⟩=aD (cx av 0 0):=by
 obtain⟨H,rfl⟩:=List.getElem?_eq_some_iff.1 a;exact kH h j H
theorem Bk.Qu {l:List Bk.B} {n:List UInt8} {i:Nat} {b:Bk.B} (hg:Bk.Good l) (hi:Bk.idx l n=aD i) (hf:Bk.find l n=aD b):l[i]?=aD b:=by obtain⟨H,h⟩:=Bk.Ny hg hi;rw[hf] at h;rw[aK H,h]
def KL (mb ab nb:Nat) (v:Value):Nat->Prop:=fun k=>k=mb\/k=ab\/k=nb\/v.ownBlock=aD k
structure QL (w:World) (mb ab nb:Nat) (u v nv:Value) (l:List Bk.B) (zR:List Value) (Y:World):Prop where
 m:aU Y mb 35 [u,bf dg 1]
 own:b8 w.heap.size Y v l
 act:aU Y ab 40 zR
 nx:aU Y nb 35 [nv,bf dg 1]
def K0 (mb:Nat) (v:Value):Nat->Prop:=fun k=>k=mb\/v.ownBlock=aD k
structure Q0 (w:World) (mb:Nat) (v:Value) (l:List Bk.B) (Y:World):Prop where
 m:aU Y mb 35 [v,bf dg 1]
 own:b8 w.heap.size Y v l
structure NK (w:World) (rb mb k:Nat) (l:List Bk.B) (v:Value) (X:World):Prop where
 room:BH w rb 200 l (120000*k) (K0 mb v) (Q0 w mb v l) X
 fit:Bk.Fit l
 few:l.length<=k
 qo:rb≠mb/\w.heap.size<=mb
 sep:∀g,v.ownBlock=aD g->g≠mb
structure nP (w:World) (rb mb ab nb B:Nat) (l' l:List Bk.B) (u v nv:Value) (zR:List Value) (X:World):Prop where
 room:BH w rb 200 l' B (KL mb ab nb v) (QL w mb ab nb u v nv l zR) X
 qo:rb≠mb/\rb≠nb/\w.heap.size<=mb/\w.heap.size<=nb/\mb≠nb/\ab≠mb/\ab≠nb
 sep:∀g,v.ownBlock=aD g->g≠mb/\g≠ab/\g≠nb
section
variable {w X X':World} {rb mb ab nb B k:Nat} {l l' l2:List Bk.B} {u v v' nv:Value} {zR:List Value}
theorem QL.but (h:QL w mb ab nb u v nv l zR X) (H:aG (fun k=>¬KL mb ab nb v k) X X'):QL w mb ab nb u v nv l zR X':=
 ⟨h.m.but H fun hn=>hn (dc rfl),Own.but h.own H fun _ hg hn=>hn (dn (dn (dn hg))),h.act.but H fun hn=>hn (dn (dc rfl)),h.nx.but H fun hn=>hn (dn (dn (dc rfl)))⟩
theorem Q0.but (h:Q0 w mb v l X) (H:aG (fun k=>¬K0 mb v k) X X'):Q0 w mb v l X':=
 ⟨h.m.but H fun hn=>hn (dc rfl),Own.but h.own H fun _ hg hn=>hn (dn hg)⟩
theorem nP.q (h:nP w rb mb ab nb B l' l u v nv zR X):QL w mb ab nb u v nv l zR X:=h.room.q
theorem NK.mid (h:NK w rb mb k l v X) (b:Below X.heap.size X X') (ha:aU X' ab 40 zR) (hn:aU X' nb 35 [v,bf dg 1]) (c:X.heap.size<=ab) (d:X.heap.size<=nb) (h3:ab≠nb):nP w rb mb ab nb (120000*k) l l v v v zR X':=by
 have hl:=h.room.T9;have e:=h.room.q.m.lt;refine⟨h.room.hold b (fun j H=> ?_) fun X2 a A=>QL.but ⟨a.m,a.own,ha,hn⟩ A,⟨h.qo.1,by omega,h.qo.2,by omega,by omega,by omega,h3⟩,fun g hg=> ?_⟩
 ·rcases H with H|H|H|H;·exact dc (dc H)
  ·exact dn ⟨by omega,by rw[H];exact ha.lt⟩
  ·exact dn ⟨by omega,by rw[H];exact hn.lt⟩
  ·exact dc (dn H)
 ·have:=(Own.block h.room.q.own g hg).2;exact⟨h.sep g hg,by omega,by omega⟩
theorem nP.called {B':Nat} (h:nP w rb mb ab nb B l' l u v nv zR X) (H:BH w rb 200 l2 B' (KL mb ab nb v) (QL w mb ab nb u v nv l zR) X'):nP w rb mb ab nb B' l2 l u v nv zR X':=⟨H,h.qo,h.sep⟩
theorem nP.later (h:nP w rb mb ab nb B l' l u v nv zR X) (H:Below X.heap.size X X'):nP w rb mb ab nb B l' l u v nv zR X':=⟨h.room.still H,h.qo,h.sep⟩
theorem nP.ref (h:nP w rb mb ab nb B l' l u v nv zR X) (c:Below X.heap.size X X') (b:b8 X.heap.size X' v' l2\/(v'=v/\l2=l)):nP w rb mb ab nb B l' l2 u v' nv zR X':=by
 rcases b with b|⟨rfl,rfl⟩
 ·have a:=h.q;have e:=a.m.lt;have f:=a.act.lt;have h3:=a.nx.lt;have d:=h.room.T9.2.2;refine⟨h.room.hold c (fun j H=> ?_) fun X2 a A=>QL.but ⟨a.m,Own.mono b d,a.act,a.nx⟩ A,h.qo,fun g hg=> ?_⟩
  ·rcases H with H|H|H|H;·exact dc (dc H)
   ·exact dc (dn (dc H))
   ·exact dc (dn (dn (dc H)))
   ·exact dn (Own.block b j H)
  ·have:=(Own.block b g hg).1;exact⟨by omega,by omega,by omega⟩
 ·exact h.later c
theorem nP.next (h:nP w rb mb ab nb B l' l u v nv zR X) (n:Value):nP w rb mb ab nb B l' l u v n zR ((X.setCell ⟨nb,0,av⟩ n).setCell ⟨nb,1,av⟩ (bf dg 1)):=by obtain⟨a,Q⟩:=DP h.q.nx n (bf dg 1);have hf:=h.qo;refine⟨h.room.ij Q (fun k H=>⟨dn (dn (dc H)),by omega,by omega⟩) fun X2 A=>QL.but ⟨h.q.m.but Q (by omega),Own.but h.q.own Q fun g hg e=>(h.sep g hg).2.2 e,h.q.act.but Q (by omega),a⟩ A,h.qo,h.sep⟩
theorem nP.done (h:nP w rb mb ab nb B l l u v v zR X) (c:B<=120000*(k+1)) (hf:Bk.Fit l) (b:l.length<=k+1):NK w rb mb (k+1) l v ((X.setCell ⟨mb,0,av⟩ v).setCell ⟨mb,1,av⟩ (bf dg 1)):=by obtain⟨d,Q⟩:=DP h.q.m v (bf dg 1);have H:=h.qo;have f:BH w rb 200 l B (KL mb ab nb v) (Q0 w mb v l) _:=h.room.ij Q (fun k b=>⟨dc b,by omega,by omega⟩) fun X2 a=>⟨d.but a fun hn=>hn (dc rfl),Own.but (Own.but h.q.own Q fun g hg e=>(h.sep g hg).1 e) a fun g hg hn=>hn (dn (dn (dn hg)))⟩;exact⟨(f.hold (Below.refl _ _) (fun j i=>dc (i.imp_right fun e=>dn (dn e))) fun X2 n a=>Q0.but n a).more c,hf,b,⟨H.1,H.2.2.1⟩,fun g hg=>(h.sep g hg).1⟩
end
end
end Go.Proofs.YtlpfhjbpknbndaaGreatDoor
