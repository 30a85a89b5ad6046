/- Elder texts, cut down and merged (16). -/
import Derived.Test.YtlpfhjbpknbndaaGreatDoorP15
import Derived.Test.YtlpfhjbpknbndaaGreatDoorP14
import Derived.Test.YtlpfhjbpknbndaaGreatDoorP9
import Derived.Test.YtlpfhjbpknbndaaGreatDoorP6
import Derived.Test.YtlpfhjbpknbndaaGreatDoorPTk
set_option maxRecDepth 100000
set_option maxHeartbeats 8000000
namespace Go.Proofs.YtlpfhjbpknbndaaGreatDoor
open Value renaming int→bf,pointer→e7,tuple→gu,slice→cx,bool→eX,string→bR,agg→iK
open IntKind renaming i64→cu
open Ending renaming returned→eb
open Or renaming inl→dc,inr→dn
open Option renaming none→av,some→aD
open Obj renaming cells→ey
open Nat renaming le_trans->aH,zero_le->aB,lt_succ_self->kf,min_eq_left->ct,le_succ->iN,le_refl->ah,succ_ne_zero->dy
open List renaming length_map->aT,nodup_append->aR,mem_append->aj,getD_eq_getElem?_getD->bZ,getElem?_eq_getElem->aK,length_eq_zero_iff->eG,nil_append->dI,length_append->au,mem_cons_self->aE,append_nil->bA,take_of_length_le->cg,mem_singleton->cQ,getElem_mem->bI,getElem?_append_right->iy,pairwise_iff_getElem->ga,length_pos_iff->eL,getElem?_map->cD,getElem_cons_drop->lT,take_append_drop->cP,length_take->aO,mem_cons_of_mem->aI,length_cons->a_,nodup_cons->cL,mem_cons->aX,map_cons->bM,sum_cons->ku,drop_eq_getElem_cons->cw,filter_append->lU,pairwise_cons->cF,filter_cons->cW,mem_filter->dz,filter_sublist->qy
open World renaming size_alloc->aS
open Bool renaming false_eq_true->jo
section
open Go.RowKit Lib
section
variable {E:Ev} {X0 X X' V w:World} {R0 R R':Nat->Prop} {ps:List (Nat×List UInt8)} {pg:List (Option Wl.Text)} {rt:List Nat} {M M':Nat->Option NV} {k q sb:Nat} {sv:Value} {tgt:List (Tr.Tx×Tr.Tx)} {pages sp:List Nat} {K:Nat} {T:Tr.E (K+1)}
def Done (E:Ev) (X0:World) (R0:Nat->Prop) (ps:List (Nat×List UInt8)) (pg:List (Option Wl.Text)) (rt:List Nat) (tgt:List (Tr.Tx×Tr.Tx)) (pages:List Nat) (c:Int) (X':World):Prop:=
 lD E X0 R0 ps pg rt tgt pages c X'\/(c=4/\pg.length<Rm.used pg+20/\∃R' M',TS E X0 R0 R' ps pg rt M' X')
def C4 (B:Nat) (E:Ev) (X0:World) (R0:Nat->Prop) (ps:List (Nat×List UInt8)) (pg:List (Option Wl.Text)) (rt:List Nat) (tgt:List (Tr.Tx×Tr.Tx)) (pages:List Nat) (c:Int) (X':World):Prop:=
 lD E X0 R0 ps pg rt tgt pages c X'\/(c=4/\pg.length<Rm.used pg+B/\∃R' M',TS E X0 R0 R' ps pg rt M' X')
theorem PM:∀pg:List (Option Wl.Text),Rm.used pg<=pg.length:=fun pg=>by unfold Rm.used;exact List.length_filter_le _ _
def Kb (d:Nat):Nat:=if d=0 then 0 else 20
theorem JF {v:Value} {c:Tr.E (k+1)} (hN:GQ E X0 R0 ps pg rt sb k c sp v X) (w:(Tr.ck (k+1) c++sp).Perm pages) (R:Tr.cB k (Tr.its c)=tgt) {d:Nat} (hnw:Tr.fy (k+1) c<=17) (WD:d=0->Tr.fy (k+1) c=0/\Tr.sz k (Tr.its c)<=510) (hn:pages.Nodup) (u:∀x∈pages,(pg.getD x av).isSome=true) (dV:E.place<16) (hq:ps.length<=60000000):
  Calls Tryz.prog 90 #[ptr sb,v] X fun e X'=>(e=eb (bf cu 0)/\C4 (Kb d) E X0 R0 ps pg rt tgt pages 0 X')\/(e=eb (bf cu 4)/\X'.cell? ⟨E.tb,0,av⟩=aD (e7 (aD ⟨E.rb,0,av⟩))/\Calls Tryz.prog 91 #[ptr E.rb,bf cu ps.length] X' fun e gL=>e=eb (gu #[])/\C4 (Kb d) E X0 R0 ps pg rt tgt pages 4 gL):=by
 obtain⟨R',M',eT,sp',f,hv⟩:=hN;have H:=f.ts.rm;have P:pg.length<=4096:=H.rep.few;have py:pg.length<=65536:=aH H.rep.few (by decide);have n:=f.sw;have hG:∀c X,lD E X0 R0 ps pg rt tgt pages c X->(fun (c:Int) X=>lD E X0 R0 ps pg rt tgt pages c X\/(c=4/\CU E X0 R0 rt ps pg 4200 (Kb d) X)) c X:=fun _ _ h=>dc h;have M:=PL (sb:=sb) (tgt:=tgt) dV hn u H.rep.vw (by omega) P hG;have fin:∀{e:Ending} {X':World},(∃c:Int,e=eb (bf cu c)/\(lD E X0 R0 ps pg rt tgt pages c X'\/(c=4/\CU E X0 R0 rt ps pg 4200 (Kb d) X')))->(e=eb (bf cu 0)/\C4 (Kb d) E X0 R0 ps pg rt tgt pages 0 X')\/(e=eb (bf cu 4)/\X'.cell? ⟨E.tb,0,av⟩=aD (e7 (aD ⟨E.rb,0,av⟩))/\Calls Tryz.prog 91 #[ptr E.rb,bf cu ps.length] X' fun e gL=>e=eb (gu #[])/\C4 (Kb d) E X0 R0 ps pg rt tgt pages 4 gL):=by
  rintro e X' ⟨c,rfl,h|⟨rfl,R2,M2,p,N,m,q,hl,z⟩⟩;·have hc:=h.1;subst hc;exact dc ⟨rfl,dc h⟩
  ·refine dn ⟨rfl,m.tree.cell (j:=0) rfl,(JA m.rm q (by omega) H.rep H.pos).mono ?_⟩;rintro e gL ⟨rfl,hr,hb⟩;exact⟨rfl,dn ⟨rfl,z,R2,M2,m.vX hr hb⟩⟩
 obtain⟨a,cc,b,O,yE⟩:=n.sp;have SQ:sp'.length<=4096->(gP sp').length<=70000:=fun h=>by unfold gP;rw[aT];omega
 have Q:(gP sp').length=sp'.length:=by unfold gP;rw[aT]
 rcases hv with⟨rfl,T,hsp⟩|⟨r,k',c',F',rfl,L4,hF,s,U,A,S,E6,aby⟩
 ·have Ki:Tr.ck (k+1) c=(Tr.hd c).page.toList:=by rw[Tr.bC,T];simp[Tr.dW]
  have B:sp'.Perm pages:=by grind
  have Pj:sp'.length<=4096:=aH (e8 ((B.nodup_iff).2 hn) fun x i=>cM (u x ((B.mem_iff).1 i))) P;have UE:tgt=[]:=by rw[<-R,T];exact Tr.ld k
  rw[Q] at b O
  have D:FrP E X0 R0 rt ps pg sb tgt pages 0 a sp'.length 0 X:=⟨R',M',ps,pg,pg,sp',[],[],cc,f.ts,f.uO.1,rfl,aB _,by omega,iR.refl pg,by simpa using B,dc ⟨rfl,UE,rfl⟩,⟨rfl,fun x=>by simp,by simp⟩,b,fun hpos=>by
   obtain⟨g,o,e,F,hg,_⟩:=yE (by intro e;rw[<-Q,e] at hpos;cases hpos);exact⟨g,o,e,F,hg⟩⟩
  refine (Fe M (b.cell (j:=1) rfl) (by omega) O D).mono ?_;intro e X' h;exact fin h
 ·have l:(Tr.ck (k'+1) c'++sp').Nodup:=(S.nodup_iff).2 ((w.nodup_iff).2 hn);have t:∀x∈Tr.ck (k'+1) c'++sp',(pg.getD x av).isSome=true:=fun x i=>u x ((w.mem_iff).1 ((S.mem_iff).1 i));have Cb:(Tr.ck (k'+1) c').length<=4096:=aH (e8 (aR.1 l).1 fun x i=>cM (t x (aj.2 (dc i)))) P;have Wz:=Tr.AX (k'+1) c';have G:=uh k' U n L4 hF ⟨[],av,s⟩ l t py (by omega);refine (Ff M (G.mono ?_)).mono ?_
  ·rintro e X' ⟨c,rfl,⟨rfl,R2,p,N,M2,t',Y,al,wr⟩|⟨rfl,R2,M2,p,N,h1,h2,h3,h4⟩⟩
   ·left;obtain⟨page,V,pO,yh⟩:=wr.st.1;obtain⟨n',I,J⟩:=wr.at_;have c2:=(wr.sw.ts.mem.nd r n' I).c2;rw[J,V] at c2;obtain⟨a2,C,K,W,SR⟩:=wr.sw.sp;have Z:(gP Y).length=Y.length:=(by unfold gP;rw[aT]);rw[Z] at K W;have L:(Tr.ck (k'+1) t'++Y).Perm (pages++al):=wr.ck.trans ((S.trans w).append_right al)
    have WG:(Tr.ck (k'+1) t'++Y).Nodup:=(L.nodup_iff).2 (aR.2 ⟨hn,wr.pg.nd,fun x i y hy e=>by
     subst e;have:=u x i;rw[(wr.pg.free x hy).1] at this;cases this⟩)
    have hl2:Y.length<=4096:=aH (e8 (aR.1 WG).2.1 fun x i=>by
     have:=(L.mem_iff (a:=x)).1 (aj.2 (dn i));rcases aj.1 this with h3|h3;·grind
     ·exact (wr.pg.free x h3).2) P
    have hfw:=wr.few;refine⟨page,rfl,c2,pO,a2,Y.length,C,K.cell (j:=1) rfl,by omega,W,R2,M2,p,N,N,Y,al,Tr.ck (k'+1) t',C,wr.sw.ts,wr.sw.uO.1,rfl,aB _,by omega,wr.pg,L,dn ⟨k',t',page,rfl,V,U,wr.st,Tr.Sm.ok wr.sm s, ?_,rfl,(aR.1 WG).1⟩,⟨rfl,fun x=>by simp,by simp⟩,K,fun hpos=> ?_⟩;·rw[<-R,<-A];exact Tr.Sm.cB wr.sm
    ·obtain⟨g,o,e,F,hg,_⟩:=SR (by intro e;rw[<-Z,e] at hpos;cases hpos);exact⟨g,o,e,F,hg⟩
   ·right
    exact⟨4,rfl,by decide,dn ⟨rfl,R2,M2,p,N,h1,h2,by omega,by
     unfold Kb
     split
     ·omega
     ·omega⟩⟩
  ·omega
structure GZ (E:Ev) (X0:World) (R0 R:Nat->Prop) (ps:List (Nat×List UInt8)) (pg:List (Option Wl.Text)) (rt:List Nat) (M:Nat->Option NV) (w:World) (leaf:Nat) (m:NV) (c0:Tr.E 1) (l:List (Tr.Tx×Tr.E 0)) (K:Nat) (T:Tr.E (K+1)) (path:List Nat) (pre post:List (Tr.Tx×Tr.Tx)) (out:List Nat) (pr:Nat):Prop where
 ts:TS E X0 R0 R ps pg rt M w
 above:iM M pg 0 leaf m.lo m.hi c0 K T path pre post out
 lS:M leaf=aD m
 yg:m.level=0
 its:m.its=aq 0 l
 page:m.page=zf (Tr.hd c0).page
 was:m.was=Tr.sz 0 (Tr.its c0)
 near:Tr.iP 0 m.lo (jA m.hi) (Tr.mk ⟨(Tr.hd c0).page,true⟩ l)
 new:(Tr.hd c0).page.isSome=true\/(K=0/\l≠[])
 nd:(path++[leaf]).Nodup
 row:bu dH w pr 0 (leaf::path).reverse
 X8:R pr/\¬MB M pr
 pnd:(Tr.ck (K+1) T).Nodup
 taken:∀x∈Tr.ck (K+1) T,(pg.getD x av).isSome=true
 WH:K<=15
theorem Mr {α:Type} (q p:α) (path:List α):(q::p::path).reverse.take ((p::path).length)=(p::path).reverse:=by grind
def S0 (E:Ev) (X0:World) (R0:Nat->Prop) (ps:List (Nat×List UInt8)) (pg:List (Option Wl.Text)) (rt:List Nat) (sb K:Nat) (T:Tr.E (K+1)) (tgt:List (Tr.Tx×Tr.Tx)) (pl:List Nat) (pr d i:Nat) (X:World):Prop:=
 ∃(R':Nat->Prop) (M':Nat->Option NV) (sv:Value) (k q:Nat) (lo hi:List UInt8) (c0 c:Tr.E (k+1)) (path:List Nat) (pre post:List (Tr.Tx×Tr.Tx)) (out F sp:List Nat),path.length=i/\Zip E X0 R0 R' ps pg rt M' X sb sv k q lo hi c0 c K T path pre post tgt out F sp d/\d<=1/\(q::path).reverse=pl.take (i+1)/\bu dH X pr 0 pl/\R' pr/\¬MB M' pr/\pr≠sb/\sv.ownBlock≠aD pr/\
  ((Tr.hd c).page.isSome=true\/(k=0/\Tr.its c≠[]))/\i<pl.length
theorem Fu {pl:List Nat} {pr d i:Nat} (h:S0 E X0 R0 ps pg rt sb K T tgt pl pr d i X):∀j,j<=i->X.cell? ⟨pr,j,av⟩=aD (e7 (aD ⟨pl.getD j 0,0,av⟩)):=by
 obtain⟨R',M',sv,k,q,lo,hi,c0,c,path,pre,post,out,F,sp,a,z,u,D,C,_,_,_,_,_,b⟩:=h;intro j e;have H:j<pl.length:=by omega
 have:=C.at j 0 (by decide) H (e7 (aD ⟨pl[j],0,av⟩)) rfl;rw[show 0+(j*dH.size+0)=j from by show 0+(j*1+0)=j;omega] at this;rw[bZ,aK H];exact this
theorem mK {pl:List Nat} {i q:Nat} {path:List Nat} (h:(q::path).reverse=pl.take (i+1)) (hl:path.length=i):pl.getD i 0=q:=by
 have H:(pl.take (i+1))[i]?=aD q:=by grind
 rw[List.getElem?_take_of_lt (kf i)] at H;rw[bZ,H];rfl
theorem S1 {pl:List Nat} {pr d:Nat} (dV:E.place<16) (hn:(Tr.ck (K+1) T).Nodup) (Z:∀x∈Tr.ck (K+1) T,(pg.getD x av).isSome=true) (hq:ps.length<=60000000):
  Way sb E.tb E.rb pr pl.length ps.length (fun j=>pl.getD j 0) (fun i X=>S0 E X0 R0 ps pg rt sb K T tgt pl pr d i X) (fun v X=>∃(k:Nat) (c:Tr.E (k+1)) (sp:List Nat),GQ E X0 R0 ps pg rt sb k c sp v X/\(Tr.ck (k+1) c++sp).Perm (Tr.ck (K+1) T)/\Tr.cB k (Tr.its c)=tgt/\Tr.fy (k+1) c<=17/\(d=0->Tr.fy (k+1) c=0/\Tr.sz k (Tr.its c)<=510)) (fun c X=>C4 (Kb d) E X0 R0 ps pg rt tgt (Tr.ck (K+1) T) c X):=by
 refine⟨fun i X h=>Fu h, ?_, ?_, ?_, ?_, ?_⟩;·rintro i X ⟨R',M',sv,k,q,lo,hi,c0,c,path,pre,post,out,F,sp,H,z,U,l,C,a,b,h3,h4,f,G⟩;have y:Below X.heap.size X X.drew:=(Below.refl _ X).drew;exact⟨R',M',sv,k,q,lo,hi,c0,c,path,pre,post,out,F,sp,H,⟨z.ss.still y,z.above,z.zg,z.lS,z.near,z.page,z.old,z.nd,z.cB,z.ck,z.fy,z.few,z.yg,z.quiet⟩,U,l,C.below y (z.ss.ts.IK pr a),a,b,h3,h4,f,G⟩
 ·rintro i X ⟨R',M',sv,k,q,lo,hi,c0,c,path,pre,post,out,F,sp,H,z,U,l,C,a,b,h3,h4,f,G⟩;cases path with
  |nil=>cases H
  |cons p path=>
   have n:path.length=i:=(by simpa using H);have g:pl.getD (i+1) 0=q:=mK l H;have o:(p::path).reverse=pl.take (i+1):=(by have e:=congrArg (fun x=>x.take (i+1)) l;rw[List.take_take,ct (iN _)] at e;rw[<-e,<-H];exact (Mr q p path).symm);have I:pl.getD i 0=p:=mK o n;rw[g,I];refine (Me z).mono ?_;rintro e X' ⟨rfl,R2,M2,XL,L,J,M,c',r,P,out',F',sp',z',st,N⟩;have s:=z.ss.ts.IK pr a;refine⟨rfl,R2,M2,XL,k+1,p,L,J,M,c',path,r,P,out',F',sp',n,z',U,o,C.but st.but ?_,st.sub _ a,fun A=> ?_,h3,fun B=> ?_, ?_,by omega⟩;·grind
   ·rcases st.mb _ A with A|A;·exact b A
    ·omega
   ·rcases st.sp _ B with B|B;·exact h4 B
    ·omega
   ·exact dc N
 ·rintro X ⟨R',M',sv,k,q,lo,hi,c0,c,path,pre,post,out,F,sp,H,z,U,l,C,a,b,h3,h4,f,G⟩;have O:path=[]:=eG.1 H;subst O;have g:pl.getD 0 0=q:=mK l rfl;rw[g];generalize XX:([]:List Nat)=pp at z;obtain⟨ss,above,zg,⟨m,lS,was,Q,R⟩,near,page,old,nd,rO,W,Pv,few,yg,quiet⟩:=z;cases above with
  |up=>cases XX
  |top=>
   have S:=(aR.1 nd).2.1;rw[dI] at W;have abz:(Tr.ck (K+1) c).length+sp.length<=4096:=(by have D:=W.length_eq;rw[au] at D;have h8:=e8 hn fun x hx=>cM (Z x hx);have h9:=ss.ts.rm.rep.few;omega);refine (CR (m:=m) ss zg lS S near ⟨Q,R⟩ f yg (fun t=> ?_) (by omega)).mono ?_
   ·rcases Nat.lt_or_ge K 15 with s|hge;·exact s
    ·exfalso;obtain rfl:K=14+1:=by omega
     have V:Tr.its c≠[]:=(by intro e;rw[e] at t;have:Tr.sz (14+1) ([]:List (Tr.Tx×Tr.E (14+1)))=0:=rfl;omega);have y:=(Tr.qx 14 V near.2).2;have Cb:=Tr.AX (14+2) c;have hm2:2<=(Tr.its c).length:=by
      rcases Nat.lt_or_ge 1 (Tr.its c).length with D|D;·exact D
      ·exfalso;have h8:=Tr.AZ (iI near.2).2.2;omega
     have Y:(2:Nat)^14=16384:=(by decide);rw[Y] at y;have abA:(Tr.ck (14+2) c).length<=4096:=(by grind);have abB:Tr.fy (14+2) c<=17:=(by grind);omega
   ·rintro e X' ⟨v,rfl,u⟩;refine⟨v,rfl,K,c,sp,u,W, ?_,by omega,quiet⟩;rw[<-rO];simp
 ·rintro v X ⟨k,c,sp,⟨R',M',eT,sp',w,hv⟩,b,h3,h4,f⟩;exact⟨w.ts.tree.cell (j:=0) rfl,Jz w.ts.rm⟩
 ·rintro v X ⟨k,c,sp,a,b,h3,h4,f⟩;exact JF a b h3 h4 f hn Z dV hq
end
theorem wU:∀l:List (Tr.Tx×Tr.E 0),Tr.kK 0 l=0
 |[]=>rfl
 |x::l=>by rw[Tr.eP,wU l];rfl
section
variable {E:Ev} {X0 w:World} {R0 R:Nat->Prop} {ps:List (Nat×List UInt8)} {pg:List (Option Wl.Text)} {rt:List Nat} {M:Nat->Option NV} {leaf pr cap:Nat} {m:NV} {c0:Tr.E 1} {l:List (Tr.Tx×Tr.E 0)} {K:Nat} {T:Tr.E (K+1)} {path out:List Nat} {pre post:List (Tr.Tx×Tr.Tx)}
theorem A1 (s:GZ E X0 R0 R ps pg rt M w leaf m c0 l K T path pre post out pr) {W:World} (k:W=(w.setCell ⟨leaf,7,av⟩ (eX true)).alloc (ey #[e7 (aD ⟨E.tb,0,av⟩),cx av 0 0] 169)) {d:Nat} (U:d<=1) (u:d=0->Tr.sz 0 l<=510/\(Tr.hd c0).page.isSome=true):
  S0 E X0 R0 ps pg rt w.heap.size K T (pre++Tr.cB 0 l++post) (leaf::path).reverse pr d path.length W:=by
 obtain⟨a,H⟩:∃a:NV,a={m with fresh:=true}:=⟨_,rfl⟩;obtain⟨W1,n⟩:∃W1,W1=w.setCell ⟨leaf,7,av⟩ (eX true):=⟨_,rfl⟩;rw[<-n] at k;have B:aG (fun b=>b=leaf) w W1:=by rw[n];exact (aG.refl (fun b=>b=leaf) w).setCell _ _ fun _=>rfl
 have g:W1.heap.size=w.heap.size:=by rw[n];exact World.size_setCell _ _ _
 have c:∀b,MB (upd M leaf a) b->MB M b:=by
  rintro b ⟨r,y,hr,o⟩;rcases aN hr with⟨rfl,rfl⟩|⟨_,hr⟩;·exact⟨_,m,s.lS,by rw[H] at o;exact o⟩
  ·exact⟨r,y,hr,o⟩
 have i:Mem W1 (upd M leaf a):=by rw[n];exact s.ts.mem.cell s.lS a 7 _ (by rw[H]) (by rw[H]) (by rw[H]) (by rw[H]) (by rw[H]) (by rw[H];rfl)
 have P:TS E X0 R0 R ps pg rt (upd M leaf a) W1:=s.ts.own B (fun b _ e=>by rw[e];exact s.ts.kM leaf ⟨leaf,m,s.lS,dc rfl⟩) i (fun b f=>s.ts.kM b (c b f)) (fun _ h=>h) (fun _ h=>dc h);have v:Below W1.heap.size W1 W:=by rw[k];exact (Below.refl _ W1).alloc (ah _) _
 have O:W.heap.size=w.heap.size+1:=by rw[k,aS,g]
 have z:TS E X0 R0 (fun b=>R b\/b=w.heap.size) ps pg rt (upd M leaf a) W:=P.still v (fun _ h=>dc h) (fun b f=>f.imp_right fun f=>⟨by omega,by omega⟩);have j:aU W w.heap.size 169 [ptr E.tb,cx av 0 0]:=by rw[k,<-g];exact aU.new W1 _ _
 have C:=s.ts.IK pr s.X8.1;have D:=(s.ts.mem.lt s.lS).1;have p:SS E X0 R0 (fun b=>R b\/b=w.heap.size) ps pg rt (upd M leaf a) W w.heap.size (cx av 0 0) (gP []):=⟨z,j,Own.nil _ _ _ _,⟨dn rfl,s.ts.but.size,fun q=>by have:=s.ts.mem.mu (c _ q);omega⟩,fun b f=>by cases f⟩;have t:leaf∉path:=fun h=>(aR.1 s.nd).2.2 leaf h leaf aE rfl;have J:=s.above.level;have F:Tr.ck 1 (Tr.mk ⟨(Tr.hd c0).page,true⟩ l)=Tr.ck 1 c0:=by rw[Tr.bC,Tr.bC,rQ,rQ];rfl
 have A:¬MB (upd M leaf a) pr:=fun q=>s.X8.2 (c _ q);refine⟨fun b=>R b\/b=w.heap.size,upd M leaf a,cx av 0 0,0,leaf,m.lo,m.hi,c0,Tr.mk ⟨(Tr.hd c0).page,true⟩ l,path,pre,post,out,[leaf],[],rfl,⟨p,s.above.frame fun r hr=>aW fun e=>t (by rw[<-e];exact hr),⟨a,bG _ _ _,⟨?_, ?_, ?_, ?_,fun e=>(by cases e)⟩,by rw[H];exact s.its,rfl⟩,⟨a,bG _ _ _,by rw[H];exact s.was,by rw[H],by rw[H]⟩,s.near,rfl,fun G=>⟨?_,fun _ _=>trivial⟩,s.nd,rfl, ?_, ?_, ?_,s.WH,fun hd=>⟨?_,(u hd).1⟩⟩,U, ?_, ?_,dc s.X8.1,A,by omega,by simp[Value.ownBlock], ?_,by simp⟩;·rw[H];exact s.yg
 ·rw[H];exact s.page
 ·rw[H];rfl
 ·rw[H];exact s.near
 ·rcases s.new with h|⟨h,_⟩;·exact h
  ·grind
 ·rw[bA,F];exact s.above.ck
 ·rw[Tr.bX,wU]
  split
  ·omega
  ·simp_all;omega
 ·have L:=e8 s.pnd fun x I=>cM (s.taken x I);have N:=s.ts.rm.rep.few;omega
 ·rw[Tr.bX,wU,if_pos (show (Tr.hd (Tr.mk ⟨(Tr.hd c0).page,true⟩ l)).page.isSome=true from (u hd).2)]
 ·grind
 ·refine (s.row.but B fun e=>s.X8.2 ⟨leaf,m,s.lS,dc e⟩).below v (by omega)
 ·exact s.new.imp_right fun h=>⟨rfl,h.2⟩
theorem wV (s:GZ E X0 R0 R ps pg rt M w leaf m c0 l K T path pre post out pr) (n:ps.length<=60000000) (D:E.place<16):
  Calls Tryz.prog 57 #[ptr E.tb,cx (aD ⟨pr,0,av⟩) (path.length+1) cap] w fun e w'=>∃c:Int,e=eb (bf cu c)/\Done E X0 R0 ps pg rt (pre++Tr.cB 0 l++post) (Tr.ck (K+1) T) c w'/\(Tr.sz 0 l<=510->(Tr.hd c0).page.isSome=true->c=0):=by
 obtain⟨d,u,o,j⟩:∃d:Nat,d<=1/\(d=0->Tr.sz 0 l<=510/\(Tr.hd c0).page.isSome=true)/\(Tr.sz 0 l<=510->(Tr.hd c0).page.isSome=true->d=0):=by
  by_cases h:Tr.sz 0 l<=510/\(Tr.hd c0).page.isSome=true;·simp_all
  ·exact⟨1,ah _,fun e=>(by cases e),fun b a=>absurd ⟨b,a⟩ h⟩
 have p:=s.above.level;have q:=s.WH;have k:=S1 (E:=E) (X0:=X0) (R0:=R0) (rt:=rt) (T:=T) (tgt:=pre++Tr.cB 0 l++post) (sb:=w.heap.size) (pl:=(leaf::path).reverse) (pr:=pr) (d:=d) D s.pnd s.taken n;have H:(leaf::path).reverse.length=path.length+1:=by simp
 rw[H] at k;have t:(leaf::path).reverse.getD path.length 0=leaf:=mK (path:=path) (by rw[cg (by simp)]) rfl;have f:=s.ts.mem.nd leaf m s.lS;have hc:w.cell? ⟨pr,path.length,av⟩=aD (e7 (aD ⟨(leaf::path).reverse.getD path.length 0,0,av⟩)):=by
  have g:path.length<(leaf::path).reverse.length:=by rw[H];omega
  have:=s.row.at path.length 0 (by decide) g (e7 (aD ⟨(leaf::path).reverse[path.length],0,av⟩)) rfl;rw[show 0+(path.length*dH.size+0)=path.length from by show 0+(path.length*1+0)=path.length;omega] at this;rw[bZ,aK g];exact this
 refine (C2 k (by omega) hc ?_ ?_ ?_).mono ?_;·rw[t];exact⟨_,f.c7⟩
 ·rw[t];exact f.blk.frozen 7
 ·intro W Z;rw[t] at Z;exact A1 s Z u o
 ·rintro e w' ⟨c,rfl,i⟩;refine⟨c,rfl, ?_,fun b a=> ?_⟩
  ·rcases i with h|⟨b,a,h3⟩;·exact dc h
   ·refine dn ⟨b, ?_,h3⟩;unfold Kb at a
    split at a<;>omega
  ·rcases i with h|⟨_,h4,_⟩;·exact h.1
   ·have:=PM pg;rw[j b a] at h4;unfold Kb at h4;rw[if_pos rfl] at h4;omega
end
end
namespace Tr
structure Ord (lo:Tx) (h:Option Tx) (l:List (Tx×Tx)):Prop where
 mG:l.Pairwise fun a b=>lt a.1 b.1=true
 low:∀p∈l,le lo p.1
 high:∀p∈l,tT p.1 h
 keys:∀p∈l,p.1.length<=96
 vals:∀p∈l,p.2.length<=56
theorem Ord.glue {lo x:Tx} {h:Option Tx} {a b:List (Tx×Tx)} (H:Ord lo (aD x) a) (c:Ord x h b) (d:le lo x) (hh:tT x h):Ord lo h (a++b):=by
 refine⟨List.pairwise_append.2 ⟨H.mG,c.mG,fun p hp q e=> ?_⟩,fun p hp=> ?_,fun p hp=> ?_,fun p hp=> ?_,fun p hp=> ?_⟩;·exact lt_of_lt_of_le (H.high p hp) (c.low q e)
 ·rcases aj.1 hp with hp|hp;·exact H.low p hp
  ·exact le_trans d (c.low p hp)
 ·rcases aj.1 hp with hp|hp;·exact vE (le_of_lt (H.high p hp)) hh
  ·exact c.high p hp
 ·rcases aj.1 hp with hp|hp;·exact H.keys p hp
  ·exact c.keys p hp
 ·rcases aj.1 hp with hp|hp;·exact H.vals p hp
  ·exact c.vals p hp
theorem C5 {h:Option Tx}:∀{l:List (Tx×E 0)} {lo:Tx},dB (Ok 0) (cut 0) h l->(∀p,l.head?=aD p->le lo p.1/\p.1.length<=96)->Ord lo h (cB 0 l)
 |[],_,_,_=>⟨.nil,fun _ h=>(by cases h),fun _ h=>(by cases h),fun _ h=>(by cases h),fun _ h=>(by cases h)⟩
 |[a],lo,s,h1=>by
  have s:Ok 0 a.1 h a.2:=s;have H:∀p∈cB 0 [a],p=a:=fun p hp=>cQ.1 hp;exact⟨List.pairwise_singleton _ _,fun p hp=>by rw[H p hp];exact (h1 a rfl).1,fun p hp=>by rw[H p hp];exact s.2,fun p hp=>by rw[H p hp];exact (h1 a rfl).2,fun p hp=>by rw[H p hp];exact s.1⟩
 |a::b::r,lo,s,h1=>by
  have i:=C5 (l:=b::r) (lo:=b.1) s.2.2 fun p hp=>by cases hp;exact⟨le_refl _,s.2.1.2.1⟩
  have c:tT b.1 h:=i.high b aE;have ha:Ord lo (aD b.1) [(a.1,(a.2:Tx))]:=by have H:∀p∈[(a.1,(a.2:Tx))],p=a:=fun p hp=>cQ.1 hp;exact⟨List.pairwise_singleton _ _,fun p hp=>by rw[H p hp];exact (h1 a rfl).1,fun p hp=>by rw[H p hp];exact s.2.1.1,fun p hp=>by rw[H p hp];exact (h1 a rfl).2,fun p hp=>by rw[H p hp];exact s.1.1⟩
  exact ha.glue i (le_trans (h1 a rfl).1 (le_of_lt s.2.1.1)) c
theorem uR {k:Nat} {h:Option Tx} (I:∀{lo:Tx} {u:Option Tx} {n:E (k+1)},Ok (k+1) lo u n->Ord lo u (cB k (its n))):∀{l:List (Tx×E (k+1))} {lo:Tx},dB (Ok (k+1)) (cut (k+1)) h l->(∀p,l.head?=aD p->le lo p.1)->Ord lo h (cB (k+1) l)
 |[],_,_,_=>by rw[ld];exact⟨.nil,fun _ h=>(by cases h),fun _ h=>(by cases h),fun _ h=>(by cases h),fun _ h=>(by cases h)⟩
 |[a],lo,s,h1=>by rw[dY];have o:=I (show Ok (k+1) a.1 h a.2 from s);exact⟨o.mG,fun p hp=>le_trans (h1 a rfl) (o.low p hp),o.high,o.keys,o.vals⟩
 |a::b::r,lo,s,h1=>by
  have i:=uR I (l:=b::r) (lo:=b.1) s.2.2 fun p hp=>by cases hp;exact le_refl _
  have o:=I s.1;have O:Ord lo (aD b.1) (cB k (its a.2)):=⟨o.mG,fun p hp=>le_trans (h1 a rfl) (o.low p hp),o.high,o.keys,o.vals⟩;have d:tT b.1 h:=by
   have s2:=s.2.2;cases r with
   |nil=>exact Ok.lt (k:=k+1) s2
   |cons c r=>
    have:=dB.behind (A:=[b]) s2;have h3:∀{l:List (Tx×E (k+1))} {x:Tx×E (k+1)},dB (Ok (k+1)) (cut (k+1)) h (x::l)->tT x.1 h:=by
     intro l;induction l with
     |nil=>intro x H;exact Ok.lt (k:=k+1) H
     |cons y l I=>intro x H;exact vE (le_of_lt H.2.1.1) (I H.2.2)
    exact h3 s2
  rw[show a::b::r=[a]++(b::r) from rfl,bT,dY];exact O.glue i (le_trans (h1 a rfl) (le_of_lt s.2.1.1)) d
theorem td:∀{k:Nat} {lo:Tx} {h:Option Tx} {n:E (k+1)},Ok (k+1) lo h n->Ord lo h (cB k (its n))
 |0,lo,h,n,o=>by
  obtain⟨_,_,h3,h4⟩:=o;have e:r9 0 lo (its n)=its n:=by unfold r9;rw[if_pos rfl]
  rw[e] at h4;refine C5 h4 fun p hp=> ?_;have:=h3 p hp;rw[if_pos rfl] at this;exact this
 |k+1,lo,h,n,o=>by
  obtain⟨H,_,_,h4⟩:=o;rw[dN] at h4;have:=uR (fun o=>td o) (lo:=lo) h4 fun p hp=>by
   cases hi:its n with
   |nil=>exact absurd hi H
   |cons a l=>rw[hi] at hp;cases hp;exact le_refl _
  rw[jQ] at this;exact this
theorem tg {k:Nat} {lo:Tx} {h:Option Tx} {A B:List (Tx×E (k+1))} {kc key:Tx} {c:E (k+1)} (o:Rw (k+1) lo h (A++(kc,c)::B)) (H:le kc key) (d:∀b B',B=b::B'->lt key b.1=true):(∀p∈cB (k+1) A,lt p.1 key=true)/\∀p∈cB (k+1) B,lt key p.1=true:=by
 obtain⟨_,h4⟩:=o;rw[dN,mC] at h4;obtain⟨s1,s2,_⟩:=dB.wj h4;constructor
 ·intro p hp;cases A with
  |nil=>rw[ld] at hp;cases hp
  |cons a A=>
   have O:=uR (fun o=>td o) (lo:=lo) s1 fun p hp=>by cases hp;exact le_refl _
   rw[jQ] at O;exact lt_of_lt_of_le (O.high p hp) H
 ·intro p hp;cases B with
  |nil=>rw[ld] at hp;cases hp
  |cons b B=>
   have e:=uR (fun o=>td o) (lo:=b.1) (dB.tail s2) fun p hp=>by cases hp;exact le_refl _
   exact lt_of_lt_of_le (d b B rfl) (e.low p hp)
end Tr
section
open Go.RowKit Lib
theorem Fv {its:List It} (hs:KS its) (k:0<its.length) (n:(its[0]).key=[]) (key:List UInt8):∃a:Nat,tX its key=(a:Int)/\∃ha:a<its.length,Tr.le (its[a]).key key/\∀j (b:j<its.length),a<j->Tr.lt key (its[j]).key=true:=by
 obtain⟨p,hp⟩:∃p,p=posOf its key:=⟨_,rfl⟩;have P:=vF its key;rw[<-hp] at P;have g:∀t (h:t<its.length),t<p->Tr.lt (its[t]).key key=true:=by
  intro t h f;have H:t<(its.takeWhile fun i=>Tr.lt i.key key).length:=by rw[hp] at f;exact f
  have c:=List.all_eq_true.1 (List.all_takeWhile (p:=fun i:It=>Tr.lt i.key key) (l:=its)) _ (bI H);have h3:(its.takeWhile fun i=>Tr.lt i.key key)[t]=its[t]:=List.IsPrefix.getElem (List.takeWhile_prefix _) H;rw[h3] at c;exact c
 have hat:∀h:p<its.length,Tr.lt (its[p]).key key=false:=by
  intro h;have e:its=its.takeWhile (fun i=>Tr.lt i.key key)++its.dropWhile (fun i=>Tr.lt i.key key):=(List.takeWhile_append_dropWhile).symm;have hd:its.dropWhile (fun i=>Tr.lt i.key key)≠[]:=by intro hd;have:=congrArg List.length e;rw[hd,bA] at this;unfold posOf at hp;omega
  have H:=List.head_dropWhile_not (p:=fun i:It=>Tr.lt i.key key) (l:=its) hd;have c:(its.dropWhile (fun i=>Tr.lt i.key key)).head hd=its[p]:=by
   have h3:its[p]?=aD ((its.dropWhile (fun i=>Tr.lt i.key key)).head hd):=by
    conv=>lhs;rw[e]
    rw[iy (by rw[hp];exact ah _),hp];unfold posOf;rw[Nat.sub_self,<-List.head?_eq_getElem?,List.head?_eq_some_head hd]
   rw[aK h] at h3;exact (Option.some.inj h3).symm
  rw[c] at H;simpa using H
 have R:∀i j (hi:i<its.length) (b:j<its.length),i<j->Tr.lt (its[i]).key (its[j]).key=true:=fun i j hi b m=>ga.1 hs i j hi b m;by_cases f:eD its key=true
 ·have d:p<its.length/\∀h:p<its.length,(its[p]).key=key:=by grind [eD,Nat.lt_or_ge,aK,List.getElem?_eq_none]
  refine⟨p,by unfold tX;rw[if_pos f,hp],d.1,by rw[d.2 d.1];exact Tr.le_refl _,fun j b V=> ?_⟩;have:=R p j d.1 b V
  rwa [d.2 d.1] at this
 ·have o:1<=p:=by
   rcases Nat.eq_zero_or_pos p with h|h
   ·exfalso;have H:=hat (by omega);subst h;rw[n] at H;have q:key=[]:=by
     cases key with
     |nil=>rfl
     |cons _ _=>cases H
    apply f;unfold eD;rw[<-hp,aK k];exact decide_eq_true (by rw[n,q])
   ·exact h
  have L:∀h:p<its.length,(its[p]).key≠key:=by grind [eD,aK]
  refine⟨p-1,by unfold tX;rw[if_neg f,<-hp];omega,by omega,Tr.le_of_lt (g (p-1) (by omega) (by omega)),fun j b V=> ?_⟩;have d:p<its.length:=by omega
  have H:Tr.lt key (its[p]).key=true:=by
   cases h:Tr.lt key (its[p]).key with
   |true=>rfl
   |false=>exact absurd (Tr.j7 _ _ (hat d) h) (L d)
  rcases Nat.lt_or_ge p j with c|c;·exact Tr.lt_trans H (R p j d b c)
  ·grind
section
variable {E:Ev} {X0 X X' V w:World} {R0 R R':Nat->Prop} {ps:List (Nat×List UInt8)} {pg:List (Option Wl.Text)} {rt:List Nat} {M M':Nat->Option NV} {K:Nat} {T:Tr.E (K+1)} {key:List UInt8}
structure gM (E:Ev) (X0:World) (R0:Nat->Prop) (ps:List (Nat×List UInt8)) (pg:List (Option Wl.Text)) (rt:List Nat) (key:List UInt8) (K:Nat) (T:Tr.E (K+1)) (lv q:Nat) (pv:Value) (X:World) (R:Nat->Prop) (M:Nat->Option NV) (m:NV) (c:Tr.E (lv+1)) (path:List Nat) (pre post:List (Tr.Tx×Tr.Tx)) (out:List Nat) (rl:List Nat):Prop where
 ts:TS E X0 R0 R ps pg rt M X
 above:iM M pg lv q m.lo m.hi c K T path pre post out
 lS:M q=aD m
 mI:kQ pg lv m c
 its:m.its=aq lv (Tr.its c)
 own:m.own=true
 was:m.was=Tr.sz lv (Tr.its c)
 st:cS pg (lv+1) c
 ok:Tr.Ok (lv+1) m.lo (jA m.hi) c
 nd:(path++[q]).Nodup
 row:wh X0.heap.size X pv rl
 A2:∀b,pv.ownBlock=aD b->R b/\¬MB M b
 S2:∀p∈pre,Tr.lt p.1 key=true
 S3:∀p∈post,Tr.lt key p.1=true
 yg:K<=15
 PR:Tr.le m.lo key
 PS:Tr.tT key (jA m.hi)
def G1 (E:Ev) (X0:World) (R0:Nat->Prop) (ps:List (Nat×List UInt8)) (pg:List (Option Wl.Text)) (rt:List Nat) (key:List UInt8) (K:Nat) (T:Tr.E (K+1)) (lv q:Nat) (pv:Value) (X:World):Prop:=
 ∃R M m c path pre post out,gM E X0 R0 ps pg rt key K T lv q pv X R M m c path pre post out (q::path).reverse
def Mt (E:Ev) (X0:World) (R0:Nat->Prop) (ps:List (Nat×List UInt8)) (pg:List (Option Wl.Text)) (rt:List Nat) (key:List UInt8) (K:Nat) (T:Tr.E (K+1)) (lv q:Nat) (pv:Value) (X:World):Prop:=
 ∃R M m c path pre post out,gM E X0 R0 ps pg rt key K T lv q pv X R M m c path pre post out path.reverse
theorem JG {lv q:Nat} {pw:Value} {R:Nat->Prop} {M:Nat->Option NV} {m:NV} {c:Tr.E (lv+1+1)} {path:List Nat} {pre post:List (Tr.Tx×Tr.Tx)} {out:List Nat} (f:gM E X0 R0 ps pg rt key K T (lv+1) q pw X R M m c path pre post out (q::path).reverse):
  Calls Tryz.prog 78 #[ptr q,bR (bs key)] X fun e X'=>∃a:Nat,e=eb (bf cu a)/\(∃v,X'.cell? ⟨q,6,av⟩=aD v)/\X'.frozen? ⟨q,6,av⟩=false/\
   Calls Tryz.prog 79 #[ptr E.tb,ptr q,bf cu a] (X'.setCell ⟨q,6,av⟩ (bf cu a)) fun e gL=>∃q' mA,e=eb (gu #[ptr q',bf cu 0])/\mA<lv+1/\Mt E X0 R0 ps pg rt key K T mA q' pw gL:=by
 have C:=f.ts.mem.nd q m f.lS
 have u:=(iI f.ok.2.2).1
 have D:m.its.length=(Tr.its c).length:=by rw[f.its];exact aT _
 have P:0<(Tr.its c).length:=eL.2 f.ok.1
 have C6:KS m.its:=wu (by rw[f.its,dJ];exact u)
 have S:∀j (h:j<m.its.length),(m.its[j]).key=((Tr.its c)[j]'(by omega)).1:=fun j h=>by
  have e:m.its[j]?=aD ⟨((Tr.its c)[j]'(by omega)).1,ej (lv+1) ((Tr.its c)[j]'(by omega)).2,av⟩:=by rw[f.its];unfold aq;rw[cD,aK (by omega)];rfl
  rw[aK h] at e;rw[Option.some.inj e]
 have pM:(m.its[0]'(by omega)).key=[]:=by
  rw[S 0 (by omega)];have:=f.ok.2.2.1 ((Tr.its c)[0]) (by rw[List.head?_eq_getElem?,aK P])
  rwa [if_neg (dy lv)] at this
 obtain⟨a,sR,ha,hle,Q⟩:=Fv C6 (by omega) pM key
 have hat:a<(Tr.its c).length:=by omega
 refine (vI C C6 key).mono ?_
 rintro e X' ⟨rfl,o⟩
 have l:=f.ts.still o (fun _ h=>h) (fun _ h=>dc h)
 have oI:=C.still o
 rw[sR]
 refine⟨a,rfl,⟨_,oI.c6⟩,oI.blk.frozen 6, ?_⟩
 obtain⟨n1,H⟩:∃n1:NV,n1={m with at_:=(a:Int)}:=⟨_,rfl⟩
 have bK:aG (fun b=>b=q) X' (X'.setCell ⟨q,6,av⟩ (bf cu a)):=(aG.refl (fun b=>b=q) X').setCell _ _ fun _=>rfl
 have WJ:∀b,MB (upd M q n1) b->MB M b:=by
  rintro b ⟨r,y,hr,i⟩;rcases aN hr with⟨rfl,rfl⟩|⟨_,hr⟩;·exact⟨_,m,f.lS,by rw[H] at i;exact i⟩
  ·exact⟨r,y,hr,i⟩
 have pR:TS E X0 R0 R ps pg rt (upd M q n1) (X'.setCell ⟨q,6,av⟩ (bf cu a)):=l.own bK (fun b _ e=>by rw[e];exact l.kM q ⟨q,m,f.lS,dc rfl⟩) (l.mem.cell f.lS n1 6 _ (by rw[H]) (by rw[H]) (by rw[H]) (by rw[H]) (by rw[H]) (by rw[H];rfl)) (fun b o=>l.kM b (WJ b o)) (fun _ h=>h) (fun _ h=>dc h)
 obtain⟨A,kc,c',B,hc,Zk⟩:∃A kc c' B,Tr.its c=A++(kc,c')::B/\A.length=a:=⟨(Tr.its c).take a,((Tr.its c)[a]).1,((Tr.its c)[a]).2,(Tr.its c).drop (a+1),by rw[show (((Tr.its c)[a]).1,((Tr.its c)[a]).2)=(Tr.its c)[a] from rfl,lT,cP],by rw[aO];omega⟩
 subst Zk
 have WK:(Tr.its c)[A.length]=(kc,c'):=by grind
 have O:cS pg (lv+1) c':=f.st.2.2 (kc,c') (by rw[hc];exact aj.2 (dn aE))
 have ko:∀x,x∈A\/x∈B->cS pg (lv+1) x.2:=fun x k=>f.st.2.2 x (by
  rw[hc];rcases k with k|k;·grind
  ·exact aj.2 (dn (aI _ k)))
 obtain⟨page,U,pO,-⟩:=O.1
 have S5:n1.its=aq (lv+1) A++⟨kc,ej (lv+1) c',av⟩::aq (lv+1) B:=by rw[H];show m.its=_;rw[f.its,hc,dK];rfl
 have V:(aq (lv+1) A).length=A.length:=aT _
 have Y:A.length<n1.its.length:=by rw[S5,au,a_,V];omega
 have Rk:n1.its[A.length]=⟨kc,ej (lv+1) c',av⟩:=by grind
 have Z:lv<=15:=by have:=f.above.level;have:=f.yg;omega
 have LX:n1.its.map It.key=(Tr.its c).map (·.1):=by rw[H];show m.its.map It.key=_;rw[f.its,dJ]
 have J:n1.lo=m.lo/\n1.hi=m.hi:=by rw[H];exact⟨rfl,rfl⟩
 have jC:Tr.Ok (lv+1) (eW n1 A.length) (jA (eu n1 A.length)) c':=mD (n:=n1) (t:=c) (key:=kc) (by rw[J.1,J.2];exact f.ok.near) hc LX
 have mE:=h_ Z O U jC
 have hval:n1.its[A.length].val=pv page:=by rw[Rk];show pv ((Tr.hd c').page.getD 0)=_;rw[U];rfl
 refine (sQ pR (bG _ _ _) A.length Y (by rw[Rk]) page pO hval lv (by rw[H];exact f.mI.level) (aq lv (Tr.its c')) mE).mono ?_
 rintro e gL ⟨q',rg,cap,R',rfl,W,Pe,Pf,kg,hR,DU⟩
 have pP:n1.its.set A.length {(n1.its.getD A.length ⟨[],[],av⟩) with node:=aD q'}=aq (lv+1) A++⟨kc,ej (lv+1) c',aD q'⟩::aq (lv+1) B:=by grind
 rw[pP] at W
 dsimp only at W
 have Uz:(X'.setCell ⟨q,6,av⟩ (bf cu A.length)).heap.size=X'.heap.size:=World.size_setCell _ _ _
 have GN:=(pR.mem.lt (p:=q) (n:=n1) (bG _ _ _)).1
 have F:q'≠q:=by omega
 obtain⟨N,d⟩:∃N:NV,N={n1 with its:=aq (lv+1) A++⟨kc,ej (lv+1) c',aD q'⟩::aq (lv+1) B}:=⟨_,rfl⟩
 obtain⟨s,g⟩:∃s:NV,s=NV.got lv (aq lv (Tr.its c')) rg cap page (eW n1 A.length) (eu n1 A.length):=⟨_,rfl⟩
 rw[<-d,<-g] at W
 have WL:N.its.map It.key=n1.its.map It.key:=by grind
 have hla:eW N A.length=eW n1 A.length:=zo WL (by rw[d]) _
 have hha:eu N A.length=eu n1 A.length:=zq WL (by rw[d]) _
 have S6:∀r∈path,upd (upd (upd M q n1) q' s) q N r=M r:=fun r hr=>by
  have h1:r≠q:=fun e=>(aR.1 f.nd).2.2 r hr q aE e;have h2:r≠q':=fun e=>by obtain⟨y,hy⟩:=f.above.dom r hr;have:=(f.ts.mem.lt hy).1;have:=o.size;omega
  rw[aW h1,aW h2,aW h1]
 have G:c=Tr.mk (Tr.hd c) (A++(kc,c')::B):=by rw[<-hc];exact (Tr.RG c).symm
 have hab:=f.above.frame S6
 have ym:iM (upd (upd (upd M q n1) q' s) q N) pg lv q' (eW N A.length) (eu N A.length) c' K T (q::path) (pre++Tr.cB (lv+1) A) (Tr.cB (lv+1) B++post) ((Tr.hd c).page.toList++(Tr.dW (lv+1) A++Tr.dW (lv+1) B)++out):=by
  refine .up (n:=N) (h:=Tr.hd c) (bG _ _ _) (by rw[d]) ko (by rw[d,H];exact f.own) ?_ (by rw[d,H]) ?_ ?_ f.st.2.1 ?_;·rw[<-G,d,H];exact⟨f.mI.level,f.mI.page,f.mI.fresh,f.mI.near,f.mI.held⟩
  ·rw[d,H,<-hc];exact f.was
  ·rw[<-hc];exact f.ok.2.1
  ·have e1:N.lo=m.lo:=(by rw[d,H]);have e2:N.hi=m.hi:=(by rw[d,H]);rw[<-G,e1,e2];exact hab
 have WM:cz (aq lv (Tr.its c'))=Tr.sz lv (Tr.its c'):=iH lv _
 have Rl:=zu (n:=n1) (A:=A) (B:=B) (key:=kc) (c:=c') (by rw[J.1,J.2,<-hc];exact f.ok.2.2) (by rw[<-hc];exact LX)
 have WN:Tr.le kc key:=by have:=hle;rw[S A.length ha,WK] at this;exact this
 have I:∀b B',B=b::B'->Tr.lt key b.1=true:=fun b B' e=>by
  have hj:A.length+1<m.its.length:=by rw[D,hc,e];simp
  have:=Q (A.length+1) hj (by omega);rw[S _ hj] at this;have e2:(Tr.its c)[A.length+1]'(by omega)=b:=by have e3:(Tr.its c)[A.length+1]?=aD b:=(by rw[hc,e,iy (by omega),show A.length+1-A.length=1 by omega];rfl);rw[aK (by omega)] at e3;exact Option.some.inj e3
  rwa [e2] at this
 have kC:=Tr.tg (key:=key) (A:=A) (B:=B) (kc:=kc) (c:=c') (by rw[<-hc];exact f.ok.2.2) WN I
 have T3:aG (fun b=>MB M b) X gL:=((aG.aJ o (fun b=>MB M b)).trans bK (fun b _ e=>by rw[e];exact⟨q,m,f.lS,dc rfl⟩)).trans kg (fun b _ e=>⟨q,m,f.lS,dn (by rw[e,H])⟩)
 have Pp:∀b,MB (upd (upd (upd M q n1) q' s) q N) b->MB M b\/X.heap.size<=b:=by
  have hs:=o.size;rintro b ⟨r,y,hr,i⟩;rcases aN hr with⟨rfl,rfl⟩|⟨_,hr⟩;·exact dc ⟨_,m,f.lS,by rw[d,H] at i;exact i⟩
  ·rcases aN hr with⟨rfl,rfl⟩|⟨_,hr⟩
   ·right;rcases i with rfl|i;·omega
    ·rw[g] at i;have i:b=rg:=i;omega
   ·exact dc (WJ b ⟨r,y,hr,i⟩)
 refine⟨q',lv,rfl,kf lv,R',_,s,c',q::path,pre++Tr.cB (lv+1) A,Tr.cB (lv+1) B++post,(Tr.hd c).page.toList++(Tr.dW (lv+1) A++Tr.dW (lv+1) B)++out,⟨W, ?_,by rw[aW F,bG], ?_,by rw[g];rfl,by rw[g];rfl,by rw[g];show ((cz (aq lv (Tr.its c')):Nat):Int)=_;rw[WM],O,by rw[g];exact jC, ?_, ?_,fun b L=> ?_, ?_, ?_,f.yg, ?_, ?_⟩⟩
 ·have:s.lo=eW N A.length/\s.hi=eu N A.length:=by rw[g,hla,hha];exact⟨rfl,rfl⟩
  rw[this.1,this.2];exact ym
 ·rw[g];exact qh O U jC
 ·refine aR.2 ⟨?_,by simp,fun x k y hy e=> ?_⟩;·have:=f.nd;exact cL.2 ⟨fun h=>(aR.1 this).2.2 q h q aE rfl,(aR.1 this).1⟩
  ·rw[cQ.1 hy] at e;rcases aX.1 k with k|k;·exact F (by rw[<-e,k])
   ·obtain⟨z,hz⟩:=f.above.dom x k;have:=(f.ts.mem.lt hz).1;have:=o.size;omega
 ·exact Own.but f.row T3 fun b L w=>(f.A2 b L).2 w
 ·refine⟨hR b (f.A2 b L).1,fun w=> ?_⟩;rcases Pp b w with w|w;·exact (f.A2 b L).2 w
  ·have:=(Own.block f.row b L).2;omega
 ·intro p hp;rcases aj.1 hp with hp|hp;·exact f.S2 p hp
  ·exact kC.1 p hp
 ·intro p hp;rcases aj.1 hp with hp|hp;·exact kC.2 p hp
  ·exact f.S3 p hp
 ·rw[g];show Tr.le (eW n1 A.length) key;rw[Rl.1]
  split
  ·rw[J.1];exact f.PR
  ·exact WN
 ·rw[g];show Tr.tT key (jA (eu n1 A.length));rw[Rl.2];cases hB:B with
  |nil=>show Tr.tT key (jA n1.hi);rw[J.2];exact f.PS
  |cons b B'=>exact I b B' hB
theorem C8 {lv q:Nat} {pw:Value} (h:Mt E X0 R0 ps pg rt key K T lv q pw X):∃pl,wh 0 X pw pl/\pl.length<=100/\∀W P W',W=X.alloc (ey #[e7 (aD ⟨q,0,av⟩)] 118)->wh 0 W' P (pl++[q])->W.grownBy W' pw.ownBlock->(P.ownBlock=pw.ownBlock\/∀k,P.ownBlock=aD k->W.heap.size<=k)->G1 E X0 R0 ps pg rt key K T lv q P W':=by
 obtain⟨R,M,m,c,path,pre,post,out,f⟩:=h;have x:=f.above.level;have hl:=f.yg;refine⟨path.reverse,f.row.mono (aB _),by rw[List.length_reverse];omega,fun W P W' u j hg l=> ?_⟩;have B:Below X.heap.size X W:=by rw[u];exact (Below.refl _ X).alloc (ah _) _
 have p:=f.ts.still B (R':=R) (fun _ h=>h) (fun _ h=>dc h);have A:aG (fun b=>pw.ownBlock=aD b) W W':=(aG.refl _ W).grown hg fun k e _=>e;have n:∀b,pw.ownBlock=aD b->X0.heap.size<=b:=fun b H=>(Own.block f.row b H).1;have a:=p.mem.keep A fun b H hs=>(f.A2 b hs).2 H;have o:=Own.block j;have v:=B.size;have d:∀b,P.ownBlock=aD b->R b\/W.heap.size<=b:=fun b H=>by
  rcases l with e|e;·rw[e] at H;exact dc (f.A2 b H).1
  ·exact dn (e b H)
 have w:TS E X0 R0 (fun b=>R b\/P.ownBlock=aD b) ps pg rt M W':=p.own A (fun b _ H=>⟨(f.A2 b H).1,n b H⟩) a (fun b H=>⟨dc (p.kM b H).1,(p.kM b H).2⟩) (fun _ h=>dc h) (fun b H=>by
  rcases H with H|H;·exact dc H
  ·exact (d b H).imp_right fun h=>⟨h,(o b H).2⟩)
 have i:wh X0.heap.size W' P (q::path).reverse:=by
  rw[List.reverse_cons];refine⟨j.1, ?_⟩;rcases j.2 with h|⟨g,cap,cur,s,_,h3⟩;·exact dc h
  ·refine dn ⟨g,cap,cur,s, ?_,h3⟩;have r:P.ownBlock=aD g:=(by rw[s];rfl);rcases l with e|e;·grind
   ·have:=e g r;have:=f.ts.but.size;omega
 refine⟨_,M,m,c,path,pre,post,out,⟨w,f.above,f.lS,f.mI,f.its,f.own,f.was,f.st,f.ok,f.nd,i,fun b H=>⟨dn H,fun t=> ?_⟩,f.S2,f.S3,f.yg,f.PR,f.PS⟩⟩;rcases l with e|e;·rw[e] at H;exact (f.A2 b H).2 t
 ·have:=e b H;have:=f.ts.mem.mu t;omega
theorem wW (h:TS E X0 R0 R ps pg rt (fun _=>av) w) (r:E.place<16) {l:List (Tr.Tx×Tr.Tx)} {pages:List Nat} (H:iU pg (rt.getD E.place 0) l pages) (key:List UInt8):
  Calls Tryz.prog 51 #[ptr E.tb,bR (bs key)] w fun e w'=>(e=eb (gu #[cx av 0 0,bf cu 0])/\rt.getD E.place 0=0/\l=[]/\pages=[]/\Below w.heap.size w w')\/
   ∃(K:Nat) (T:Tr.E (K+1)) (q:Nat) (pw:Value),e=eb (gu #[pw,bf cu 0])/\l=Tr.cB K (Tr.its T)/\pages=Tr.ck (K+1) T/\pages.Nodup/\G1 E X0 R0 ps pg rt key K T 0 q pw w':=by
 rcases H with⟨u,s,g⟩|⟨K,T,page,s,g,h3,h4,i,v,x,y⟩
 ·refine (zc (G0:=fun w'=>Below w.heap.size w w') (P:=fun _ _ _ _=>False) (Q:=fun _ _ _ _=>False) ⟨fun _ _ _ _ h=>h.elim,fun _ _ _ _ h=>h.elim⟩ ((oF h r u).mono fun e X hh=>dc hh)).mono ?_;rintro e w' (⟨rfl,d⟩|⟨q,pw,_,hf⟩);·grind
  ·exact hf.elim
 ·have t:=h_ (lo:=[]) (hi:=[]) h3 h4 g i;have D:page<pg.length:=cM (by rw[t.page];rfl);have hF:Fnd E.tb (bs key) (G1 E X0 R0 ps pg rt key K T) (Mt E X0 R0 ps pg rt key K T):=by
   refine⟨fun lv q pw X hp=> ?_,fun lv q pw X z=>C8 z⟩;obtain⟨R',M,m,c,path,pre,post,out,f⟩:=hp;have I:=f.above.level;have hl:=f.yg;have c0:=(f.ts.mem.nd q m f.lS).c0;rw[f.mI.level] at c0;refine⟨c0,by omega,fun hpos=> ?_⟩;cases lv with
   |zero=>cases hpos
   |succ lv=>exact JG f
  refine (zc (G0:=fun _=>False) hF ((oG h r page K (aq K (Tr.its T)) s t D).mono ?_)).mono ?_
  ·rintro e X ⟨p,rg,cap,R',rfl,a,d,hp,J,L,N⟩;right;refine⟨p,K,rfl,fun W j=> ?_⟩;dsimp only at a;obtain⟨m,H⟩:∃m,m=NV.got K (aq K (Tr.its T)) rg cap page [] []:=⟨_,rfl⟩;rw[<-H] at a;have B:Below X.heap.size X W:=(by rw[j];exact (Below.refl _ X).alloc (ah _) _);have A:W.heap.size=X.heap.size+1:=(by rw[j,aS]);have C:TS E X0 R0 (fun b=>R' b\/b=X.heap.size) ps pg rt (upd (fun _=>av) p m) W:=a.still B (fun _ h=>dc h) (fun b d=>d.imp_right fun e=>⟨by omega,by omega⟩);have k:aU W X.heap.size 118 [e7 (aD ⟨p,0,av⟩)]:=(by rw[j];exact aU.new X _ _);have n:iM (upd (fun _=>av) p m) pg K p m.lo m.hi T K T [] [] [] []:=(by have F:m.lo=[]:=(by rw[H];rfl);have G:m.hi=[]:=(by rw[H];rfl);rw[F,G];exact .top);refine⟨_,_,m,T,[],[],[],[],⟨C,n,bG _ _ _,by rw[H];exact qh h4 g i,by rw[H];rfl,by rw[H];rfl,by rw[H];show ((cz (aq K (Tr.its T)):Nat):Int)=_;rw[iH],h4,by rw[H];exact i,by simp, ?_,fun b d=> ?_,fun _ h=>(by cases h),fun _ h=>(by cases h),h3,by rw[H];exact Tr.nil_le _,by rw[H];trivial⟩⟩;·refine⟨rfl,dn ⟨X.heap.size,1,#[e7 (aD ⟨p,0,av⟩)],rfl,a.but.size,k,ah _,by decide,rfl, ?_⟩⟩;rfl
   ·have e:X.heap.size=b:=Option.some.inj d;subst e;exact⟨dn rfl,fun o=>by have:=a.mem.mu o;omega⟩
  ·rintro e w' (⟨_,hf⟩|⟨q,pw,rfl,hf⟩);·exact hf.elim
   ·exact dn ⟨K,T,q,pw,rfl,v,x,y,hf⟩
end
def gj {σ:Type} {k:Nat} (v:Tr.E (k+1)->σ->σ×Bool) (hi:Tr.Tx):List (Tr.Tx×Tr.E (k+1))->σ->σ×Bool
 |[],s=>(s,true)
 |p::l,s=>if (!hi.isEmpty&& !Tr.lt p.1 hi)=true then (s,true) else if (v p.2 s).2=true then gj v hi l (v p.2 s).1 else ((v p.2 s).1,false)
def visit {σ:Type} (f:(k:Nat)->Tr.E (k+1)->σ->σ×Bool) (lo hi:Tr.Tx):(k:Nat)->Tr.E (k+1)->σ->σ×Bool
 |0,c,s=>f 0 c s
 |k+1,c,s=>if (f (k+1) c s).2=true then gj (visit f lo hi k) hi ((Tr.its c).drop (tX (aq (k+1) (Tr.its c)) lo).toNat) (f (k+1) c s).1 else ((f (k+1) c s).1,false)
theorem C9 {σ:Type} {f:(k:Nat)->Tr.E (k+1)->σ->σ×Bool} {lo hi:Tr.Tx} {k:Nat} {c:Tr.E (k+1)} {s:σ} (h:(f k c s).2=false):visit f lo hi k c s=((f k c s).1,false):=by
 cases k with
 |zero=>rw[<-h];rfl
 |succ k=>unfold visit;rw[if_neg (by rw[h];decide)]
def tw:(k:Nat)->Tr.E (k+1)->Nat
 |0,c=>1+(Tr.its c).length
 |k+1,c=>1+(Tr.its c).length+((Tr.its c).map fun p=>tw k p.2).sum
def Mu {k:Nat} (l:List (Tr.Tx×Tr.E (k+1))):Nat:=(l.map fun p=>tw k p.2).sum
theorem rT {k:Nat} (p:Tr.Tx×Tr.E (k+1)) (l:List (Tr.Tx×Tr.E (k+1))):Mu (p::l)=tw k p.2+Mu l:=by unfold Mu;rw[bM,ku]
theorem wX {k:Nat}:∀(l:List (Tr.Tx×Tr.E (k+1))) (a:Nat),Mu (l.drop a)<=Mu l
 |[],a=>by rw[List.drop_nil];exact ah _
 |p::l,0=>ah _
 |p::l,a+1=>by rw[List.drop_succ_cons,rT];have:=wX l a;omega
theorem zD {σ:Type} {k:Nat} {v:Tr.E (k+1)->σ->σ×Bool} {sz:σ->Nat} (h:∀c s,sz (v c s).1<=sz s+tw k c) (hi:Tr.Tx):∀(l:List (Tr.Tx×Tr.E (k+1))) (s:σ),sz (gj v hi l s).1<=sz s+Mu l
 |[],s=>Nat.le_add_right _ _
 |p::l,s=>by
  unfold gj;rw[rT];have H:=h p.2 s;have a:=zD h hi l (v p.2 s).1
  split
  ·grind
  ·grind
theorem C_ {σ:Type} {f:(k:Nat)->Tr.E (k+1)->σ->σ×Bool} {sz:σ->Nat} (h:∀k c s,sz (f k c s).1<=sz s+(1+(Tr.its c).length)) (lo hi:Tr.Tx):∀(k:Nat) (c:Tr.E (k+1)) (s:σ),sz (visit f lo hi k c s).1<=sz s+tw k c
 |0,c,s=>h 0 c s
 |k+1,c,s=>by
  have H:=h (k+1) c s;have a:tw (k+1) c=1+(Tr.its c).length+Mu (Tr.its c):=rfl;unfold visit
  split
  ·have h3:=zD (C_ h lo hi k) hi ((Tr.its c).drop (tX (aq (k+1) (Tr.its c)) lo).toNat) (f (k+1) c s).1;have h4:=wX (Tr.its c) (tX (aq (k+1) (Tr.its c)) lo).toNat;omega
  ·grind
structure WO (pg:List (Option Wl.Text)) (k:Nat) (m:NV) (c:Tr.E (k+1)):Prop where
 level:m.level=k
 its:m.its=aq k (Tr.its c)
 page:m.page=zf (Tr.hd c).page
 st:cS pg (k+1) c
 ok:Tr.Ok (k+1) m.lo (jA m.hi) c
section
variable {E:Ev} {X0 X X' X1 X2 Y V w:World} {R0 R R' R1 R2:Nat->Prop} {ps:List (Nat×List UInt8)} {pg:List (Option Wl.Text)} {rt:List Nat} {M M' M1 M2:Nat->Option NV} {σ:Type} {s s1 s2:σ} {J:σ->(Nat->Prop)->(Nat->Option NV)->World->Prop} {f:(k:Nat)->Tr.E (k+1)->σ->σ×Bool} {fn:Nat} {caps:Array Value} {sz:σ->Nat} {lo hi:Tr.Tx}
structure Acc (E:Ev) (X0:World) (R0:Nat->Prop) (ps:List (Nat×List UInt8)) (pg:List (Option Wl.Text)) (rt:List Nat) (fn:Nat) (caps:Array Value) (f:(k:Nat)->Tr.E (k+1)->σ->σ×Bool) (sz:σ->Nat) (J:σ->(Nat->Prop)->(Nat->Option NV)->World->Prop):Prop where
 incr:∀k c s,sz (f k c s).1<=sz s+(1+(Tr.its c).length)
 enter:∀(W:World) (args:Array Value),Sem.run Tryz.prog (callFunc fn args) W=.ok (.enter fn args) W
 ts:∀s R M X,J s R M X->TS E X0 R0 R ps pg rt M X
 grow:∀s R M X R' M' X',J s R M X->TS E X0 R0 R' ps pg rt M' X'->Below X.heap.size X X'->(∀b,MB M' b->MB M b\/X.heap.size<=b)->(∀b,R b->R' b)->J s R' M' X'
 see:∀s R M X q k m c,J s R M X->M q=aD m->WO pg k m c->sz s<=100000000->Calls Tryz.prog fn (#[ptr q]++caps) X fun e X'=>e=eb (eX (f k c s).2)/\∃R',J (f k c s).1 R' M X'/\aG (fun b=>R b) X X'/\(∀b,R b->R' b)/\∀b,R' b->R b\/X.heap.size<=b
def Bt (J:σ->(Nat->Prop)->(Nat->Option NV)->World->Prop) (R:Nat->Prop) (M:Nat->Option NV) (X:World) (s:σ) (X':World):Prop:=
 ∃R' M',J s R' M' X'/\aG (fun b=>R b) X X'/\(∀b,R b->R' b)/\(∀b,R' b->R b\/X.heap.size<=b)/\∀r y,M r=aD y->M' r=aD y
theorem Bt.of (H:J s R M X):Bt J R M X s X:=⟨R,M,H,aG.refl _ _,fun _ h=>h,fun _ h=>dc h,fun _ _ h=>h⟩
theorem Bt.back (h:Bt J R M X1 s X2) (H:Below X.heap.size X X1):Bt J R M X s X2:=by obtain⟨R',M',a,k,c,d,h3⟩:=h;exact⟨R',M',a,(aG.aJ H (fun b=>R b)).trans k (fun _ _ h=>h),c,fun b A=>(d b A).imp_right fun h=>aH H.size h,h3⟩
theorem Acc.below (A:Acc E X0 R0 ps pg rt fn caps f sz J) (h:Bt J R M X s X1) (H:Below X1.heap.size X1 X2):Bt J R M X s X2:=by obtain⟨R',M',a,k,b,c,h3⟩:=h;exact⟨R',M',A.grow _ _ _ _ _ _ _ a ((A.ts _ _ _ _ a).still H (fun _ h=>h) (fun _ h=>dc h)) H (fun _ h=>dc h) (fun _ h=>h),k.trans (aG.aJ H (fun _=>False)) (fun _ _ f=>f.elim),b,c,h3⟩
theorem Da {k:Nat} {m:NV} {c:Tr.E (k+1)} (h:WO pg k m c):KS m.its/\m.its.length=(Tr.its c).length/\∀j (a:j<m.its.length) (H:j<(Tr.its c).length),m.its[j]=⟨((Tr.its c)[j]).1,ej k ((Tr.its c)[j]).2,av⟩:=by
 refine⟨wu (by rw[h.its,dJ];exact (iI h.ok.2.2).1),by rw[h.its];exact aT _,fun j a H=> ?_⟩;have e:m.its[j]?=aD ⟨((Tr.its c)[j]).1,ej k ((Tr.its c)[j]).2,av⟩:=by rw[h.its];unfold aq;rw[cD,aK H];rfl
 rw[aK a] at e;exact Option.some.inj e
theorem JI {k q:Nat} {m:NV} {c:Tr.E (k+1+1)} (H:TS E X0 R0 R ps pg rt M X) (i:M q=aD m) (h:WO pg (k+1) m c) (u:k+1<=15) (a:Nat) (ha:a<(Tr.its c).length):
  Calls Tryz.prog 123 #[ptr E.tb,ptr q,bf cu a] X fun e X'=>∃q' d R',e=eb (gu #[ptr q',bf cu 0])/\TS E X0 R0 R' ps pg rt (upd M q' d) X'/\Below X.heap.size X X'/\X.heap.size<=q'/\X.heap.size<=d.rg/\WO pg k d ((Tr.its c)[a]).2/\(∀b,R b->R' b)/\∀b,R' b->R b\/X.heap.size<=b:=by
 obtain⟨hs,g,j⟩:=Da h;have L:a<m.its.length:=by omega
 have C:cS pg (k+1) ((Tr.its c)[a]).2:=h.st.2.2 _ (bI ha);obtain⟨page,f,P,-⟩:=C.1;have y:Tr.Ok (k+1) (eW m a) (jA (eu m a)) ((Tr.its c)[a]).2:=by
  have hc:Tr.its c=(Tr.its c).take a++(((Tr.its c)[a]).1,((Tr.its c)[a]).2)::(Tr.its c).drop (a+1):=by grind [lT,cP]
  have:=mD (n:=m) (t:=c) h.ok.near hc (by rw[h.its,dJ])
  rwa [aO,ct (Nat.le_of_lt ha)] at this
 have l:=h_ (by omega) C f y;refine (oD H i a L page P ?_ k h.level _ l).mono ?_;·rw[j a L ha];show pv ((Tr.hd ((Tr.its c)[a]).2).page.getD 0)=_;rw[f];rfl
 ·rintro e X' ⟨p,rg,cap,R',rfl,S,o,hp,x,r,s⟩;exact⟨p,_,R',rfl,S,o,hp,x,⟨rfl,rfl,by rw[f];rfl,C,y⟩,r,s⟩
theorem Mx (A:Acc E X0 R0 ps pg rt fn caps f sz J) (lo hi:Tr.Tx):∀(k:Nat) (c:Tr.E (k+1)) (m:NV) (q:Nat) (s:σ) (R:Nat->Prop) (M:Nat->Option NV) (X:World),k<=15->J s R M X->M q=aD m->WO pg k m c->sz s+tw k c<=100000000->
  Calls Tryz.prog 143 #[ptr E.tb,ptr q,iK #[bR (bs lo),bR (bs hi)],.func (.func fn) #[] caps] X fun e X'=>e=eb (gu #[eX (visit f lo hi k c s).2,bf cu 0])/\Bt J R M X (visit f lo hi k c s).1 X':=by
 intro k;induction k with
 |zero=>
  intro c m q s R M X P x p hn hB;refine (ze (lv:=0) (G:=fun b X'=>b=(visit f lo hi 0 c s).2/\Bt J R M X (visit f lo hi 0 c s).1 X') A.enter P ?_).mono ?_;·intro W z;have H:Below X.heap.size X W:=(by rw[z];exact (Below.refl _ X).alloc (ah _) _);have d:=A.ts _ _ _ _ x;have Z:=A.grow _ _ _ _ R M W x (d.still H (fun _ h=>h) (fun _ h=>dc h)) H (fun _ h=>dc h) (fun _ h=>h);have Q:aU W X.heap.size 125 [bR (bs lo),bR (bs hi)]:=(by rw[z];exact aU.new X _ _);refine (A.see _ _ _ _ q 0 m c Z p hn (by omega)).mono ?_;rintro e X1 ⟨rfl,R1,S,B,h1,h2⟩;have C:Bt J R M X (visit f lo hi 0 c s).1 X1:=⟨R1,M,S,(aG.aJ H (fun b=>R b)).trans B (fun _ _ h=>h),h1,fun b g=>(h2 b g).imp_right fun h=>aH H.size h,fun _ _ h=>h⟩;have D:=((A.ts _ _ _ _ S).mem.nd q m p).c0;rw[hn.level] at D;refine⟨_,rfl,fun hf=>⟨hf.symm,C⟩,fun ht=>⟨D,(Q.but B fun h=>Nat.lt_irrefl _ (d.IK _ h)).cell (j:=0) rfl,fun _=>⟨ht.symm,C⟩,fun h=>absurd h (Nat.lt_irrefl 0)⟩⟩
  ·rintro e w' ⟨b,rfl,rfl,h⟩;exact⟨rfl,h⟩
 |succ k ih=>
  intro c m q s R M X P x p hn hB;obtain⟨hs,hlen,jI⟩:=Da hn;refine (ze (lv:=k+1) (G:=fun b X'=>b=(visit f lo hi (k+1) c s).2/\Bt J R M X (visit f lo hi (k+1) c s).1 X') A.enter P ?_).mono ?_
  ·intro W z;have H:Below X.heap.size X W:=(by rw[z];exact (Below.refl _ X).alloc (ah _) _);have d:=A.ts _ _ _ _ x;have Z:=A.grow _ _ _ _ R M W x (d.still H (fun _ h=>h) (fun _ h=>dc h)) H (fun _ h=>dc h) (fun _ h=>h);have Q:aU W X.heap.size 125 [bR (bs lo),bR (bs hi)]:=(by rw[z];exact aU.new X _ _);have F:¬R X.heap.size:=fun h=>Nat.lt_irrefl _ (d.IK _ h);refine (A.see _ _ _ _ q (k+1) m c Z p hn (by omega)).mono ?_;rintro e X1 ⟨rfl,R1,S,B,h1,h2⟩;have C:Bt J R M W (f (k+1) c s).1 X1:=⟨R1,M,S,B,h1,h2,fun _ _ h=>h⟩;have t:=Q.but B F;have nr:=(A.ts _ _ _ _ S).mem.nd q m p;have D:=nr.c0;rw[hn.level] at D;refine⟨_,rfl,fun hf=> ?_,fun ht=>⟨D,t.cell (j:=0) rfl,fun h=>absurd h (dy k),fun _=> ?_⟩⟩;·rw[C9 hf];exact⟨rfl,C.back H⟩
   ·have I:0<(Tr.its c).length:=eL.2 hn.ok.1;have pM:(m.its[0]'(by omega)).key=[]:=by
     rw[jI 0 (by omega) I];have:=hn.ok.2.2.1 ((Tr.its c)[0]) (by rw[List.head?_eq_getElem?,aK I])
     rwa [if_neg (dy k)] at this
    obtain⟨a,sR,ha,-,-⟩:=Fv hs (by omega) pM lo;have S_:visit f lo hi (k+1) c s=gj (visit f lo hi k) hi ((Tr.its c).drop a) (f (k+1) c s).1:=by
     conv=>lhs;unfold visit
     rw[if_pos ht,<-hn.its,sR];rfl
    refine (vI nr hs lo).mono ?_;rintro e X2 ⟨rfl,aV⟩;rw[sR];have BQ:=nr.small;have hl4:m.its.length<=400:=BQ.len;refine⟨a,rfl,by omega,m.rg,m.ro,m.its.length,m.cap,fun a X'=>∃s',Bt J R M W s' X'/\aU X' X.heap.size 125 [bR (bs lo),bR (bs hi)]/\a<=m.its.length/\gj (visit f lo hi k) hi ((Tr.its c).drop a) s'=visit f lo hi (k+1) c s/\sz s'+Mu ((Tr.its c).drop a)<=100000000,hl4,⟨?_⟩,⟨_,A.below C aV,t.below aV t.lt,by omega,S_.symm, ?_⟩⟩;rotate_left;·have h3:=A.incr (k+1) c s;have h4:=wX (Tr.its c) a;have h5:tw (k+1) c=1+(Tr.its c).length+Mu (Tr.its c):=rfl;omega
    rintro a X' ⟨s',T,U,XH,Si,q8⟩;obtain⟨R',M',i,Mz,g1,g2,V⟩:=T;have T:Bt J R M W s' X':=⟨R',M',i,Mz,g1,g2,V⟩;have l:=(A.ts _ _ _ _ i).mem.nd q m (V q m p);have K:Below X'.heap.size X' X'.drew:=(Below.refl _ _).drew;refine⟨U.cell (j:=0) rfl,U.cell (j:=1) rfl,l.c1,XH,l.small.cap.1,fun he=> ?_,fun u=> ?_⟩;·have:gj (visit f lo hi k) hi ((Tr.its c).drop a) s'=(s',true):=(by rw[List.drop_eq_nil_of_le (by omega)];rfl);rw[<-Si,this];exact⟨rfl,(A.below T K).back H⟩
    ·have v:a<(Tr.its c).length:=(by omega);have hit:=(bh l.row a u).1;have o:(m.its[a]).key=((Tr.its c)[a]).1:=(by rw[jI a u v]);have wE:(Tr.its c).drop a=(Tr.its c)[a]::(Tr.its c).drop (a+1):=cw v;rw[wE,rT] at q8;refine⟨_,hit,(qU _ lo hi _).mono ?_⟩;rintro e X3 ⟨rfl,bN⟩;have L:Below X'.heap.size X' X3:=K.trans (bN.mono (ah _));have Y:=U.below L U.lt;have AG:=l.still L;refine⟨_,rfl,Y.cell (j:=0) rfl,Y.cell (j:=1) rfl,AG.c1,(bh AG.row a u).1,fun xQ=> ?_,fun DT=> ?_⟩;·have:gj (visit f lo hi k) hi ((Tr.its c).drop a) s'=(s',true):=(by rw[wE];unfold gj;rw[if_pos (by rw[<-o];exact xQ)]);rw[<-Si,this];exact⟨rfl,(A.below T L).back H⟩
     ·have Fo:=(A.ts _ _ _ _ i).still L (fun _ h=>h) (fun _ h=>dc h);have hj3:=A.grow _ _ _ _ R' M' X3 i Fo L (fun _ h=>dc h) (fun _ h=>h);refine (JI Fo (V q m p) hn P a v).mono ?_;rintro e X4 ⟨q',m',R4,rfl,aar,n,hq4,hr4,KX,N,h42⟩;have hmb:∀b,MB (upd M' q' m') b->MB M' b\/X3.heap.size<=b:=by
       rintro b ⟨r,y,hr,O⟩;rcases aN hr with⟨rfl,rfl⟩|⟨_,hr⟩;·right;rcases O with rfl|rfl<;>assumption
       ·exact dc ⟨r,y,hr,O⟩
      have hj4:=A.grow _ _ _ _ R4 (upd M' q' m') X4 hj3 aar n hmb N;have Kj:=Y.below n Y.lt;refine⟨q',rfl,Kj.cell (j:=0) rfl,Kj.cell (j:=1) rfl,(ih ((Tr.its c)[a]).2 m' q' s' R4 _ X4 (by omega) hj4 (bG _ _ _) KX (by omega)).mono ?_⟩;rintro e X5 ⟨rfl,R5,M5,hj5,dP,h51,h52,h53⟩;have Lb:=L.size;have abC:=n.size;have abD:=Mz.size;have PU:∀b,R4 b->R b\/W.heap.size<=b:=fun b g=>by
       rcases h42 b g with h|h;·exact g2 b h
       ·right;omega
      have Rn:Bt J R M W (visit f lo hi k ((Tr.its c)[a]).2 s').1 X5:=by
       refine⟨R5,M5,hj5,((Mz.trans (aG.aJ L (fun _=>False)) (fun _ _ f=>f.elim)).trans (aG.aJ n (fun _=>False)) (fun _ _ f=>f.elim)).trans dP (fun b we g=> ?_),fun b g=>h51 b (N b (g1 b g)),fun b g=> ?_,fun r y hr=> ?_⟩
       ·rcases PU b g with h|h;·exact h
        ·omega
       ·rcases h52 b g with h|h;·exact PU b h
        ·right;omega
       ·refine h53 r y ?_;have h6:=V r y hr;rw[aW (fun e=> ?_)];·exact h6
        ·have:=(Fo.mem.lt h6).1;omega
      have XA:aU X5 X.heap.size 125 [bR (bs lo),bR (bs hi)]:=by
       refine Kj.but dP fun h=> ?_;rcases PU _ h with h|h;·exact F h
       ·have:=Q.lt;omega
      have w:gj (visit f lo hi k) hi ((Tr.its c).drop a) s'=if (visit f lo hi k ((Tr.its c)[a]).2 s').2=true then gj (visit f lo hi k) hi ((Tr.its c).drop (a+1)) (visit f lo hi k ((Tr.its c)[a]).2 s').1 else ((visit f lo hi k ((Tr.its c)[a]).2 s').1,false):=by
       rw[wE]
       conv=>lhs;unfold gj
       rw[if_neg (by rw[<-o,DT];decide)]
      have hvs:=C_ A.incr lo hi k ((Tr.its c)[a]).2 s';refine⟨_,rfl,fun hvt=>⟨_,Rn,XA,by omega, ?_,by omega⟩,fun hvf=> ?_⟩;·grind
      ·rw[<-Si,w,if_neg (by rw[hvf];decide)];exact⟨rfl,Rn.back H⟩
  ·rintro e w' ⟨b,rfl,rfl,h⟩;exact⟨rfl,h⟩
end
structure aas (key:ByteArray) (L:Nat->Nat->Nat->Nat->World->Prop) (G:Option (List UInt8)->World->Prop):Prop where
 search:∀q pr n cap X,L q pr n cap X->X.cell? ⟨pr,n,av⟩=aD (e7 (aD ⟨q,0,av⟩))/\n<=100/\Calls Tryz.prog 52 #[ptr q,bR key] X fun e X'=>
  (∃a:Nat,e=eb (gu #[bf cu a,eX false])/\G av X')\/
  (∃(a g o n' c':Nat) (v0:List UInt8),e=eb (gu #[bf cu a,eX true])/\a<n'/\n'<=400/\X'.cell? ⟨q,1,av⟩=aD (cx (aD ⟨g,o,av⟩) n' c')/\X'.cell? ⟨g,o+a*3+1,av⟩=aD (bR (bs v0))/\v0.length<=200/\∀gL,Below X'.heap.size X' gL->G (aD v0) gL)
structure aat (tb:Nat) (key:ByteArray) (L:Nat->Nat->Nat->Nat->World->Prop) (N:World->Prop) (G:Int->World->Prop):Prop where
 search:∀q pr n cap X,L q pr n cap X->X.cell? ⟨pr,n,av⟩=aD (e7 (aD ⟨q,0,av⟩))/\n<=100/\Calls Tryz.prog 52 #[ptr q,bR key] X fun e X'=>
  (∃a:Nat,e=eb (gu #[bf cu a,eX false])/\N X')\/
  (∃(a g n' c':Nat),e=eb (gu #[bf cu a,eX true])/\a<n'/\n'<=400/\X'.cell? ⟨q,1,av⟩=aD (cx (aD ⟨g,0,av⟩) n' c')/\
   Calls Tryz.prog 56 #[cx (aD ⟨g,0,av⟩) n' c',bf cu a,bf cu (a+1:Nat)] X' fun e gL=>∃(Yb:Nat) (v:Value),e=eb v/\v=cx (aD ⟨g,0,av⟩) Yb c'/\(∃u,gL.cell? ⟨q,1,av⟩=aD u)/\gL.frozen? ⟨q,1,av⟩=false/\
    Calls Tryz.prog 57 #[ptr tb,cx (aD ⟨pr,0,av⟩) (n+1) cap] (gL.setCell ⟨q,1,av⟩ v) fun e w'=>∃c:Int,e=eb (bf cu c)/\G c w')
section
variable {w:World} {tb:Nat}
theorem MA {key:ByteArray} {L:Nat->Nat->Nat->Nat->World->Prop} {G:Option (List UInt8)->World->Prop} (b:aas key L G)
  (hF:Calls Tryz.prog 51 #[ptr tb,bR key] w fun e X=>(e=eb (gu #[cx av 0 0,bf cu 0])/\G av X)\/
   ∃q pr n cap,e=eb (gu #[cx (aD ⟨pr,0,av⟩) (n+1) cap,bf cu 0])/\L q pr n cap X):
  Calls Tryz.prog 32 #[ptr tb,bR key] w fun e w'=>∃v:Option (List UInt8),e=eb (gu #[bR (bs (v.getD [])),eX v.isSome,bf cu 0])/\G v w':=by
 have c:=aa b
 have d:=aa hF
 clear b hF
 unfold ptr at c d |-
 go_enter Tryz.func32,Tryz.ntmps32
 go_wp2_with fail
 refine d.o.mono ?_
 rintro e X (⟨rfl,h⟩|⟨q,pr,n,cap,rfl,f⟩)
 ·have H:=aa h;clear h;go_wp2_with fail
  go_ret3
  exact⟨av,rfl,H.o⟩
 ·have j:=aa f;clear f;obtain⟨p,z,y⟩:=c.o.search _ _ _ _ _ j.o;have Q:(n:Int)<=100:=by omega
  have J:=aa y;clear y;go_wp2_with fail;clear p;refine J.o.mono ?_;rintro e X2 (⟨a,rfl,h⟩|⟨a,g,o,n',c',v0,rfl,W,K,c1,I,k,h⟩)
  ·have H:=aa h;clear h;go_wp2_with fail
   go_ret3
   exact⟨av,rfl,H.o⟩
  ·have M:(a:Int)<n':=(by omega);have m:(n':Int)<=400:=(by omega);have H:=aa h;clear h;go_wp2_with fail;refine (jg (bs v0) X2 (by rw[aP];omega)).mono ?_;rintro e X3 ⟨rfl,i⟩;have l:=aa i;clear i c1 I;go_wp2_with fail
   go_ret3
   exact⟨aD v0,rfl,H.o _ l.o⟩
theorem MF {key:ByteArray} {L:Nat->Nat->Nat->Nat->World->Prop} {N:World->Prop} {G:Int->World->Prop} (d:aat tb key L N G)
  (hF:Calls Tryz.prog 51 #[ptr tb,bR key] w fun e X=>(e=eb (gu #[cx av 0 0,bf cu 0])/\N X)\/
   ∃q pr n cap,e=eb (gu #[cx (aD ⟨pr,0,av⟩) (n+1) cap,bf cu 0])/\L q pr n cap X):
  Calls Tryz.prog 36 #[ptr tb,bR key] w fun e w'=>(e=eb (gu #[eX false,bf cu 0])/\N w')\/∃c:Int,e=eb (gu #[eX (decide (c=0)),bf cu c])/\G c w':=by
 have f:=aa d
 have i:=aa hF
 clear d hF
 unfold ptr at f i |-
 go_enter Tryz.func36,Tryz.ntmps36
 go_wp2_with fail
 refine i.o.mono ?_
 rintro e X (⟨rfl,h⟩|⟨q,pr,n,cap,rfl,j⟩)
 ·have H:=aa h;clear h;go_wp2_with fail
  go_ret2
  exact dc ⟨rfl,H.o⟩
 ·have m:=aa j;clear j;obtain⟨p,z,y⟩:=f.o.search _ _ _ _ _ m.o;have Q:(n:Int)<=100:=by omega
  have J:=aa y;clear y;go_wp2_with fail;clear p;refine J.o.mono ?_;rintro e X2 (⟨a,rfl,h⟩|⟨a,g,n',c',rfl,W,K,c1,k⟩)
  ·have H:=aa h;clear h;go_wp2_with fail
   go_ret2
   exact dc ⟨rfl,H.o⟩
  ·have M:(a:Int)<n':=(by omega);have r:(n':Int)<=400:=(by omega);have l:=aa k;clear k;rw[show ((a+1:Nat):Int)=(a:Int)+1 by omega] at l;go_wp2_with fail;refine l.o.mono ?_;rintro e X3 ⟨Yb,v,rfl,rfl,⟨u,D⟩,f1,b⟩;have I:=aa b;clear b c1;go_wp2_with fail;refine I.o.mono ?_;rintro e s ⟨c,rfl,h⟩;have H:=aa h;clear h D f1;by_cases hc:c=0
   ·subst hc;go_wp2_with fail
    go_ret2
    exact dn ⟨0,rfl,H.o⟩
   ·go_wp2_with fail
    go_ret2
    exact dn ⟨c,by rw[decide_eq_false hc];rfl,H.o⟩
end
end
namespace Tr
abbrev fB:=List (Tx×Tx)
def put (l:fB) (key v:Tx):fB:=l.filter (fun p=>lt p.1 key)++(key,v)::l.filter (fun p=>lt key p.1)
def del (l:fB) (key:Tx):fB:=l.filter (fun p=>p.1 !=key)
def got (l:fB) (key:Tx):Option Tx:=(l.find? fun p=>p.1==key).map (·.2)
abbrev cA (l:fB):Prop:=l.Pairwise fun a b=>lt a.1 b.1=true
theorem filter_all {l:fB} {f:Tx×Tx->Bool} (h:∀p∈l,f p=true):l.filter f=l:=List.filter_eq_self.2 h
theorem jX {l:fB} {f:Tx×Tx->Bool} (h:∀p∈l,f p=false):l.filter f=[]:=List.filter_eq_nil_iff.2 fun p hp=>by rw[h p hp];decide
section
variable {pre lf post:fB} {key v:Tx}
theorem PV (h:∀p∈pre,lt p.1 key=true) (H:∀p∈post,lt key p.1=true):put (pre++lf++post) key v=pre++put lf key v++post:=by unfold put;rw[lU,lU,lU,lU,filter_all h,jX (l:=post) (f:=fun p=>lt p.1 key) fun p hp=>lt_asymm (H p hp),jX (l:=pre) (f:=fun p=>lt key p.1) fun p hp=>lt_asymm (h p hp),filter_all H];simp
theorem PW (h:∀p∈pre,lt p.1 key=true) (H:∀p∈post,lt key p.1=true):del (pre++lf++post) key=pre++del lf key++post:=by grind [del,filter_all,ne_of_lt]
theorem Db {l:fB} (h:∀p∈l,p.1≠key):got l key=none:=by grind [got]
theorem wY {a b:fB} (h:∀p∈a,p.1≠key):got (a++b) key=got b key:=by grind [got]
theorem JJ {a b:fB} (h:∀p∈b,p.1≠key):got (a++b) key=got a key:=by grind [got]
theorem G2 (h:∀p∈pre,lt p.1 key=true) (H:∀p∈post,lt key p.1=true):got (pre++lf++post) key=got lf key:=by grind [JJ,ne_of_lt,wY]
theorem Fw (h:cA lf):lf.takeWhile (fun p=>lt p.1 key)=lf.filter (fun p=>lt p.1 key)/\lf.dropWhile (fun p=>lt p.1 key)=lf.filter (fun p=> !lt p.1 key):=by
 induction lf with
 |nil=>exact⟨rfl,rfl⟩
 |cons a l i=>
  obtain⟨ha,hl⟩:=cF.1 h;cases e:lt a.1 key with
  |true=>
   have:=i hl;rw[List.takeWhile_cons,List.dropWhile_cons,cW,cW];simp only[e,if_true,Bool.not_true,jo,if_false];exact⟨by rw[this.1],this.2⟩
  |false=>
   have H:∀p∈l,lt p.1 key=false:=fun p hp=>by
    cases E:lt p.1 key with
    |false=>rfl
    |true=>have:=lt_trans (ha p hp) E;rw[e] at this;cases this
   rw[List.takeWhile_cons,List.dropWhile_cons,cW,cW];simp only[e,if_false,Bool.not_false,if_true,jo];refine⟨(jX H).symm, ?_⟩;rw[filter_all (l:=l) fun p hp=>by rw[H p hp];rfl]
theorem jY (h:cA lf) {p:Nat} (hp:p=(lf.takeWhile fun x=>lt x.1 key).length):lf.take p=lf.filter (fun x=>lt x.1 key)/\lf.drop p=lf.filter (fun x=> !lt x.1 key):=by
 obtain⟨H,a⟩:=Fw (key:=key) h;have e:lf=lf.takeWhile (fun x=>lt x.1 key)++lf.dropWhile (fun x=>lt x.1 key):=(List.takeWhile_append_dropWhile).symm;have hg:∀A B:fB,lf=A++B->lf.take A.length=A/\lf.drop A.length=B:=by grind
 obtain⟨g,G⟩:=hg _ _ e;rw[<-hp] at g G;exact⟨g.trans H,G.trans a⟩
theorem MG (h:cA lf) {p:Nat} (hp:p=(lf.takeWhile fun x=>lt x.1 key).length) (hn:∀x∈lf,x.1≠key):lf.take p++(key,v)::lf.drop p=put lf key v:=by
 obtain⟨H,a⟩:=jY h hp;unfold put;rw[H,a];congr 2;refine List.filter_congr fun x b=> ?_;cases e:lt key x.1 with
 |true=>rw[lt_asymm e];rfl
 |false=>
  cases E:lt x.1 key with
  |true=>rfl
  |false=>exact absurd (j7 _ _ E e) (hn x b)
theorem wZ (h:cA lf) {p:Nat} (hp:p=(lf.takeWhile fun x=>lt x.1 key).length) (hl:p<lf.length) (c:(lf[p]).1=key):lf.drop (p+1)=lf.filter (fun x=>lt key x.1)/\lf.drop p=lf[p]::lf.drop (p+1):=by
 obtain⟨d,g⟩:=jY h hp;have hd:lf.drop p=lf[p]::lf.drop (p+1):=cw hl;refine⟨?_,hd⟩;have hr:(lf.drop p).Pairwise fun a b=>lt a.1 b.1=true:=h.sublist (List.drop_sublist _ _);rw[hd] at hr;have h3:=(cF.1 hr).1;have e:lf=lf.take p++lf[p]::lf.drop (p+1):=by rw[<-hd,cP]
 conv=>rhs;rw[e]
 rw[lU,cW,d,jX (l:=lf.filter _) (f:=fun x=>lt key x.1) fun x H=>lt_asymm (by simpa using (dz.1 H).2),c,lt_irrefl];simp only[jo,if_false,dI];exact (filter_all fun x H=>by rw[<-c];exact h3 x H).symm
theorem MH (h:cA lf) {p:Nat} (hp:p=(lf.takeWhile fun x=>lt x.1 key).length) (hl:p<lf.length) (H:(lf[p]).1=key):lf.set p (key,v)=put lf key v:=by obtain⟨a,b⟩:=wZ h hp hl H;unfold put;rw[<-a,<-(jY h hp).1,List.set_eq_take_append_cons_drop,if_pos hl]
theorem MI (h:cA lf) {p:Nat} (hp:p=(lf.takeWhile fun x=>lt x.1 key).length) (hl:p<lf.length) (a:(lf[p]).1=key):lf.take p++lf.drop (p+1)=del lf key:=by
 obtain⟨b,c⟩:=wZ h hp hl a;have h3:=(jY h hp).1;unfold del;have e:lf=lf.take p++lf[p]::lf.drop (p+1):=by rw[<-c,cP]
 conv=>rhs;rw[e]
 rw[lU,cW,a];simp only[bne_self_eq_false,jo,if_false];rw[filter_all (l:=lf.take p) fun x H=>bne_iff_ne.2 (ne_of_lt (by rw[h3] at H;simpa using (dz.1 H).2)),filter_all (l:=lf.drop (p+1)) fun x H=>bne_iff_ne.2 (ne_of_lt (by rw[b] at H;simpa using (dz.1 H).2)).symm]
theorem Dc (h:cA lf) {p:Nat} (hp:p=(lf.takeWhile fun x=>lt x.1 key).length) (hl:p<lf.length) (H:(lf[p]).1=key):got lf key=aD (lf[p]).2:=by
 obtain⟨_,b⟩:=wZ h hp hl H;have h3:=(jY h hp).1;have e:lf=lf.take p++lf[p]::lf.drop (p+1):=by rw[<-b,cP]
 have E:got lf key=got (lf.take p++lf[p]::lf.drop (p+1)) key:=by rw[<-e]
 rw[E,wY fun x a=>ne_of_lt (by rw[h3] at a;simpa using (dz.1 a).2)];unfold got;rw[List.find?_cons,show (lf[p].1==key)=true from by rw[H];simp];rfl
theorem MJ {l:fB} (h:cA l) (d:(key,v)∈l):put l key v=l:=by obtain⟨a,b,rfl⟩:=List.append_of_mem d;have H:=List.pairwise_append.1 h;have c:=cF.1 H.2.1;unfold put;rw[lU,lU,cW,cW];simp only[lt_irrefl,jo,if_false];rw[filter_all (l:=a) fun p hp=>H.2.2 p hp (key,v) aE,jX (l:=b) (f:=fun p=>lt p.1 key) fun p hp=>lt_asymm (c.1 p hp),jX (l:=a) (f:=fun p=>lt key p.1) fun p hp=>lt_asymm (H.2.2 p hp (key,v) aE),filter_all c.1];simp
theorem Ord.put {lo:Tx} {h:Option Tx} {l:fB} (o:Ord lo h l) (b:le lo key) (c:tT key h) (h3:key.length<=96) (h4:v.length<=56):Ord lo h (put l key v):=by
 have H:∀p∈Tr.put l key v,p∈l\/p=(key,v):=fun p hp=>by
  unfold Tr.put at hp;rcases aj.1 hp with hp|hp;·grind
  ·grind
 refine⟨?_,fun p hp=> ?_,fun p hp=> ?_,fun p hp=> ?_,fun p hp=> ?_⟩
 ·unfold Tr.put;refine List.pairwise_append.2 ⟨o.mG.sublist qy,cF.2 ⟨fun p hp=>by simpa using (dz.1 hp).2,o.mG.sublist qy⟩,fun p hp q a=> ?_⟩;have e:lt p.1 key=true:=by simpa using (dz.1 hp).2
  rcases aX.1 a with rfl|a;·exact e
  ·grind [lt_trans]
 ·rcases H p hp with hp|rfl;·exact o.low p hp
  ·exact b
 ·rcases H p hp with hp|rfl;·exact o.high p hp
  ·exact c
 ·rcases H p hp with hp|rfl;·exact o.keys p hp
  ·exact h3
 ·rcases H p hp with hp|rfl;·exact o.vals p hp
  ·exact h4
theorem Ord.del {lo:Tx} {h:Option Tx} {l:fB} (o:Ord lo h l):Ord lo h (del l key):=
 ⟨o.mG.sublist qy,fun p hp=>o.low p (dz.1 hp).1,fun p hp=>o.high p (dz.1 hp).1,fun p hp=>o.keys p (dz.1 hp).1,fun p hp=>o.vals p (dz.1 hp).1⟩
theorem G3 {h:Option Tx}:∀{l:fB} {lo:Tx},Ord lo h l->dB (Ok 0) (cut 0) h (l:List (Tx×E 0))
 |[],_,_=>trivial
 |[a],_,o=>⟨o.vals a aE,o.high a aE⟩
 |a::b::r,lo,o=>by
  have H:=cF.1 o.mG;have O:Ord lo h (b::r):=⟨H.2,fun p hp=>o.low p (aI _ hp),fun p hp=>o.high p (aI _ hp),fun p hp=>o.keys p (aI _ hp),fun p hp=>o.vals p (aI _ hp)⟩;exact⟨⟨o.vals a aE,H.1 b aE⟩,⟨H.1 b aE,o.keys b (aI _ aE),trivial⟩,G3 O⟩
theorem MK {lo:Tx} {h:Option Tx} {l:fB} (o:Ord lo h l):Rw 0 lo h (l:List (Tx×E 0)):=by
 refine⟨fun p hp=> ?_, ?_⟩;·rw[if_pos rfl];exact⟨o.low p (List.mem_of_mem_head? hp),o.keys p (List.mem_of_mem_head? hp)⟩
 ·grind [dB,Ok,cut,r9,G3]
theorem th (f:Tx×Tx->Bool):∀l:fB,sz 0 ((l.filter f:fB):List (Tx×E 0))<=sz 0 (l:List (Tx×E 0))
 |[]=>ah _
 |a::l=>by
  have i:=th f l;rw[cW]
  split
  ·simp_all[jw,sz]
  ·show _<=jw 0 a+sz 0 _;omega
theorem ML (f g:Tx×Tx->Bool) (h:∀p,¬(f p=true/\g p=true)):∀l:fB,sz 0 ((l.filter f:fB):List (Tx×E 0))+sz 0 ((l.filter g:fB):List (Tx×E 0))<=sz 0 (l:List (Tx×E 0))
 |[]=>ah _
 |a::l=>by
  have i:=ML f g h l;have hl:sz 0 ((a::l:fB):List (Tx×E 0))=jw 0 a+sz 0 (l:List (Tx×E 0)):=rfl;rw[cW,cW,hl];have hc:∀r:fB,sz 0 ((a::r:fB):List (Tx×E 0))=jw 0 a+sz 0 (r:List (Tx×E 0)):=fun _=>rfl;cases e:f a<;>cases b:g a;·grind
  ·simp only[jo,if_false,if_true,hc];omega
  ·simp only[jo,if_false,if_true,hc];omega
  ·grind
theorem MM (l:fB):sz 0 (put l key v:List (Tx×E 0))<=sz 0 (l:List (Tx×E 0))+(2+key.length+v.length):=by
 have H:=ML (fun p=>lt p.1 key) (fun p=>lt key p.1) (fun p h=>by have:=lt_asymm h.1;rw[h.2] at this;cases this) l;have a:sz 0 (put l key v:List (Tx×E 0))=sz 0 ((l.filter (fun p=>lt p.1 key):fB):List (Tx×E 0))+((2+key.length+v.length)+sz 0 ((l.filter (fun p=>lt key p.1):fB):List (Tx×E 0))):=by exact ep 0 (l.filter (fun p=>lt p.1 key):fB) ((key,v)::l.filter (fun p=>lt key p.1):fB)
 omega
end
end Tr
end Go.Proofs.YtlpfhjbpknbndaaGreatDoor
