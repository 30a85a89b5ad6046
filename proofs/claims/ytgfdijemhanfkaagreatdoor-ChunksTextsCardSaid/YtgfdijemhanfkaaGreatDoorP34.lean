/- Elder texts, cut down and merged (34). -/
import Derived.Test.YtgfdijemhanfkaaGreatDoorP33
import Derived.Test.YtgfdijemhanfkaaGreatDoorP29
import Derived.Test.YtgfdijemhanfkaaGreatDoorP23
import Derived.Test.YtgfdijemhanfkaaGreatDoorP26
import Derived.Test.YtgfdijemhanfkaaGreatDoorP5
import Derived.Test.YtgfdijemhanfkaaGreatDoorP27
import Derived.Test.YtgfdijemhanfkaaGreatDoorP25
import Derived.Test.YtgfdijemhanfkaaGreatDoorP24
import Derived.Test.YtgfdijemhanfkaaGreatDoorPTk
set_option linter.unusedSimpArgs false
set_option linter.unusedVariables false
set_option maxRecDepth 100000
set_option maxHeartbeats 8000000
namespace Go.Proofs.YtgfdijemhanfkaaGreatDoor
open _root_.Go.Proofs.Tryz
open Option renaming none→aK,some→av
open Or renaming inl→cS,inr→dc
open Value renaming slice→cx,int→bf,pointer→dr,tuple→ec,bool→ey,string→cu,agg→eU
open IntKind renaming i64→ct
open Ending renaming returned→c8
open Obj renaming cells→dg
open List renaming length_set->bV,length_append->aq,nodup_append->aP,mem_append->ah,mem_cons->aM,getElem_mem->bp,length_take->aJ,pairwise_iff_getElem->gh,length_map->aL,getElem?_map->cY,getElem?_eq_getElem->aI,take_succ_eq_append_getElem->cz,getD_eq_getElem?_getD->bC,length_eq_zero_iff->ff,nil_append->cM,mem_cons_self->au,append_nil->bh,take_of_length_le->bD,getElem?_append_right->gO,length_pos_iff->d_,getElem_cons_drop->mR,take_append_drop->b_,mem_cons_of_mem->aH,length_cons->a_,nodup_cons->cA,mem_singleton->bB,map_cons->bI,sum_cons->mJ,drop_eq_nil_of_le->gj,drop_eq_getElem_cons->cE,map_append->bM,setIfInBounds_toArray->aC,set_cons_succ->aB,set_cons_zero->ay,length_singleton->gi,mem_filter->dU,pairwise_cons->cC,mem_map->bY,length_drop->aS,set_append_right->iP
open Nat renaming zero_le->aA,le_trans->aN,lt_succ_self->lK,min_eq_left->bT,lt_or_ge->ep,le_refl->af,sub_self->dm,succ_ne_zero->dS,zero_add->bG
open Int renaming toNat_natCast->cK
open World renaming size_alloc->aY,block_lt_of_cell?->bA
section
open Go.RowKit Lib
def jx (pg:Ξ) (num:Nat) (cH:List (Tr.Tx×Tr.Tx)) (pages:Δ):Prop:=
 (num=0/\cH=[]/\pages=[])\/∃(k:Nat) (t:Tr.E (k+1)) (page:Nat),num=page+1/\(Tr.hd t).page=av page/\k<=15/\cZ pg (k+1) t/\Tr.Ok (k+1) [] aK t/\cH=Tr.cH k (Tr.its t)/\pages=Tr.cF (k+1) t/\pages.Nodup
structure Kh (pg cy:Ξ) (pages pages':Δ):Prop where
 len:cy.length=pg.length
 same:∀x,x∉pages->x∉pages'->cy.getD x aK=pg.getD x aK
 left:∀x∈pages,x∉pages'->cy.getD x aK=aK
 lZ:∀x∈pages',x∉pages->pg.getD x aK=aK
 used:Rm.used cy+pages.length=Rm.used pg+pages'.length
structure G1 (pg cy:Ξ) (l:Δ):Prop where
 len:cy.length=pg.length
 at_:∀x,cy.getD x aK=if x∈l then aK else pg.getD x aK
 used:Rm.used cy+l.length=Rm.used pg
theorem G1.next {pg cy:Ξ} {l:Δ} {x:Nat} (h:G1 pg cy l) (H:(cy.getD x aK).isSome=true):G1 pg (cy.set x aK) (l++[x]):=by
 have hl:=cU H;refine⟨by rw[bV];exact h.len,fun y=> ?_, ?_⟩
 ·rw[qA hl,h.at_ y];by_cases e:y=x;·subst e;simp
  ·grind
 ·have a:=m7 (pg:=cy) (p:=x) (o:=aK) hl;rw[if_pos H] at a;have b:=h.used;rw[aq];simp at a |-;omega
theorem On {pg h_ p:Ξ} {pages pages' sp al:Δ} (h:jB pg h_ pages' al) (hp:(pages'++sp).Perm (pages++al)) (hf:G1 h_ p sp) (hn:pages.Nodup) (f:∀x∈pages,(pg.getD x aK).isSome=true):
  Kh pg p pages pages'/\(pages'++sp).Nodup/\∀x∈pages',p.getD x aK=h_.getD x none:=by
 have d:(pages'++sp).Nodup:=(hp.nodup_iff).2 (aP.2 ⟨hn,h.nd,fun a ha b g e=>by
  subst e;have:=f a ha;rw[(h.free a g).1] at this;cases this⟩)
 have hd:=(aP.1 d).2.2;refine⟨⟨hf.len.trans h.len,fun x H c=> ?_,fun x H c=> ?_,fun x H c=> ?_, ?_⟩,d,fun x i=> ?_⟩
 ·rw[hf.at_ x];by_cases hs:x∈sp
  ·rw[if_pos hs];have:=(hp.mem_iff (a:=x)).1 (ah.2 (dc hs));rcases ah.1 this with h3|h3;·exact absurd h3 H
   ·exact (h.free x h3).1.symm
  ·rw[if_neg hs];exact h.same x c
 ·have:=(hp.mem_iff (a:=x)).2 (ah.2 (cS H));rcases ah.1 this with h3|h3;·exact absurd h3 c
  ·rw[hf.at_ x,if_pos h3]
 ·have:=(hp.mem_iff (a:=x)).1 (ah.2 (cS H));rcases ah.1 this with h3|h3;·exact absurd h3 c
  ·exact (h.free x h3).1
 ·have H:=hf.used;have c:=h.used;have h3:=hp.length_eq;rw[aq,aq] at h3;omega
 ·rw[hf.at_ x,if_neg fun hs=>hd x i x hs rfl]
theorem iJ:∀{l:Δ} {k n:Nat},l.getD k 0=n->k<l.length->l.set k n=l
 |[],_,_,_,h=>χ
 |a::l,0,n,h,_=>by
  have h:a=n:=h;rw[h];rfl
 |a::l,k+1,n,h,hl=>by
  show a::l.set k n=a::l;rw[iJ (l:=l) h (by simpa using hl)]
section
variable {E:Ev} {X0 X X' V:World} {R0 R R':Φ} {ps:Γ} {pg:Ξ} {rt:Δ} {M M':Nat->Option NV} {k q sb:Nat} {sv:Value} {tgt:List (Tr.Tx×Tr.Tx)} {pages sp:Δ}
def mA (E:Ev) (X0:World) (R0:Φ) (ps:Γ) (pg:Ξ) (rt:Δ) (tgt:List (Tr.Tx×Tr.Tx)) (pages:Δ) (c:Int) (X':World):Prop:=
 c=0/\∃R' M' ps' cy num pages',TS E X0 R0 R' ps' cy (rt.set E.place num) M' X'/\ps'.length<=ps.length+30000/\jx cy num tgt pages'/\Kh pg cy pages pages'
def FrP (E:Ev) (X0:World) (R0:Φ) (rt:Δ) (ps:Γ) (pg:Ξ) (sb:Nat) (tgt:List (Tr.Tx×Tr.Tx)) (pages:Δ) (num:Nat) (a:Option Addr) (L i:Nat) (X:World):Prop:=
 ∃R M p h_ P sp al pages' c,TS E X0 R0 R p P rt M X/\R sb/\L=sp.length/\i<=L/\p.length<=ps.length+17000+2*i/\jB pg h_ pages' al/\(pages'++sp).Perm (pages++al)/\jx h_ num tgt pages'/\G1 h_ P (sp.take i)/\
  aW X sb 226 [ptr E.tb,cx a L c]/\(0<L->∃g o,a=av ⟨g,o,aK⟩/\bg (eo ct) X g o (iF sp)/\R g)
theorem qD {pg cy:Ξ} {num:Nat} {l:List (Tr.Tx×Tr.Tx)} {pages:Δ} (h:jx pg num l pages) (hs:∀x∈pages,cy.getD x aK=pg.getD x aK):jx cy num l pages:=by
 rcases h with h|⟨k,t,page,a,b,h3,h4,c,d,H,e⟩;·exact cS h
 ·exact dc ⟨k,t,page,a,b,h3,gw h4 (by rw[<-H];exact hs),c,d,H,e⟩
theorem ke {pg:Ξ} {num:Nat} {l:List (Tr.Tx×Tr.Tx)} {pages:Δ} (h:jx pg num l pages):∀x∈pages,(pg.getD x aK).isSome=true:=by
 have a:∀{k:Nat} {t:Tr.E k},cZ pg k t->∀x∈Tr.cF k t,(pg.getD x aK).isSome=true:=by
  intro k;induction k with
  |zero=>intro t _ x H;cases H
  |succ k i=>
   intro t hs x H;obtain⟨⟨page,hp,_,B⟩,_,c⟩:=hs;rw[Tr.bE,hp] at H;rcases aM.1 H with rfl|H;·rw[B];rfl
   ·obtain⟨y,hy,b⟩:=List.mem_flatMap.1 H;exact i (c y hy) x b
 rcases h with⟨_,_,rfl⟩|⟨k,t,page,_,_,_,h4,_,_,rfl,_⟩;·intro x H;cases H
 ·exact a h4
theorem Oo {pg:Ξ} {num:Nat} {l:List (Tr.Tx×Tr.Tx)} {pages:Δ} (h:jx pg num l pages):num<=pg.length:=by
 rcases h with⟨rfl,_⟩|⟨k,t,page,rfl,hp,_,hs,_⟩;·exact aA _
 ·obtain⟨⟨W,H,_,B⟩,_⟩:=hs;rw[hp] at H;cases H;exact cU (by rw[B];rfl)
theorem Vr (O:E.place<16) (hn:pages.Nodup) (s:∀x∈pages,(pg.getD x aK).isSome=true) (hrl:rt.length=16) (hq:ps.length<=70000000) (Q:pg.length<=4096) {G:Int->Ψ} (T:∀c X,mA E X0 R0 ps pg rt tgt pages c X->G c X):
  Sto sb E.tb E.rb E.place (FrP E X0 R0 rt ps pg sb tgt pages) G:=by
 refine⟨?_, ?_⟩
 ·rintro num a L i X ⟨R,M,P,h_,p,sp,al,pages',c,f,m,rfl,hi,hl,d,A,n,l,H,Z⟩ k;obtain⟨g,o,rfl,U,hg⟩:=Z κ
  have t:(pages'++sp).Nodup:=(A.nodup_iff).2 (aP.2 ⟨hn,d.nd,fun a ha b C e=>by
   subst e;have:=s a ha;rw[(d.free a C).1] at this;cases this⟩)
  have V:=(aP.1 t).2.1;have D:(h_.getD sp[i] aK).isSome=true:=by
   have:=(A.mem_iff (a:=sp[i])).1 (ah.2 (dc (bp k)));rcases ah.1 this with h3|h3;·exact d.keeps (s _ h3)
   ·exact d.lZ _ (dc h3)
  have hx2:(p.getD sp[i] aK).isSome=true:=by
   rw[l.at_,if_neg];·exact D
   ·intro hm;obtain⟨j,hj,e⟩:=List.mem_iff_getElem.1 hm;rw[aJ] at hj;rw[List.getElem_take] at e;have:=(List.nodup_iff_pairwise_ne.1 V);have h9:=gh.1 this j i κ k κ;exact h9 e
  have hxl:=cU hx2;have YJ:sp.length<=4096:=by
   refine aN (fU V fun x F=> ?_) Q;have:=(A.mem_iff (a:=x)).1 (ah.2 (dc F));rcases ah.1 this with h3|h3;·exact cU (s x h3)
   ·exact (d.free x h3).2
  have hcell:X.cell? ⟨g,o+i,aK⟩=av (bf ct ((sp[i]:Nat):Int)):=by have u:i<(iF sp).length:=(by unfold iF;rw[aL];exact k);have:=U.at i 0 ξ u (bf ct ((iF sp)[i])) rfl;have e:(iF sp)[i]?=av ((sp[i]:Nat):Int):=(by unfold iF;rw[cY,aI k];rfl);rw[aI u] at e;rw[Option.some.inj e,show o+(i*(eo ct).size+0)=o+i from by show o+(i*1+0)=o+i;omega] at this;exact this
  refine⟨H.cell (j:=0) rfl,f.tree.cell (j:=0) rfl,g,o,(sp[i]:Nat),rfl,hcell, ?_⟩;refine (NA f.rm (sp[i]:Nat) κ).mono ?_;rintro e X' ⟨rfl,Y,⟨OQ,_⟩,y,B⟩;have v:Rm.refuse p (sp[i]:Nat)=0:=by unfold Rm.refuse;rw[if_pos ⟨κ,κ⟩,cK,if_pos hx2]
  have Tb:Rm.uR p (sp[i]:Nat)=p.set sp[i] none:=by unfold Rm.uR;rw[if_pos v,cK]
  rw[Tb] at y;refine⟨by rw[v],R,M,Y,h_,_,sp,al,pages',c,f.zZ y B,m,rfl,k,κ,d,A,n, ?_,H.but B fun h=>h m,fun _=>⟨g,o,rfl,U.but B fun h=>h hg,hg⟩⟩;rw[cz k];exact l.next hx2
 ·rintro num a L X ⟨R,M,P,h_,p,sp,al,pages',c,f,m,rfl,hi,hl,d,A,n,l,H,Z⟩;rw[List.take_length] at l;obtain⟨q,I,r⟩:=On d A l hn s;have J:=qD n r;have w:Below X.heap.size X X.drew:=(Below.refl _ X).drew;have K:=f.still w (fun _ h=>h) (fun _ h=>cS h);have YJ:sp.length<=4096:=by
   refine aN (fU (aP.1 I).2.1 fun x F=> ?_) Q;have:=(A.mem_iff (a:=x)).1 (ah.2 (dc F));rcases ah.1 this with h3|h3;·exact cU (s x h3)
   ·exact (d.free x h3).2
  refine⟨H.cell (j:=0) rfl,f.tree.cell (j:=0) rfl,f.tree.cell (j:=1) rfl, ?_⟩;refine (rA K.rm E.place O).mono ?_;rintro e X' ⟨rfl,C⟩;have W:Below X.heap.size X X':=w.trans C;have z:=f.still W (fun _ h=>h) (fun _ h=>cS h);have S:=H.below W H.lt;refine⟨rt.getD E.place 0,rfl,S.cell (j:=0) rfl,z.tree.cell (j:=0) rfl,z.tree.cell (j:=1) rfl,fun he=> ?_,fun hne=> ?_⟩;·refine T _ _ ⟨rfl,R,M,P,p,num,pages', ?_,κ,J,q⟩;rw[iJ he κ];exact z
  ·have aT:Below X'.heap.size X' X'.drew:=(Below.refl _ X').drew;have AE:=z.still aT (fun _ h=>h) (fun _ h=>cS h);have uL:=S.below aT S.lt;have hnm:=Oo J;have Nf:=q.len;refine (uS AE.rm E.place num O κ κ).mono ?_;rintro e iG ⟨rfl,Y,⟨OQ,_⟩,y,B⟩;have N:=AE.zZ y B;have uF:=uL.but B fun h=>h m;exact⟨rfl,uF.cell (j:=0) rfl,N.tree.cell (j:=0) rfl,N.tree.cell (j:=1) rfl,T _ _ ⟨rfl,R,M,Y,p,num,pages',N,κ,J,q⟩⟩
end
section
variable {E:Ev} {X0 X X' V w:World} {R0 R R':Φ} {ps:Γ} {pg:Ξ} {rt:Δ} {M M':Nat->Option NV} {k q sb:Nat} {sv:Value} {tgt:List (Tr.Tx×Tr.Tx)} {pages sp:Δ} {K:Nat} {T:Tr.E (K+1)}
def Done (E:Ev) (X0:World) (R0:Φ) (ps:Γ) (pg:Ξ) (rt:Δ) (tgt:List (Tr.Tx×Tr.Tx)) (pages:Δ) (c:Int) (X':World):Prop:=
 mA E X0 R0 ps pg rt tgt pages c X'\/(c=4/\pg.length<Rm.used pg+20/\∃R' M',TS E X0 R0 R' ps pg rt M' X')
def G2 (B:Nat) (E:Ev) (X0:World) (R0:Φ) (ps:Γ) (pg:Ξ) (rt:Δ) (tgt:List (Tr.Tx×Tr.Tx)) (pages:Δ) (c:Int) (X':World):Prop:=
 mA E X0 R0 ps pg rt tgt pages c X'\/(c=4/\pg.length<Rm.used pg+B/\∃R' M',TS E X0 R0 R' ps pg rt M' X')
theorem nY:∀pg:Ξ,Rm.used pg<=pg.length:=fun pg=>by unfold Rm.used;exact List.length_filter_le _ _
def OS (d:Nat):Nat:=if d=0 then 0 else 20
theorem Oq {v:Value} {c:Tr.E (k+1)} (hN:LK E X0 R0 ps pg rt sb k c sp v X) (D:(Tr.cF (k+1) c++sp).Perm pages) (R:Tr.cH k (Tr.its c)=tgt) {d:Nat} (hnw:Tr.fV (k+1) c<=17) (hqt:d=0->Tr.fV (k+1) c=0/\Tr.sz k (Tr.its c)<=510) (hn:pages.Nodup) (z:∀x∈pages,(pg.getD x aK).isSome=true) (ef:E.place<16) (hq:ps.length<=60000000):
  Calls prog 139 #[ptr sb,v] X fun e X'=>(e=c8 (bf ct 0)/\G2 (OS d) E X0 R0 ps pg rt tgt pages 0 X')\/(e=c8 (bf ct 4)/\X'.cell? ⟨E.tb,0,aK⟩=av (dr (av ⟨E.rb,0,aK⟩))/\Calls prog 92 #[ptr E.rb,bf ct ps.length] X' fun e iG=>e=c8 (ec #[])/\G2 (OS d) E X0 R0 ps pg rt tgt pages 4 iG):=by
 obtain⟨R',M',fI,sp',f,hv⟩:=hN;have H:=f.ts.rm;have V:pg.length<=4096:=H.rep.few;have oK:pg.length<=65536:=aN H.rep.few ξ;have n:=f.sw;have hG:∀c X,mA E X0 R0 ps pg rt tgt pages c X->(fun (c:Int) X=>mA E X0 R0 ps pg rt tgt pages c X\/(c=4/\GB E X0 R0 rt ps pg 4200 (OS d) X)) c X:=fun _ _ h=>cS h;have S:=Vr (sb:=sb) (tgt:=tgt) ef hn z H.rep.tO κ V hG;have fin:∀{e:Ending} {X':World},(∃c:Int,e=c8 (bf ct c)/\(mA E X0 R0 ps pg rt tgt pages c X'\/(c=4/\GB E X0 R0 rt ps pg 4200 (OS d) X')))->(e=c8 (bf ct 0)/\G2 (OS d) E X0 R0 ps pg rt tgt pages 0 X')\/(e=c8 (bf ct 4)/\X'.cell? ⟨E.tb,0,aK⟩=av (dr (av ⟨E.rb,0,aK⟩))/\Calls prog 92 #[ptr E.rb,bf ct ps.length] X' fun e iG=>e=c8 (ec #[])/\G2 (OS d) E X0 R0 ps pg rt tgt pages 4 iG):=by
  rintro e X' ⟨c,rfl,h|⟨rfl,R2,M2,p,P,m,q,hl,F⟩⟩;·have hc:=h.1;subst hc;exact cS ⟨rfl,cS h⟩
  ·refine dc ⟨rfl,m.tree.cell (j:=0) rfl,(NC m.rm q κ H.rep H.pos).mono ?_⟩;rintro e iG ⟨rfl,hr,hb⟩;exact⟨rfl,dc ⟨rfl,F,R2,M2,m.zZ hr hb⟩⟩
 obtain⟨a,cc,b,T,zb⟩:=n.sp;have YI:sp'.length<=4096->(iF sp').length<=70000:=fun h=>by unfold iF;rw[aL];omega
 have W:(iF sp').length=sp'.length:=by unfold iF;rw[aL]
 rcases hv with⟨rfl,Z,hsp⟩|⟨r,k',c',F',rfl,R_,hF,s,hk,G,Y,J1,ae4⟩
 ·have Bn:Tr.cF (k+1) c=(Tr.hd c).page.toList:=by rw[Tr.bE,Z];simp[Tr.ed]
  have I:sp'.Perm pages:=zaB
  have ZF:sp'.length<=4096:=aN (fU ((I.nodup_iff).2 hn) fun x i=>cU (z x ((I.mem_iff).1 i))) V;have J:tgt=[]:=by rw[<-R,Z];exact Tr.me k
  rw[W] at b T
  have K:FrP E X0 R0 rt ps pg sb tgt pages 0 a sp'.length 0 X:=⟨R',M',ps,pg,pg,sp',[],[],cc,f.ts,f.yj.1,rfl,aA _,κ,jB.refl pg,by simpa using I,cS ⟨rfl,J,rfl⟩,⟨rfl,fun x=>ν,ν⟩,b,fun hpos=>by
   obtain⟨g,o,e,L,hg,_⟩:=zb (by intro e;rw[<-W,e] at hpos;cases hpos);exact⟨g,o,e,L,hg⟩⟩
  refine (J8 S (b.cell (j:=1) rfl) κ T K).mono ?_;intro e X' h;exact fin h
 ·have l:(Tr.cF (k'+1) c'++sp').Nodup:=(Y.nodup_iff).2 ((D.nodup_iff).2 hn);have t:∀x∈Tr.cF (k'+1) c'++sp',(pg.getD x aK).isSome=true:=fun x i=>z x ((D.mem_iff).1 ((Y.mem_iff).1 i));have q9:(Tr.cF (k'+1) c').length<=4096:=aN (fU (aP.1 l).1 fun x i=>cU (t x (ah.2 (cS i)))) V;have aby:=Tr.y6 (k'+1) c';have M:=xH k' hk n R_ hF ⟨[],aK,s⟩ l t oK κ;refine (J9 S (M.mono ?_)).mono ?_
  ·rintro e X' ⟨c,rfl,⟨rfl,R2,p,P,M2,t',B,al,wr⟩|⟨rfl,R2,M2,p,P,h1,h2,h3,h4⟩⟩
   ·left;obtain⟨page,cO,rQ,Bx⟩:=wr.st.1;obtain⟨n',N,O⟩:=wr.at_;have c2:=(wr.sw.ts.mem.nd r n' N).c2;rw[O,cO] at c2;obtain⟨a2,C,U,A,YJ⟩:=wr.sw.sp;have u:(iF B).length=B.length:=(by unfold iF;rw[aL]);rw[u] at U A;have Q:(Tr.cF (k'+1) t'++B).Perm (pages++al):=wr.cF.trans ((Y.trans D).append_right al)
    have w:(Tr.cF (k'+1) t'++B).Nodup:=(Q.nodup_iff).2 (aP.2 ⟨hn,wr.pg.nd,fun x i y hy e=>by
     subst e;have:=z x i;rw[(wr.pg.free x hy).1] at this;cases this⟩)
    have hl2:B.length<=4096:=aN (fU (aP.1 w).2.1 fun x i=>by
     have:=(Q.mem_iff (a:=x)).1 (ah.2 (dc i));rcases ah.1 this with h3|h3;·grind
     ·exact (wr.pg.free x h3).2) V
    have hfw:=wr.few;refine⟨page,rfl,c2,rQ,a2,B.length,C,U.cell (j:=1) rfl,κ,A,R2,M2,p,P,P,B,al,Tr.cF (k'+1) t',C,wr.sw.ts,wr.sw.yj.1,rfl,aA _,κ,wr.pg,Q,dc ⟨k',t',page,rfl,cO,hk,wr.st,Tr.Sm.ok wr.sm s, ?_,rfl,(aP.1 w).1⟩,⟨rfl,fun x=>ν,ν⟩,U,fun hpos=> ?_⟩;·rw[<-R,<-G];exact Tr.Sm.cH wr.sm
    ·obtain⟨g,o,e,L,hg,_⟩:=YJ (by intro e;rw[<-u,e] at hpos;cases hpos);exact⟨g,o,e,L,hg⟩
   ·right
    exact⟨4,rfl,ξ,dc ⟨rfl,R2,M2,p,P,h1,h2,κ,by
     unfold OS
     split
     ·omega
     ·omega⟩⟩
  ·omega
structure LM (E:Ev) (X0:World) (R0 R:Φ) (ps:Γ) (pg:Ξ) (rt:Δ) (M:Nat->Option NV) (w:World) (leaf:Nat) (m:NV) (c0:Tr.E 1) (l:List (Tr.Tx×Tr.E 0)) (K:Nat) (T:Tr.E (K+1)) (path:Δ) (pre post:List (Tr.Tx×Tr.Tx)) (out:Δ) (pr:Nat):Prop where
 ts:TS E X0 R0 R ps pg rt M w
 above:jw M pg 0 leaf m.lo m.hi c0 K T path pre post out
 mS:M leaf=av m
 BB:m.level=0
 its:m.its=ak 0 l
 page:m.page=Cq (Tr.hd c0).page
 was:m.was=Tr.sz 0 (Tr.its c0)
 near:Tr.jz 0 m.lo (j8 m.hi) (Tr.mk ⟨(Tr.hd c0).page,true⟩ l)
 new:(Tr.hd c0).page.isSome=true\/(K=0/\l≠[])
 nd:(path++[leaf]).Nodup
 row:bg dA w pr 0 (leaf::path).reverse
 prR:R pr/\¬MB M pr
 pnd:(Tr.cF (K+1) T).Nodup
 taken:∀x∈Tr.cF (K+1) T,(pg.getD x aK).isSome=true
 abM:K<=15
theorem Sr {α:Type} (q p:α) (path:List α):(q::p::path).reverse.take ((p::path).length)=(p::path).reverse:=zaB
def YO (E:Ev) (X0:World) (R0:Φ) (ps:Γ) (pg:Ξ) (rt:Δ) (sb K:Nat) (T:Tr.E (K+1)) (tgt:List (Tr.Tx×Tr.Tx)) (pl:Δ) (pr d i:Nat) (X:World):Prop:=
 ∃(R':Φ) (M':Nat->Option NV) (sv:Value) (k q:Nat) (lo hi:List UInt8) (c0 c:Tr.E (k+1)) (path:Δ) (pre post:List (Tr.Tx×Tr.Tx)) (out F sp:Δ),path.length=i/\Zip E X0 R0 R' ps pg rt M' X sb sv k q lo hi c0 c K T path pre post tgt out F sp d/\d<=1/\(q::path).reverse=pl.take (i+1)/\bg dA X pr 0 pl/\R' pr/\¬MB M' pr/\pr≠sb/\sv.ownBlock≠av pr/\
  ((Tr.hd c).page.isSome=true\/(k=0/\Tr.its c≠[]))/\i<pl.length
theorem Kj {pl:Δ} {pr d i:Nat} (h:YO E X0 R0 ps pg rt sb K T tgt pl pr d i X):∀j,j<=i->X.cell? ⟨pr,j,aK⟩=av (dr (av ⟨pl.getD j 0,0,aK⟩)):=by
 obtain⟨R',M',sv,k,q,lo,hi,c0,c,path,pre,post,out,F,sp,a,z,t,e,G,_,_,_,_,_,b⟩:=h;intro j f;have H:j<pl.length:=κ
 have:=G.at j 0 ξ H (dr (av ⟨pl[j],0,aK⟩)) rfl;rw[show 0+(j*dA.size+0)=j from by show 0+(j*1+0)=j;omega] at this;rw[bC,aI H];exact this
theorem nH {pl:Δ} {i q:Nat} {path:Δ} (h:(q::path).reverse=pl.take (i+1)) (hl:path.length=i):pl.getD i 0=q:=by
 have H:(pl.take (i+1))[i]?=av q:=zaB
 rw[List.getElem?_take_of_lt (lK i)] at H;rw[bC,H];rfl
theorem YP {pl:Δ} {pr d:Nat} (Z:E.place<16) (hn:(Tr.cF (K+1) T).Nodup) (Y:∀x∈Tr.cF (K+1) T,(pg.getD x aK).isSome=true) (hq:ps.length<=60000000):
  Way sb E.tb E.rb pr pl.length ps.length (fun j=>pl.getD j 0) (fun i X=>YO E X0 R0 ps pg rt sb K T tgt pl pr d i X) (fun v X=>∃(k:Nat) (c:Tr.E (k+1)) (sp:Δ),LK E X0 R0 ps pg rt sb k c sp v X/\(Tr.cF (k+1) c++sp).Perm (Tr.cF (K+1) T)/\Tr.cH k (Tr.its c)=tgt/\Tr.fV (k+1) c<=17/\(d=0->Tr.fV (k+1) c=0/\Tr.sz k (Tr.its c)<=510)) (fun c X=>G2 (OS d) E X0 R0 ps pg rt tgt (Tr.cF (K+1) T) c X):=by
 refine⟨fun i X h=>Kj h, ?_, ?_, ?_, ?_, ?_⟩;·rintro i X ⟨R',M',sv,k,q,lo,hi,c0,c,path,pre,post,out,F,sp,H,z,u,J,G,a,b,h3,h4,f,C⟩;have w:Below X.heap.size X X.drew:=(Below.refl _ X).drew;exact⟨R',M',sv,k,q,lo,hi,c0,c,path,pre,post,out,F,sp,H,⟨z.ss.still w,z.above,z.Cr,z.mS,z.near,z.page,z.old,z.nd,z.cH,z.cF,z.fV,z.few,z.BB,z.quiet⟩,u,J,G.below w (z.ss.ts.NB pr a),a,b,h3,h4,f,C⟩
 ·rintro i X ⟨R',M',sv,k,q,lo,hi,c0,c,path,pre,post,out,F,sp,H,z,u,J,G,a,b,h3,h4,f,C⟩;cases path with
  |nil=>cases H
  |cons p path=>
   have l:path.length=i:=zaY;have g:pl.getD (i+1) 0=q:=nH J H;have n:(p::path).reverse=pl.take (i+1):=(by have e:=congrArg (fun x=>x.take (i+1)) J;rw[List.take_take,bT (Nat.le_succ _)] at e;rw[<-e,<-H];exact (Sr q p path).symm);have D:pl.getD i 0=p:=nH n l;rw[g,D];refine (Sk z).mono ?_;rintro e X' ⟨rfl,R2,M2,sv2,L,I,M,c',o,P,out',F',sp',z',st,N⟩;have r:=z.ss.ts.NB pr a;refine⟨rfl,R2,M2,sv2,k+1,p,L,I,M,c',path,o,P,out',F',sp',l,z',u,n,G.but st.but ?_,st.sub _ a,fun y=> ?_,h3,fun A=> ?_, ?_,κ⟩;·grind
   ·rcases st.mb _ y with y|y;·exact b y
    ·omega
   ·rcases st.sp _ A with A|A;·exact h4 A
    ·omega
   ·exact cS N
 ·rintro X ⟨R',M',sv,k,q,lo,hi,c0,c,path,pre,post,out,F,sp,H,z,u,J,G,a,b,h3,h4,f,C⟩;have O:path=[]:=ff.1 H;subst O;have g:pl.getD 0 0=q:=nH J rfl;rw[g];generalize Zx:([]:Δ)=pp at z;obtain⟨ss,above,Cr,⟨m,mS,was,Q,R⟩,near,page,old,nd,vi,S,Vo,few,BB,quiet⟩:=z;cases above with
  |up=>cases Zx
  |top=>
   have U:=(aP.1 nd).2.1;rw[cM] at S;have ae5:(Tr.cF (K+1) c).length+sp.length<=4096:=(by have B:=S.length_eq;rw[aq] at B;have h8:=fU hn fun x hx=>cU (Y x hx);have h9:=ss.ts.rm.rep.few;omega);refine (GZ (m:=m) ss Cr mS U near ⟨Q,R⟩ f BB (fun Mw=> ?_) κ).mono ?_
   ·rcases ep K 15 with r|hge;·exact r
    ·exfalso;obtain rfl:K=14+1:=by omega
     have V:Tr.its c≠[]:=(by intro e;rw[e] at Mw;have:Tr.sz (14+1) ([]:List (Tr.Tx×Tr.E (14+1)))=0:=rfl;omega);have w:=(Tr.oD 14 V near.2).2;have q9:=Tr.y6 (14+2) c;have hm2:2<=(Tr.its c).length:=by
      rcases ep 1 (Tr.its c).length with B|B;·exact B
      ·exfalso;have h8:=Tr.Df (jq near.2).2.2;omega
     have W:(2:Nat)^14=16384:=ξ;rw[W] at w;have ae6:(Tr.cF (14+2) c).length<=4096:=zaB;have ae7:Tr.fV (14+2) c<=17:=zaB;omega
   ·rintro e X' ⟨v,rfl,s⟩;refine⟨v,rfl,K,c,sp,s,S, ?_,κ,quiet⟩;rw[<-vi];simp
 ·rintro v X ⟨k,c,sp,⟨R',M',fI,sp',t,hv⟩,b,h3,h4,f⟩;exact⟨t.ts.tree.cell (j:=0) rfl,Ck t.ts.rm⟩
 ·rintro v X ⟨k,c,sp,a,b,h3,h4,f⟩;exact Oq a b h3 h4 f hn Y Z hq
end
theorem AF:∀l:List (Tr.Tx×Tr.E 0),Tr.lS 0 l=0
 |[]=>rfl
 |x::l=>by rw[Tr.fD,AF l];rfl
section
variable {E:Ev} {X0 w:World} {R0 R:Φ} {ps:Γ} {pg:Ξ} {rt:Δ} {M:Nat->Option NV} {leaf pr cap:Nat} {m:NV} {c0:Tr.E 1} {l:List (Tr.Tx×Tr.E 0)} {K:Nat} {T:Tr.E (K+1)} {path out:Δ} {pre post:List (Tr.Tx×Tr.Tx)}
theorem En (s:LM E X0 R0 R ps pg rt M w leaf m c0 l K T path pre post out pr) {W:World} (n:W=(w.setCell ⟨leaf,7,aK⟩ (ey true)).alloc (dg #[dr (av ⟨E.tb,0,aK⟩),cx aK 0 0] 226)) {d:Nat} (B:d<=1) (g:d=0->Tr.sz 0 l<=510/\(Tr.hd c0).page.isSome=true):
  YO E X0 R0 ps pg rt w.heap.size K T (pre++Tr.cH 0 l++post) (leaf::path).reverse pr d path.length W:=by
 obtain⟨a,H⟩:∃a:NV,a={m with fresh:=true}:=⟨_,rfl⟩;obtain⟨W1,o⟩:=ξx (w.setCell ⟨leaf,7,aK⟩ (ey true));rw[<-o] at n;have v:aE (fun b=>b=leaf) w W1:=by rw[o];exact (aE.refl (fun b=>b=leaf) w).setCell _ _ fun _=>rfl
 have i:W1.heap.size=w.heap.size:=by rw[o];exact World.size_setCell _ _ _
 have c:∀b,MB (upd M leaf a) b->MB M b:=by
  rintro b ⟨r,y,hr,p⟩;rcases aO hr with⟨rfl,rfl⟩|⟨_,hr⟩;·exact⟨_,m,s.mS,by rw[H] at p;exact p⟩
  ·exact⟨r,y,hr,p⟩
 have j:Mem W1 (upd M leaf a):=by rw[o];exact s.ts.mem.cell s.mS a 7 _ zaI zaI zaI zaI zaI zaK
 have C:TS E X0 R0 R ps pg rt (upd M leaf a) W1:=s.ts.own v (fun b _ e=>by rw[e];exact s.ts.lT leaf ⟨leaf,m,s.mS,cS rfl⟩) j (fun b f=>s.ts.lT b (c b f)) (fun _ h=>h) (fun _ h=>cS h);have z:Below W1.heap.size W1 W:=by rw[n];exact (Below.refl _ W1).alloc (af _) _
 have U:W.heap.size=w.heap.size+1:=by rw[n,aY,i]
 have D:TS E X0 R0 (fun b=>R b\/b=w.heap.size) ps pg rt (upd M leaf a) W:=C.still z (fun _ h=>cS h) (fun b f=>f.imp_right fun f=>⟨κ,κ⟩);have k:aW W w.heap.size 226 [ptr E.tb,cx aK 0 0]:=by rw[n,<-i];exact aW.new W1 _ _
 have F:=s.ts.NB pr s.prR.1;have G:=(s.ts.mem.lt s.mS).1;have q:SS E X0 R0 (fun b=>R b\/b=w.heap.size) ps pg rt (upd M leaf a) W w.heap.size (cx aK 0 0) (iF []):=⟨D,k,Own.nil _ _ _ _,⟨dc rfl,s.ts.but.size,fun t=>by have:=s.ts.mem.nA (c _ t);omega⟩,fun b f=>by cases f⟩;have u:leaf∉path:=fun h=>(aP.1 s.nd).2.2 leaf h leaf au rfl;have S:=s.above.level;have O:Tr.cF 1 (Tr.mk ⟨(Tr.hd c0).page,true⟩ l)=Tr.cF 1 c0:=by rw[Tr.bE,Tr.bE,vf,vf];rfl
 have A:¬MB (upd M leaf a) pr:=fun t=>s.prR.2 (c _ t);refine⟨fun b=>R b\/b=w.heap.size,upd M leaf a,cx aK 0 0,0,leaf,m.lo,m.hi,c0,Tr.mk ⟨(Tr.hd c0).page,true⟩ l,path,pre,post,out,[leaf],[],rfl,⟨q,s.above.frame fun r hr=>aX fun e=>u zaC,⟨a,bF _ _ _,⟨?_, ?_, ?_, ?_,fun e=>zaH⟩,by rw[H];exact s.its,rfl⟩,⟨a,bF _ _ _,by rw[H];exact s.was,zaI,zaI⟩,s.near,rfl,fun I=>⟨?_,fun _ _=>trivial⟩,s.nd,rfl, ?_, ?_, ?_,s.abM,fun hd=>⟨?_,(g hd).1⟩⟩,B, ?_, ?_,cS s.prR.1,A,κ,by simp[Value.ownBlock], ?_,ν⟩;·rw[H];exact s.BB
 ·rw[H];exact s.page
 ·rw[H];rfl
 ·rw[H];exact s.near
 ·rcases s.new with h|⟨h,_⟩;·exact h
  ·grind
 ·rw[bh,O];exact s.above.cF
 ·rw[Tr.b7,AF]
  split
  ·omega
  ·simp_all;omega
 ·have L:=fU s.pnd fun x J=>cU (s.taken x J);have N:=s.ts.rm.rep.few;omega
 ·rw[Tr.b7,AF,if_pos (show (Tr.hd (Tr.mk ⟨(Tr.hd c0).page,true⟩ l)).page.isSome=true from (g hd).2)]
 ·grind
 ·refine (s.row.but v fun e=>s.prR.2 ⟨leaf,m,s.mS,cS e⟩).below z κ
 ·exact s.new.imp_right fun h=>⟨rfl,h.2⟩
theorem AG (s:LM E X0 R0 R ps pg rt M w leaf m c0 l K T path pre post out pr) (p:ps.length<=60000000) (q:E.place<16):
  Calls prog 90 #[ptr E.tb,cx (av ⟨pr,0,aK⟩) (path.length+1) cap] w fun e w'=>∃c:Int,e=c8 (bf ct c)/\Done E X0 R0 ps pg rt (pre++Tr.cH 0 l++post) (Tr.cF (K+1) T) c w'/\(Tr.sz 0 l<=510->(Tr.hd c0).page.isSome=true->c=0):=by
 obtain⟨d,t,k,n⟩:∃d:Nat,d<=1/\(d=0->Tr.sz 0 l<=510/\(Tr.hd c0).page.isSome=true)/\(Tr.sz 0 l<=510->(Tr.hd c0).page.isSome=true->d=0):=by
  by_cases h:Tr.sz 0 l<=510/\(Tr.hd c0).page.isSome=true;·simp_all
  ·exact⟨1,af _,fun e=>zaH,fun b a=>absurd ⟨b,a⟩ h⟩
 have S:=s.above.level;have r:=s.abM;have o:=YP (E:=E) (X0:=X0) (R0:=R0) (rt:=rt) (T:=T) (tgt:=pre++Tr.cH 0 l++post) (sb:=w.heap.size) (pl:=(leaf::path).reverse) (pr:=pr) (d:=d) q s.pnd s.taken p;have H:(leaf::path).reverse.length=path.length+1:=ν
 rw[H] at o;have Z:(leaf::path).reverse.getD path.length 0=leaf:=nH (path:=path) (by rw[bD ν]) rfl;have f:=s.ts.mem.nd leaf m s.mS;have hc:w.cell? ⟨pr,path.length,aK⟩=av (dr (av ⟨(leaf::path).reverse.getD path.length 0,0,aK⟩)):=by
  have g:path.length<(leaf::path).reverse.length:=zaT
  have:=s.row.at path.length 0 ξ g (dr (av ⟨(leaf::path).reverse[path.length],0,aK⟩)) rfl;rw[show 0+(path.length*dA.size+0)=path.length from by show 0+(path.length*1+0)=path.length;omega] at this;rw[bC,aI g];exact this
 refine (Gx o κ hc ?_ ?_ ?_).mono ?_;·rw[Z];exact⟨_,f.c7⟩
 ·rw[Z];exact f.blk.frozen 7
 ·intro W i;rw[Z] at i;exact En s i t k
 ·rintro e w' ⟨c,rfl,j⟩;refine⟨c,rfl, ?_,fun b a=> ?_⟩
  ·rcases j with h|⟨b,a,h3⟩;·exact cS h
   ·refine dc ⟨b, ?_,h3⟩;unfold OS at a
    split at a<;>omega
  ·rcases j with h|⟨_,h4,_⟩;·exact h.1
   ·have:=nY pg;rw[n b a] at h4;unfold OS at h4;rw[if_pos rfl] at h4;omega
end
theorem Kk {its:List It} (hs:QA its) (k:0<its.length) (n:(its[0]).key=[]) (key:List UInt8):∃a:Nat,xu its key=(a:Int)/\∃ha:a<its.length,Tr.le (its[a]).key key/\∀j (b:j<its.length),a<j->Tr.lt key (its[j]).key=true:=by
 obtain⟨p,hp⟩:=ξx (posOf its key);have Q:=zq its key;rw[<-hp] at Q;have f:∀t (h:t<its.length),t<p->Tr.lt (its[t]).key key=true:=by
  intro t h d;have H:t<(its.takeWhile fun i=>Tr.lt i.key key).length:=by rw[hp] at d;exact d
  have c:=List.all_eq_true.1 (List.all_takeWhile (p:=fun i:It=>Tr.lt i.key key) (l:=its)) _ (bp H);have h3:(its.takeWhile fun i=>Tr.lt i.key key)[t]=its[t]:=List.IsPrefix.getElem (List.takeWhile_prefix _) H;rw[h3] at c;exact c
 have hat:∀h:p<its.length,Tr.lt (its[p]).key key=false:=by
  intro h;have e:its=its.takeWhile (fun i=>Tr.lt i.key key)++its.dropWhile (fun i=>Tr.lt i.key key):=(List.takeWhile_append_dropWhile).symm;have hd:its.dropWhile (fun i=>Tr.lt i.key key)≠[]:=by intro hd;have:=congrArg List.length e;rw[hd,bh] at this;unfold posOf at hp;omega
  have H:=List.head_dropWhile_not (p:=fun i:It=>Tr.lt i.key key) (l:=its) hd;have c:(its.dropWhile (fun i=>Tr.lt i.key key)).head hd=its[p]:=by
   have h3:its[p]?=av ((its.dropWhile (fun i=>Tr.lt i.key key)).head hd):=by
    conv=>lhs;rw[e]
    rw[gO (by rw[hp];exact af _),hp];unfold posOf;rw[dm,<-List.head?_eq_getElem?,List.head?_eq_some_head hd]
   rw[aI h] at h3;exact (Option.some.inj h3).symm
  rw[c] at H;simpa using H
 have W:∀i j (hi:i<its.length) (b:j<its.length),i<j->Tr.lt (its[i]).key (its[j]).key=true:=fun i j hi b m=>gh.1 hs i j hi b m;by_cases d:eY its key=true
 ·have E:p<its.length/\∀h:p<its.length,(its[p]).key=key:=by grind [eY,ep,aI,List.getElem?_eq_none]
  refine⟨p,by unfold xu;rw[if_pos d,hp],E.1,by rw[E.2 E.1];exact Tr.le_refl _,fun j b g=> ?_⟩;have:=W p j E.1 b g
  rwa [E.2 E.1] at this
 ·have o:1<=p:=by
   rcases Nat.eq_zero_or_pos p with h|h
   ·exfalso;have H:=hat κ;subst h;rw[n] at H;have q:key=[]:=by
     cases key with
     |nil=>rfl
     |cons _ _=>cases H
    apply d;unfold eY;rw[<-hp,aI k];exact decide_eq_true (by rw[n,q])
   ·exact h
  have x:∀h:p<its.length,(its[p]).key≠key:=by grind [eY,aI]
  refine⟨p-1,by unfold xu;rw[if_neg d,<-hp];omega,κ,Tr.le_of_lt (f (p-1) κ κ),fun j b g=> ?_⟩;have E:p<its.length:=κ
  have H:Tr.lt key (its[p]).key=true:=by
   cases h:Tr.lt key (its[p]).key with
   |true=>rfl
   |false=>exact absurd (Tr.mY _ _ (hat E) h) (x E)
  rcases ep p j with c|c;·exact Tr.lt_trans H (W p j E b c)
  ·grind
section
variable {E:Ev} {X0 X X' V w:World} {R0 R R':Φ} {ps:Γ} {pg:Ξ} {rt:Δ} {M M':Nat->Option NV} {K:Nat} {T:Tr.E (K+1)} {key:List UInt8}
structure iD (E:Ev) (X0:World) (R0:Φ) (ps:Γ) (pg:Ξ) (rt:Δ) (key:List UInt8) (K:Nat) (T:Tr.E (K+1)) (lv q:Nat) (pv:Value) (X:World) (R:Φ) (M:Nat->Option NV) (m:NV) (c:Tr.E (lv+1)) (path:Δ) (pre post:List (Tr.Tx×Tr.Tx)) (out:Δ) (rl:Δ):Prop where
 ts:TS E X0 R0 R ps pg rt M X
 above:jw M pg lv q m.lo m.hi c K T path pre post out
 mS:M q=av m
 nG:lV pg lv m c
 its:m.its=ak lv (Tr.its c)
 own:m.own=true
 was:m.was=Tr.sz lv (Tr.its c)
 st:cZ pg (lv+1) c
 ok:Tr.Ok (lv+1) m.lo (j8 m.hi) c
 nd:(path++[q]).Nodup
 row:Aq X0.heap.size X pv rl
 Eo:∀b,pv.ownBlock=av b->R b/\¬MB M b
 YQ:∀p∈pre,Tr.lt p.1 key=true
 YR:∀p∈post,Tr.lt key p.1=true
 BB:K<=15
 Vt:Tr.le m.lo key
 Vu:Tr.xe key (j8 m.hi)
def LN (E:Ev) (X0:World) (R0:Φ) (ps:Γ) (pg:Ξ) (rt:Δ) (key:List UInt8) (K:Nat) (T:Tr.E (K+1)) (lv q:Nat) (pv:Value) (X:World):Prop:=
 ∃R M m c path pre post out,iD E X0 R0 ps pg rt key K T lv q pv X R M m c path pre post out (q::path).reverse
def Ss (E:Ev) (X0:World) (R0:Φ) (ps:Γ) (pg:Ξ) (rt:Δ) (key:List UInt8) (K:Nat) (T:Tr.E (K+1)) (lv q:Nat) (pv:Value) (X:World):Prop:=
 ∃R M m c path pre post out,iD E X0 R0 ps pg rt key K T lv q pv X R M m c path pre post out path.reverse
theorem Ot {lv q:Nat} {pw:Value} {R:Φ} {M:Nat->Option NV} {m:NV} {c:Tr.E (lv+1+1)} {path:Δ} {pre post:List (Tr.Tx×Tr.Tx)} {out:Δ} (f:iD E X0 R0 ps pg rt key K T (lv+1) q pw X R M m c path pre post out (q::path).reverse):
  Calls prog 130 #[ptr q,cu (bs key)] X fun e X'=>∃a:Nat,e=c8 (bf ct a)/\(∃v,X'.cell? ⟨q,6,aK⟩=av v)/\X'.frozen? ⟨q,6,aK⟩=false/\
   Calls prog 131 #[ptr E.tb,ptr q,bf ct a] (X'.setCell ⟨q,6,aK⟩ (bf ct a)) fun e iG=>∃q' nB,e=c8 (ec #[ptr q',bf ct 0])/\nB<lv+1/\Ss E X0 R0 ps pg rt key K T nB q' pw iG:=by
 have C:=f.ts.mem.nd q m f.mS
 have u:=(jq f.ok.2.2).1
 have D:m.its.length=(Tr.its c).length:=by rw[f.its];exact aL _
 have V:0<(Tr.its c).length:=d_.2 f.ok.1
 have G3:QA m.its:=Af (by rw[f.its,dB];exact u)
 have W:∀j (h:j<m.its.length),(m.its[j]).key=((Tr.its c)[j]' κ).1:=fun j h=>by
  have e:m.its[j]?=av ⟨((Tr.its c)[j]' κ).1,eG (lv+1) ((Tr.its c)[j]' κ).2,aK⟩:=by rw[f.its];unfold ak;rw[cY,aI κ];rfl
  rw[aI h] at e;rw[Option.some.inj e]
 have pY:(m.its[0]' κ).key=[]:=by
  rw[W 0 κ];have:=f.ok.2.2.1 ((Tr.its c)[0]) (by rw[List.head?_eq_getElem?,aI V])
  rwa [if_neg (dS lv)] at this
 obtain⟨a,wO,ha,hle,Y⟩:=Kk G3 κ pY key
 have hat:a<(Tr.its c).length:=κ
 refine (zv C G3 key).mono ?_
 rintro e X' ⟨rfl,o⟩
 have l:=f.ts.still o (fun _ h=>h) (fun _ h=>cS h)
 have qB:=C.still o
 rw[wO]
 refine⟨a,rfl,⟨_,qB.c6⟩,qB.blk.frozen 6, ?_⟩
 obtain⟨n1,H⟩:∃n1:NV,n1={m with at_:=(a:Int)}:=⟨_,rfl⟩
 have aT:aE (fun b=>b=q) X' (X'.setCell ⟨q,6,aK⟩ (bf ct a)):=(aE.refl (fun b=>b=q) X').setCell _ _ fun _=>rfl
 have F:∀b,MB (upd M q n1) b->MB M b:=by
  rintro b ⟨r,y,hr,i⟩;rcases aO hr with⟨rfl,rfl⟩|⟨_,hr⟩;·exact⟨_,m,f.mS,by rw[H] at i;exact i⟩
  ·exact⟨r,y,hr,i⟩
 have rS:TS E X0 R0 R ps pg rt (upd M q n1) (X'.setCell ⟨q,6,aK⟩ (bf ct a)):=l.own aT (fun b _ e=>by rw[e];exact l.lT q ⟨q,m,f.mS,cS rfl⟩) (l.mem.cell f.mS n1 6 _ zaI zaI zaI zaI zaI zaK) (fun b o=>l.lT b (F b o)) (fun _ h=>h) (fun _ h=>cS h)
 obtain⟨A,kc,c',B,hc,Z⟩:∃A kc c' B,Tr.its c=A++(kc,c')::B/\A.length=a:=⟨(Tr.its c).take a,((Tr.its c)[a]).1,((Tr.its c)[a]).2,(Tr.its c).drop (a+1),by rw[show (((Tr.its c)[a]).1,((Tr.its c)[a]).2)=(Tr.its c)[a] from rfl,mR,b_],zaE⟩
 subst Z
 have abO:(Tr.its c)[A.length]=(kc,c'):=zaB
 have S:cZ pg (lv+1) c':=f.st.2.2 (kc,c') (by rw[hc];exact ah.2 (dc au))
 have lP:∀x,x∈A\/x∈B->cZ pg (lv+1) x.2:=fun x k=>f.st.2.2 x (by
  rw[hc];rcases k with k|k;·grind
  ·exact ah.2 (dc (aH _ k)))
 obtain⟨page,cO,rQ,-⟩:=S.1
 have YS:n1.its=ak (lv+1) A++⟨kc,eG (lv+1) c',aK⟩::ak (lv+1) B:=by rw[H];show m.its=_;rw[f.its,hc,dD];rfl
 have hAI:(ak (lv+1) A).length=A.length:=aL _
 have hjn:A.length<n1.its.length:=by rw[YS,aq,a_,hAI];omega
 have WT:n1.its[A.length]=⟨kc,eG (lv+1) c',aK⟩:=zaB
 have adJ:lv<=15:=by have:=f.above.level;have:=f.BB;omega
 have RI:n1.its.map It.key=(Tr.its c).map (·.1):=by rw[H];show m.its.map It.key=_;rw[f.its,dB]
 have O:n1.lo=m.lo/\n1.hi=m.hi:=by rw[H];exact⟨rfl,rfl⟩
 have j_:Tr.Ok (lv+1) (fP n1 A.length) (j8 (eM n1 A.length)) c':=nC (n:=n1) (t:=c) (key:=kc) (by rw[O.1,O.2];exact f.ok.near) hc RI
 have nD:=iX adJ S cO j_
 have hval:n1.its[A.length].val=pv page:=by rw[WT];show pv ((Tr.hd c').page.getD 0)=_;rw[cO];rfl
 refine (wL rS (bF _ _ _) A.length hjn (by rw[WT]) page rQ hval lv (by rw[H];exact f.nG.level) (ak lv (Tr.its c')) nD).mono ?_
 rintro e iG ⟨q',rg,cap,R',rfl,U,O1,Vb,lM,hR,EE⟩
 have jk:n1.its.set A.length {(n1.its.getD A.length ⟨[],[],aK⟩) with node:=av q'}=ak (lv+1) A++⟨kc,eG (lv+1) c',av q'⟩::ak (lv+1) B:=zaB
 rw[jk] at U
 dsimp only at U
 have aax:(X'.setCell ⟨q,6,aK⟩ (bf ct A.length)).heap.size=X'.heap.size:=World.size_setCell _ _ _
 have Gh:=(rS.mem.lt (p:=q) (n:=n1) (bF _ _ _)).1
 have G:q'≠q:=κ
 obtain⟨N,d⟩:∃N:NV,N={n1 with its:=ak (lv+1) A++⟨kc,eG (lv+1) c',av q'⟩::ak (lv+1) B}:=⟨_,rfl⟩
 obtain⟨s,g⟩:∃s:NV,s=NV.got lv (ak lv (Tr.its c')) rg cap page (fP n1 A.length) (eM n1 A.length):=⟨_,rfl⟩
 rw[<-d,<-g] at U
 have I:N.its.map It.key=n1.its.map It.key:=zaB
 have hla:fP N A.length=fP n1 A.length:=CB I (by rw[d]) _
 have hha:eM N A.length=eM n1 A.length:=CD I (by rw[d]) _
 have YT:∀r∈path,upd (upd (upd M q n1) q' s) q N r=M r:=fun r hr=>by
  have h1:r≠q:=fun e=>(aP.1 f.nd).2.2 r hr q au e;have h2:r≠q':=fun e=>by obtain⟨y,hy⟩:=f.above.dom r hr;have:=(f.ts.mem.lt hy).1;have:=o.size;omega
  rw[aX h1,aX h2,aX h1]
 have J:c=Tr.mk (Tr.hd c) (A++(kc,c')::B):=by rw[<-hc];exact (Tr.Xk c).symm
 have hab:=f.above.frame YT
 have nu:jw (upd (upd (upd M q n1) q' s) q N) pg lv q' (fP N A.length) (eM N A.length) c' K T (q::path) (pre++Tr.cH (lv+1) A) (Tr.cH (lv+1) B++post) ((Tr.hd c).page.toList++(Tr.ed (lv+1) A++Tr.ed (lv+1) B)++out):=by
  refine .up (n:=N) (h:=Tr.hd c) (bF _ _ _) (by rw[d]) lP (by rw[d,H];exact f.own) ?_ (by rw[d,H]) ?_ ?_ f.st.2.1 ?_;·rw[<-J,d,H];exact⟨f.nG.level,f.nG.page,f.nG.fresh,f.nG.near,f.nG.held⟩
  ·rw[d,H,<-hc];exact f.was
  ·rw[<-hc];exact f.ok.2.1
  ·have e1:N.lo=m.lo:=(by rw[d,H]);have e2:N.hi=m.hi:=(by rw[d,H]);rw[<-J,e1,e2];exact hab
 have abQ:cJ (ak lv (Tr.its c'))=Tr.sz lv (Tr.its c'):=jo lv _
 have WU:=CE (n:=n1) (A:=A) (B:=B) (key:=kc) (c:=c') (by rw[O.1,O.2,<-hc];exact f.ok.2.2) (by rw[<-hc];exact RI)
 have L:Tr.le kc key:=by have:=hle;rw[W A.length ha,abO] at this;exact this
 have P:∀b B',B=b::B'->Tr.lt key b.1=true:=fun b B' e=>by
  have hj:A.length+1<m.its.length:=by rw[D,hc,e];simp
  have:=Y (A.length+1) hj κ;rw[W _ hj] at this;have e2:(Tr.its c)[A.length+1]' κ=b:=by have e3:(Tr.its c)[A.length+1]?=av b:=(by rw[hc,e,gO κ,show A.length+1-A.length=1 by omega];rfl);rw[aI κ] at e3;exact Option.some.inj e3
  rwa [e2] at this
 have lQ:=Tr.vZ (key:=key) (A:=A) (B:=B) (kc:=kc) (c:=c') (by rw[<-hc];exact f.ok.2.2) L P
 have ZV:aE (fun b=>MB M b) X iG:=((aE.aF o (fun b=>MB M b)).trans aT (fun b _ e=>by rw[e];exact⟨q,m,f.mS,cS rfl⟩)).trans lM (fun b _ e=>⟨q,m,f.mS,dc (by rw[e,H])⟩)
 have Vj:∀b,MB (upd (upd (upd M q n1) q' s) q N) b->MB M b\/X.heap.size<=b:=by
  have hs:=o.size;rintro b ⟨r,y,hr,i⟩;rcases aO hr with⟨rfl,rfl⟩|⟨_,hr⟩;·exact cS ⟨_,m,f.mS,by rw[d,H] at i;exact i⟩
  ·rcases aO hr with⟨rfl,rfl⟩|⟨_,hr⟩
   ·right;rcases i with rfl|i;·omega
    ·rw[g] at i;have i:b=rg:=i;omega
   ·exact cS (F b ⟨r,y,hr,i⟩)
 refine⟨q',lv,rfl,lK lv,R',_,s,c',q::path,pre++Tr.cH (lv+1) A,Tr.cH (lv+1) B++post,(Tr.hd c).page.toList++(Tr.ed (lv+1) A++Tr.ed (lv+1) B)++out,⟨U, ?_,by rw[aX G,bF], ?_,by rw[g];rfl,by rw[g];rfl,by rw[g];show ((cJ (ak lv (Tr.its c')):Nat):Int)=_;rw[abQ],S,by rw[g];exact j_, ?_, ?_,fun b Q=> ?_, ?_, ?_,f.BB, ?_, ?_⟩⟩
 ·have:s.lo=fP N A.length/\s.hi=eM N A.length:=by rw[g,hla,hha];exact⟨rfl,rfl⟩
  rw[this.1,this.2];exact nu
 ·rw[g];exact s9 S cO j_
 ·refine aP.2 ⟨?_,ν,fun x k y hy e=> ?_⟩;·have:=f.nd;exact cA.2 ⟨fun h=>(aP.1 this).2.2 q h q au rfl,(aP.1 this).1⟩
  ·rw[bB.1 hy] at e;rcases aM.1 k with k|k;·exact G (by rw[<-e,k])
   ·obtain⟨z,hz⟩:=f.above.dom x k;have:=(f.ts.mem.lt hz).1;have:=o.size;omega
 ·exact Own.but f.row ZV fun b Q w=>(f.Eo b Q).2 w
 ·refine⟨hR b (f.Eo b Q).1,fun w=> ?_⟩;rcases Vj b w with w|w;·exact (f.Eo b Q).2 w
  ·have:=(Own.block f.row b Q).2;omega
 ·intro p hp;rcases ah.1 hp with hp|hp;·exact f.YQ p hp
  ·exact lQ.1 p hp
 ·intro p hp;rcases ah.1 hp with hp|hp;·exact lQ.2 p hp
  ·exact f.YR p hp
 ·rw[g];show Tr.le (fP n1 A.length) key;rw[WU.1]
  split
  ·rw[O.1];exact f.Vt
  ·exact L
 ·rw[g];show Tr.xe key (j8 (eM n1 A.length));rw[WU.2];cases hB:B with
  |nil=>show Tr.xe key (j8 n1.hi);rw[O.2];exact f.Vu
  |cons b B'=>exact P b B' hB
theorem G5 {lv q:Nat} {pw:Value} (h:Ss E X0 R0 ps pg rt key K T lv q pw X):∃pl,Aq 0 X pw pl/\pl.length<=100/\∀W V W',W=X.alloc (dg #[dr (av ⟨q,0,aK⟩)] 165)->Aq 0 W' V (pl++[q])->W.grownBy W' pw.ownBlock->(V.ownBlock=pw.ownBlock\/∀k,V.ownBlock=av k->W.heap.size<=k)->LN E X0 R0 ps pg rt key K T lv q V W':=by
 obtain⟨R,M,m,c,path,pre,post,out,f⟩:=h;have S:=f.above.level;have hl:=f.BB;refine⟨path.reverse,f.row.mono (aA _),by rw[List.length_reverse];omega,fun W V W' v j hg l=> ?_⟩;have A:Below X.heap.size X W:=by rw[v];exact (Below.refl _ X).alloc (af _) _
 have r:=f.ts.still A (R':=R) (fun _ h=>h) (fun _ h=>cS h);have s:aE (fun b=>pw.ownBlock=av b) W W':=(aE.refl _ W).grown hg fun k e _=>e;have n:∀b,pw.ownBlock=av b->X0.heap.size<=b:=fun b H=>(Own.block f.row b H).1;have a:=r.mem.keep s fun b H hs=>(f.Eo b hs).2 H;have o:=Own.block j;have w:=A.size;have d:∀b,V.ownBlock=av b->R b\/W.heap.size<=b:=fun b H=>by
  rcases l with e|e;·rw[e] at H;exact cS (f.Eo b H).1
  ·exact dc (e b H)
 have x:TS E X0 R0 (fun b=>R b\/V.ownBlock=av b) ps pg rt M W':=r.own s (fun b _ H=>⟨(f.Eo b H).1,n b H⟩) a (fun b H=>⟨cS (r.lT b H).1,(r.lT b H).2⟩) (fun _ h=>cS h) (fun b H=>by
  rcases H with H|H;·exact cS H
  ·exact (d b H).imp_right fun h=>⟨h,(o b H).2⟩)
 have i:Aq X0.heap.size W' V (q::path).reverse:=by
  rw[List.reverse_cons];refine⟨j.1, ?_⟩;rcases j.2 with h|⟨g,cap,cur,t,_,h3⟩;·exact cS h
  ·refine dc ⟨g,cap,cur,t, ?_,h3⟩;have p:V.ownBlock=av g:=(by rw[t];rfl);rcases l with e|e;·grind
   ·have:=e g p;have:=f.ts.but.size;omega
 refine⟨_,M,m,c,path,pre,post,out,⟨x,f.above,f.mS,f.nG,f.its,f.own,f.was,f.st,f.ok,f.nd,i,fun b H=>⟨dc H,fun u=> ?_⟩,f.YQ,f.YR,f.BB,f.Vt,f.Vu⟩⟩;rcases l with e|e;·rw[e] at H;exact (f.Eo b H).2 u
 ·have:=e b H;have:=f.ts.mem.nA u;omega
theorem AH (h:TS E X0 R0 R ps pg rt (fun _=>aK) w) (r:E.place<16) {l:List (Tr.Tx×Tr.Tx)} {pages:Δ} (H:jx pg (rt.getD E.place 0) l pages) (key:List UInt8):
  Calls prog 87 #[ptr E.tb,cu (bs key)] w fun e w'=>(e=c8 (ec #[cx aK 0 0,bf ct 0])/\rt.getD E.place 0=0/\l=[]/\pages=[]/\Below w.heap.size w w')\/
   ∃(K:Nat) (T:Tr.E (K+1)) (q:Nat) (pw:Value),e=c8 (ec #[pw,bf ct 0])/\l=Tr.cH K (Tr.its T)/\pages=Tr.cF (K+1) T/\pages.Nodup/\LN E X0 R0 ps pg rt key K T 0 q pw w':=by
 rcases H with⟨t,s,g⟩|⟨K,T,page,s,g,h3,h4,i,u,v,x⟩
 ·refine (Cy (G0:=fun w'=>Below w.heap.size w w') (P:=fun _ _ _ _=>False) (Q:=fun _ _ _ _=>False) ⟨fun _ _ _ _ h=>h.elim,fun _ _ _ _ h=>h.elim⟩ ((qy h r t).mono fun e X hh=>cS hh)).mono ?_;rintro e w' (⟨rfl,d⟩|⟨q,pw,_,hf⟩);·grind
  ·exact hf.elim
 ·have N:=iX (lo:=[]) (hi:=[]) h3 h4 g i;have y:page<pg.length:=cU (by rw[N.page];rfl);have hF:Fnd E.tb (bs key) (LN E X0 R0 ps pg rt key K T) (Ss E X0 R0 ps pg rt key K T):=by
   refine⟨fun lv q pw X hp=> ?_,fun lv q pw X z=>G5 z⟩;obtain⟨R',M,m,c,path,pre,post,out,f⟩:=hp;have S:=f.above.level;have hl:=f.BB;have c0:=(f.ts.mem.nd q m f.mS).c0;rw[f.nG.level] at c0;refine⟨c0,κ,fun hpos=> ?_⟩;cases lv with
   |zero=>cases hpos
   |succ lv=>exact Ot f
  refine (Cy (G0:=fun _=>False) hF ((qz h r page K (ak K (Tr.its T)) s N y).mono ?_)).mono ?_
  ·rintro e X ⟨p,rg,cap,R',rfl,a,d,hp,G,I,J⟩;right;refine⟨p,K,rfl,fun W j=> ?_⟩;dsimp only at a;obtain⟨m,H⟩:=ξx (NV.got K (ak K (Tr.its T)) rg cap page [] []);rw[<-H] at a;have A:Below X.heap.size X W:=(by rw[j];exact (Below.refl _ X).alloc (af _) _);have B:W.heap.size=X.heap.size+1:=(by rw[j,aY]);have C:TS E X0 R0 (fun b=>R' b\/b=X.heap.size) ps pg rt (upd (fun _=>aK) p m) W:=a.still A (fun _ h=>cS h) (fun b d=>d.imp_right fun e=>⟨κ,κ⟩);have k:aW W X.heap.size 165 [dr (av ⟨p,0,aK⟩)]:=(by rw[j];exact aW.new X _ _);have n:jw (upd (fun _=>aK) p m) pg K p m.lo m.hi T K T [] [] [] []:=(by have D:m.lo=[]:=zaK;have F:m.hi=[]:=zaK;rw[D,F];exact .top);refine⟨_,_,m,T,[],[],[],[],⟨C,n,bF _ _ _,by rw[H];exact s9 h4 g i,zaK,zaK,by rw[H];show ((cJ (ak K (Tr.its T)):Nat):Int)=_;rw[jo],h4,by rw[H];exact i,ν, ?_,fun b d=> ?_,fun _ h=>χ,fun _ h=>χ,h3,by rw[H];exact Tr.nil_le _,by rw[H];trivial⟩⟩;·refine⟨rfl,dc ⟨X.heap.size,1,#[dr (av ⟨p,0,aK⟩)],rfl,a.but.size,k,af _,ξ,rfl, ?_⟩⟩;rfl
   ·have e:X.heap.size=b:=Option.some.inj d;subst e;exact⟨dc rfl,fun o=>by have:=a.mem.nA o;omega⟩
  ·rintro e w' (⟨_,hf⟩|⟨q,pw,rfl,hf⟩);·exact hf.elim
   ·exact dc ⟨K,T,q,pw,rfl,u,v,x,hf⟩
end
def gZ {σ:Type} {k:Nat} (v:Tr.E (k+1)->σ->σ×Bool) (hi:Tr.Tx):List (Tr.Tx×Tr.E (k+1))->σ->σ×Bool
 |[],s=>(s,true)
 |p::l,s=>if (!hi.isEmpty&& !Tr.lt p.1 hi)=true then (s,true) else if (v p.2 s).2=true then gZ v hi l (v p.2 s).1 else ((v p.2 s).1,false)
def visit {σ:Type} (f:(k:Nat)->Tr.E (k+1)->σ->σ×Bool) (lo hi:Tr.Tx):(k:Nat)->Tr.E (k+1)->σ->σ×Bool
 |0,c,s=>f 0 c s
 |k+1,c,s=>if (f (k+1) c s).2=true then gZ (visit f lo hi k) hi ((Tr.its c).drop (xu (ak (k+1) (Tr.its c)) lo).toNat) (f (k+1) c s).1 else ((f (k+1) c s).1,false)
theorem G6 {σ:Type} {f:(k:Nat)->Tr.E (k+1)->σ->σ×Bool} {lo hi:Tr.Tx} {k:Nat} {c:Tr.E (k+1)} {s:σ} (h:(f k c s).2=false):visit f lo hi k c s=((f k c s).1,false):=by
 cases k with
 |zero=>rw[<-h];rfl
 |succ k=>unfold visit;rw[if_neg (by rw[h];decide)]
def tw:(k:Nat)->Tr.E (k+1)->Nat
 |0,c=>1+(Tr.its c).length
 |k+1,c=>1+(Tr.its c).length+((Tr.its c).map fun p=>tw k p.2).sum
def Su {k:Nat} (l:List (Tr.Tx×Tr.E (k+1))):Nat:=(l.map fun p=>tw k p.2).sum
theorem vm {k:Nat} (p:Tr.Tx×Tr.E (k+1)) (l:List (Tr.Tx×Tr.E (k+1))):Su (p::l)=tw k p.2+Su l:=by unfold Su;rw[bI,mJ]
theorem AI {k:Nat}:∀(l:List (Tr.Tx×Tr.E (k+1))) (a:Nat),Su (l.drop a)<=Su l
 |[],a=>by rw[List.drop_nil];exact af _
 |p::l,0=>af _
 |p::l,a+1=>by rw[List.drop_succ_cons,vm];have:=AI l a;omega
theorem CL {σ:Type} {k:Nat} {v:Tr.E (k+1)->σ->σ×Bool} {sz:σ->Nat} (h:∀c s,sz (v c s).1<=sz s+tw k c) (hi:Tr.Tx):∀(l:List (Tr.Tx×Tr.E (k+1))) (s:σ),sz (gZ v hi l s).1<=sz s+Su l
 |[],s=>Nat.le_add_right _ _
 |p::l,s=>by
  unfold gZ;rw[vm];have H:=h p.2 s;have a:=CL h hi l (v p.2 s).1
  split
  ·grind
  ·grind
theorem G7 {σ:Type} {f:(k:Nat)->Tr.E (k+1)->σ->σ×Bool} {sz:σ->Nat} (h:∀k c s,sz (f k c s).1<=sz s+(1+(Tr.its c).length)) (lo hi:Tr.Tx):∀(k:Nat) (c:Tr.E (k+1)) (s:σ),sz (visit f lo hi k c s).1<=sz s+tw k c
 |0,c,s=>h 0 c s
 |k+1,c,s=>by
  have H:=h (k+1) c s;have a:tw (k+1) c=1+(Tr.its c).length+Su (Tr.its c):=rfl;unfold visit
  split
  ·have h3:=CL (G7 h lo hi k) hi ((Tr.its c).drop (xu (ak (k+1) (Tr.its c)) lo).toNat) (f (k+1) c s).1;have h4:=AI (Tr.its c) (xu (ak (k+1) (Tr.its c)) lo).toNat;omega
  ·grind
structure Nod (pg:Ξ) (k:Nat) (m:NV) (c:Tr.E (k+1)):Prop where
 level:m.level=k
 its:m.its=ak k (Tr.its c)
 page:m.page=Cq (Tr.hd c).page
 st:cZ pg (k+1) c
 ok:Tr.Ok (k+1) m.lo (j8 m.hi) c
section
variable {E:Ev} {X0 X X' X1 X2 Y V w:World} {R0 R R' R1 R2:Φ} {ps:Γ} {pg:Ξ} {rt:Δ} {M M' M1 M2:Nat->Option NV} {σ:Type} {s s1 s2:σ} {J:σ->(Φ)->(Nat->Option NV)->Ψ} {f:(k:Nat)->Tr.E (k+1)->σ->σ×Bool} {fn:Nat} {caps:Array Value} {sz:σ->Nat} {lo hi:Tr.Tx}
structure Acc (E:Ev) (X0:World) (R0:Φ) (ps:Γ) (pg:Ξ) (rt:Δ) (fn:Nat) (caps:Array Value) (f:(k:Nat)->Tr.E (k+1)->σ->σ×Bool) (sz:σ->Nat) (J:σ->(Φ)->(Nat->Option NV)->Ψ):Prop where
 incr:∀k c s,sz (f k c s).1<=sz s+(1+(Tr.its c).length)
 enter:∀(W:World) (args:Array Value),Sem.run prog (callFunc fn args) W=.ok (.enter fn args) W
 ts:∀s R M X,J s R M X->TS E X0 R0 R ps pg rt M X
 grow:∀s R M X R' M' X',J s R M X->TS E X0 R0 R' ps pg rt M' X'->Below X.heap.size X X'->(∀b,MB M' b->MB M b\/X.heap.size<=b)->(∀b,R b->R' b)->J s R' M' X'
 see:∀s R M X q k m c,J s R M X->M q=av m->Nod pg k m c->sz s<=100000000->Calls prog fn (#[ptr q]++caps) X fun e X'=>e=c8 (ey (f k c s).2)/\∃R',J (f k c s).1 R' M X'/\aE (fun b=>R b) X X'/\(∀b,R b->R' b)/\∀b,R' b->R b\/X.heap.size<=b
def EG (J:σ->(Φ)->(Nat->Option NV)->Ψ) (R:Φ) (M:Nat->Option NV) (X:World) (s:σ) (X':World):Prop:=
 ∃R' M',J s R' M' X'/\aE (fun b=>R b) X X'/\(∀b,R b->R' b)/\(∀b,R' b->R b\/X.heap.size<=b)/\∀r y,M r=av y->M' r=av y
theorem EG.of (H:J s R M X):EG J R M X s X:=⟨R,M,H,aE.refl _ _,fun _ h=>h,fun _ h=>cS h,fun _ _ h=>h⟩
theorem EG.back (h:EG J R M X1 s X2) (H:Below X.heap.size X X1):EG J R M X s X2:=by obtain⟨R',M',a,l,c,d,h3⟩:=h;exact⟨R',M',a,(aE.aF H (fun b=>R b)).trans l (fun _ _ h=>h),c,fun b A=>(d b A).imp_right fun h=>aN H.size h,h3⟩
theorem Acc.below (A:Acc E X0 R0 ps pg rt fn caps f sz J) (h:EG J R M X s X1) (H:Below X1.heap.size X1 X2):EG J R M X s X2:=by obtain⟨R',M',a,l,b,c,h3⟩:=h;exact⟨R',M',A.grow _ _ _ _ _ _ _ a ((A.ts _ _ _ _ a).still H (fun _ h=>h) (fun _ h=>cS h)) H (fun _ h=>cS h) (fun _ h=>h),l.trans (aE.aF H (fun _=>False)) (fun _ _ f=>f.elim),b,c,h3⟩
theorem G8 {k:Nat} {m:NV} {c:Tr.E (k+1)} (h:Nod pg k m c):QA m.its/\m.its.length=(Tr.its c).length/\∀j (a:j<m.its.length) (H:j<(Tr.its c).length),m.its[j]=⟨((Tr.its c)[j]).1,eG k ((Tr.its c)[j]).2,aK⟩:=by
 refine⟨Af (by rw[h.its,dB];exact (jq h.ok.2.2).1),by rw[h.its];exact aL _,fun j a H=> ?_⟩;have e:m.its[j]?=av ⟨((Tr.its c)[j]).1,eG k ((Tr.its c)[j]).2,aK⟩:=by rw[h.its];unfold ak;rw[cY,aI H];rfl
 rw[aI a] at e;exact Option.some.inj e
theorem Ov {k q:Nat} {m:NV} {c:Tr.E (k+1+1)} (H:TS E X0 R0 R ps pg rt M X) (g:M q=av m) (h:Nod pg (k+1) m c) (o:k+1<=15) (a:Nat) (ha:a<(Tr.its c).length):
  Calls prog 184 #[ptr E.tb,ptr q,bf ct a] X fun e X'=>∃q' d R',e=c8 (ec #[ptr q',bf ct 0])/\TS E X0 R0 R' ps pg rt (upd M q' d) X'/\Below X.heap.size X X'/\X.heap.size<=q'/\X.heap.size<=d.rg/\Nod pg k d ((Tr.its c)[a]).2/\(∀b,R b->R' b)/\∀b,R' b->R b\/X.heap.size<=b:=by
 obtain⟨hs,f,K⟩:=G8 h;have Q:a<m.its.length:=κ
 have G:cZ pg (k+1) ((Tr.its c)[a]).2:=h.st.2.2 _ (bp ha);obtain⟨page,C,r,-⟩:=G.1;have z:Tr.Ok (k+1) (fP m a) (j8 (eM m a)) ((Tr.its c)[a]).2:=by
  have hc:Tr.its c=(Tr.its c).take a++(((Tr.its c)[a]).1,((Tr.its c)[a]).2)::(Tr.its c).drop (a+1):=by grind [mR,b_]
  have:=nC (n:=m) (t:=c) h.ok.near hc (by rw[h.its,dB])
  rwa [aJ,bT (Nat.le_of_lt ha)] at this
 have N:=iX κ G C z;refine (qx H g a Q page r ?_ k h.level _ N).mono ?_;·rw[K a Q ha];show pv ((Tr.hd ((Tr.its c)[a]).2).page.getD 0)=_;rw[C];rfl
 ·rintro e X' ⟨p,rg,cap,R',rfl,Y,i,hp,w,j,l⟩;exact⟨p,_,R',rfl,Y,i,hp,w,⟨rfl,rfl,by rw[C];rfl,G,z⟩,j,l⟩
theorem Sv (A:Acc E X0 R0 ps pg rt fn caps f sz J) (lo hi:Tr.Tx):∀(k:Nat) (c:Tr.E (k+1)) (m:NV) (q:Nat) (s:σ) (R:Φ) (M:Nat->Option NV) (X:World),k<=15->J s R M X->M q=av m->Nod pg k m c->sz s+tw k c<=100000000->
  Calls prog 153 #[ptr E.tb,ptr q,eU #[cu (bs lo),cu (bs hi)],.func (.func fn) #[] caps] X fun e X'=>e=c8 (ec #[ey (visit f lo hi k c s).2,bf ct 0])/\EG J R M X (visit f lo hi k c s).1 X':=by
 intro k;induction k with
 |zero=>
  intro c m q s R M X U D u hn hB;refine (Cz (lv:=0) (G:=fun b X'=>b=(visit f lo hi 0 c s).2/\EG J R M X (visit f lo hi 0 c s).1 X') A.enter U ?_).mono ?_;·intro W F;have H:Below X.heap.size X W:=(by rw[F];exact (Below.refl _ X).alloc (af _) _);have d:=A.ts _ _ _ _ D;have v:=A.grow _ _ _ _ R M W D (d.still H (fun _ h=>h) (fun _ h=>cS h)) H (fun _ h=>cS h) (fun _ h=>h);have Y:aW W X.heap.size 168 [cu (bs lo),cu (bs hi)]:=(by rw[F];exact aW.new X _ _);refine (A.see _ _ _ _ q 0 m c v u hn κ).mono ?_;rintro e X1 ⟨rfl,R1,I,K,h1,h2⟩;have S:EG J R M X (visit f lo hi 0 c s).1 X1:=⟨R1,M,I,(aE.aF H (fun b=>R b)).trans K (fun _ _ h=>h),h1,fun b g=>(h2 b g).imp_right fun h=>aN H.size h,fun _ _ h=>h⟩;have L:=((A.ts _ _ _ _ I).mem.nd q m u).c0;rw[hn.level] at L;refine⟨_,rfl,fun hf=>⟨hf.symm,S⟩,fun ht=>⟨L,(Y.but K fun h=>Nat.lt_irrefl _ (d.NB _ h)).cell (j:=0) rfl,fun _=>⟨ht.symm,S⟩,fun h=>absurd h (Nat.lt_irrefl 0)⟩⟩
  ·rintro e w' ⟨b,rfl,rfl,h⟩;exact⟨rfl,h⟩
 |succ k ih=>
  intro c m q s R M X U D u hn hB;obtain⟨hs,hlen,kD⟩:=G8 hn;refine (Cz (lv:=k+1) (G:=fun b X'=>b=(visit f lo hi (k+1) c s).2/\EG J R M X (visit f lo hi (k+1) c s).1 X') A.enter U ?_).mono ?_
  ·intro W F;have H:Below X.heap.size X W:=(by rw[F];exact (Below.refl _ X).alloc (af _) _);have d:=A.ts _ _ _ _ D;have v:=A.grow _ _ _ _ R M W D (d.still H (fun _ h=>h) (fun _ h=>cS h)) H (fun _ h=>cS h) (fun _ h=>h);have Y:aW W X.heap.size 168 [cu (bs lo),cu (bs hi)]:=(by rw[F];exact aW.new X _ _);have N:¬R X.heap.size:=fun h=>Nat.lt_irrefl _ (d.NB _ h);refine (A.see _ _ _ _ q (k+1) m c v u hn κ).mono ?_;rintro e X1 ⟨rfl,R1,I,K,h1,h2⟩;have S:EG J R M W (f (k+1) c s).1 X1:=⟨R1,M,I,K,h1,h2,fun _ _ h=>h⟩;have w:=Y.but K N;have oX:=(A.ts _ _ _ _ I).mem.nd q m u;have L:=oX.c0;rw[hn.level] at L;refine⟨_,rfl,fun hf=> ?_,fun ht=>⟨L,w.cell (j:=0) rfl,fun h=>absurd h (dS k),fun _=> ?_⟩⟩;·rw[G6 hf];exact⟨rfl,S.back H⟩
   ·have O:0<(Tr.its c).length:=d_.2 hn.ok.1;have pY:(m.its[0]' κ).key=[]:=by
     rw[kD 0 κ O];have:=hn.ok.2.2.1 ((Tr.its c)[0]) (by rw[List.head?_eq_getElem?,aI O])
     rwa [if_neg (dS k)] at this
    obtain⟨a,wO,ha,-,-⟩:=Kk hs κ pY lo;have YW:visit f lo hi (k+1) c s=gZ (visit f lo hi k) hi ((Tr.its c).drop a) (f (k+1) c s).1:=by
     conv=>lhs;unfold visit
     rw[if_pos ht,<-hn.its,wO];rfl
    refine (zv oX hs lo).mono ?_;rintro e X2 ⟨rfl,aQ⟩;rw[wO];have B8:=oX.small;have ZE:m.its.length<=400:=B8.len;refine⟨a,rfl,κ,m.rg,m.ro,m.its.length,m.cap,fun a X'=>∃s',EG J R M W s' X'/\aW X' X.heap.size 168 [cu (bs lo),cu (bs hi)]/\a<=m.its.length/\gZ (visit f lo hi k) hi ((Tr.its c).drop a) s'=visit f lo hi (k+1) c s/\sz s'+Su ((Tr.its c).drop a)<=100000000,ZE,⟨?_⟩,⟨_,A.below S aQ,w.below aQ w.lt,κ,YW.symm, ?_⟩⟩;rotate_left;·have h3:=A.incr (k+1) c s;have h4:=AI (Tr.its c) a;have h5:tw (k+1) c=1+(Tr.its c).length+Su (Tr.its c):=rfl;omega
    rintro a X' ⟨s',i,V,haN,YD,uE⟩;obtain⟨R',M',l,Sy,g1,g2,Z⟩:=i;have i:EG J R M W s' X':=⟨R',M',l,Sy,g1,g2,Z⟩;have n:=(A.ts _ _ _ _ l).mem.nd q m (Z q m u);have P:Below X'.heap.size X' X'.drew:=(Below.refl _ _).drew;refine⟨V.cell (j:=0) rfl,V.cell (j:=1) rfl,n.c1,haN,n.small.cap.1,fun he=> ?_,fun x=> ?_⟩;·have:gZ (visit f lo hi k) hi ((Tr.its c).drop a) s'=(s',true):=(by rw[gj κ];rfl);rw[<-YD,this];exact⟨rfl,(A.below i P).back H⟩
    ·have z:a<(Tr.its c).length:=κ;have hit:=(bt n.row a x).1;have t:(m.its[a]).key=((Tr.its c)[a]).1:=(by rw[kD a x z]);have Au:(Tr.its c).drop a=(Tr.its c)[a]::(Tr.its c).drop (a+1):=cE z;rw[Au,vm] at uE;refine⟨_,hit,(ur _ lo hi _).mono ?_⟩;rintro e X3 ⟨rfl,b8⟩;have B:Below X'.heap.size X' X3:=P.trans (b8.mono (af _));have o:=V.below B V.lt;have Ed:=n.still B;refine⟨_,rfl,o.cell (j:=0) rfl,o.cell (j:=1) rfl,Ed.c1,(bt Ed.row a x).1,fun A9=> ?_,fun Hy=> ?_⟩;·have:gZ (visit f lo hi k) hi ((Tr.its c).drop a) s'=(s',true):=(by rw[Au];unfold gZ;rw[if_pos (by rw[<-t];exact A9)]);rw[<-YD,this];exact⟨rfl,(A.below i B).back H⟩
     ·have Ki:=(A.ts _ _ _ _ l).still B (fun _ h=>h) (fun _ h=>cS h);have hj3:=A.grow _ _ _ _ R' M' X3 l Ki B (fun _ h=>cS h) (fun _ h=>h);refine (Ov Ki (Z q m u) hn U a z).mono ?_;rintro e X4 ⟨q',m',R4,rfl,adK,p,hq4,hr4,Py,Q,h42⟩;have hmb:∀b,MB (upd M' q' m') b->MB M' b\/X3.heap.size<=b:=by
       rintro b ⟨r,y,hr,T⟩;rcases aO hr with⟨rfl,rfl⟩|⟨_,hr⟩;·right;rcases T with rfl|rfl<;>assumption
       ·exact cS ⟨r,y,hr,T⟩
      have hj4:=A.grow _ _ _ _ R4 (upd M' q' m') X4 hj3 adK p hmb Q;have OX:=o.below p o.lt;refine⟨q',rfl,OX.cell (j:=0) rfl,OX.cell (j:=1) rfl,(ih ((Tr.its c)[a]).2 m' q' s' R4 _ X4 κ hj4 (bF _ _ _) Py κ).mono ?_⟩;rintro e X5 ⟨rfl,R5,M5,hj5,dW,h51,h52,h53⟩;have QY:=B.size;have XR:=p.size;have ae8:=Sy.size;have UC:∀b,R4 b->R b\/W.heap.size<=b:=fun b g=>by
       rcases h42 b g with h|h;·exact g2 b h
       ·right;omega
      have WV:EG J R M W (visit f lo hi k ((Tr.its c)[a]).2 s').1 X5:=by
       refine⟨R5,M5,hj5,((Sy.trans (aE.aF B (fun _=>False)) (fun _ _ f=>f.elim)).trans (aE.aF p (fun _=>False)) (fun _ _ f=>f.elim)).trans dW (fun b oQ g=> ?_),fun b g=>h51 b (Q b (g1 b g)),fun b g=> ?_,fun r y hr=> ?_⟩
       ·rcases UC b g with h|h;·exact h
        ·omega
       ·rcases h52 b g with h|h;·exact UC b h
        ·right;omega
       ·refine h53 r y ?_;have h6:=Z r y hr;rw[aX (fun e=> ?_)];·exact h6
        ·have:=(Ki.mem.lt h6).1;omega
      have hx5:aW X5 X.heap.size 168 [cu (bs lo),cu (bs hi)]:=by
       refine OX.but dW fun h=> ?_;rcases UC _ h with h|h;·exact N h
       ·have:=Y.lt;omega
      have C:gZ (visit f lo hi k) hi ((Tr.its c).drop a) s'=if (visit f lo hi k ((Tr.its c)[a]).2 s').2=true then gZ (visit f lo hi k) hi ((Tr.its c).drop (a+1)) (visit f lo hi k ((Tr.its c)[a]).2 s').1 else ((visit f lo hi k ((Tr.its c)[a]).2 s').1,false):=by
       rw[Au]
       conv=>lhs;unfold gZ
       rw[if_neg (by rw[<-t,Hy];decide)]
      have hvs:=G7 A.incr lo hi k ((Tr.its c)[a]).2 s';refine⟨_,rfl,fun hvt=>⟨_,WV,hx5,κ, ?_,κ⟩,fun hvf=> ?_⟩;·grind
      ·rw[<-YD,C,if_neg (by rw[hvf];decide)];exact⟨rfl,WV.back H⟩
  ·rintro e w' ⟨b,rfl,rfl,h⟩;exact⟨rfl,h⟩
end
def kF:Elem (Tr.Tx×Tr.Tx):=⟨fun p=>[cu (bs p.1),cu (bs p.2)],2,ξ,fun _=>rfl,by
 intro a u hu
 simp only[aM,List.not_mem_nil,or_false] at hu
 rcases hu with rfl|rfl<;>rfl⟩
theorem Sz:dx prog 136 134 kF.size:=dx.of (size:=2) (bytes:=32) (z:=.agg #[.string .empty,.string .empty]) underlying136 η rfl ξ
abbrev qE (B:Nat) (w:World) (v:Value) (l:Tr.eO):Prop:=Own kF 134 B w v l
def eN (lim:Int) (lo hi:Tr.Tx) (s:Tr.eO) (p:Tr.Tx×Tr.Tx):Tr.eO:=if (s.length:Int)<lim/\hasB lo hi p.1=true then s++[p] else s
structure Sn (cb:Nat) (w0:World) (v0:Value) (s:Tr.eO) (v:Value) (X:World):Prop where
 blk:aW X cb 136 [v]
 own:qE 0 X v s
 but:aE (fun b=>b=cb\/v0.ownBlock=av b) w0 X
 new:v.ownBlock=v0.ownBlock\/∀b,v.ownBlock=av b->w0.heap.size<=b
theorem Sn.below {cb:Nat} {w0 X X':World} {v0 v:Value} {s:Tr.eO} (h:Sn cb w0 v0 s v X) (H:Below X.heap.size X X'):Sn cb w0 v0 s v X':=
 ⟨h.blk.below H h.blk.lt,Own.below h.own H (af _),h.but.trans (aE.aF H (fun _=>False)) (fun _ _ f=>f.elim),h.new⟩
theorem Sn.lit {cb:Nat} {w0 X:World} {v0 v:Value} {s:Tr.eO} (h:Sn cb w0 v0 s v X) (k V:List UInt8):Sn cb w0 v0 s v (X.alloc (dg #[.string (bs k),.string (bs V)] 134))/\bg kF (X.alloc (dg #[.string (bs k),.string (bs V)] 134)) X.heap.size 0 [(k,V)]:=
 ⟨h.below ((Below.refl _ X).alloc (af _) _),bg.dZ (aW.new X _ _) rfl⟩
structure Sa (cb:Nat) (w0:World) (v0:Value) (s:Tr.eO) (v v':Value) (X:World):Prop where
 blk:aW X cb 136 [v]
 own:qE 0 X v' s
 but:aE (fun b=>b=cb\/v0.ownBlock=av b) w0 X
 new:v'.ownBlock=v0.ownBlock\/∀b,v'.ownBlock=av b->w0.heap.size<=b
theorem Sn.app {cb:Nat} {w0 X X':World} {v0 v v':Value} {s s':Tr.eO} (h:Sn cb w0 v0 s v X) (c:qE 0 X' v' s') (hg:X.grownBy X' v.ownBlock) (d:v'.ownBlock=v.ownBlock\/∀k,v'.ownBlock=av k->X.heap.size<=k):Sa cb w0 v0 s' v v' X':=by
 have a:aE (fun k=>v.ownBlock=av k) X X':=(aE.refl _ X).grown hg fun k e _=>e;have g:=h.but.size;refine⟨h.blk.but a (Own.dh h.own h.blk ξ),c,h.but.trans a fun b f e=> ?_, ?_⟩
 ·rcases h.new with H|H;·exact dc (by rw[<-H];exact e)
  ·have:=H b e;omega
 ·rcases d with e|e;·rw[e];exact h.new
  ·exact dc fun b A=>by have:=e b A;omega
theorem Sa.fin {cb:Nat} {w0 X:World} {v0 v v':Value} {s:Tr.eO} (h:Sa cb w0 v0 s v v' X):Sn cb w0 v0 s v' (X.setCell ⟨cb,0,aK⟩ v'):=
 ⟨h.blk.set 0 _,Own.but h.own ((aE.refl (fun b=>b=cb) X).setCell _ _ fun _=>rfl) (fun g hg e=>Own.dh h.own h.blk ξ (by rw[hg,e])),h.but.setCell _ _ fun _=>cS rfl,h.new⟩
structure Sb (cb lb kb q:Nat) (lo hi:ByteArray) (lim:Int) (n:NV) (w0:World) (v0:Value):Prop where
 lim:w0.cell? ⟨lb,0,aK⟩=av (bf ct lim)
 ks:aW w0 kb 168 [cu lo,cu hi]
 nd:Nd w0 q n
 n1:∀b,(b=cb\/v0.ownBlock=av b)->b≠lb/\b≠kb/\b≠q/\b≠n.rg
theorem LP {N i:Nat} {its:List It} {s s1:Tr.eO} {lim:Int} {lo hi:Tr.Tx} (c:N=its.length) (a:i<N) (h:s1=((its.take i).map fun i=>((i.key,i.val):Tr.Tx×Tr.Tx)).foldl (eN lim lo hi) s) (hc:¬(s1.length:Int)<lim\/hasB lo hi (its[i]' κ).key=false):s1=((its.take (i+1)).map fun i=>((i.key,i.val):Tr.Tx×Tr.Tx)).foldl (eN lim lo hi) s:=by
 rw[cz κ,bM,List.foldl_append,<-h];show s1=eN lim lo hi s1 _;unfold eN;rw[if_neg];rintro⟨b,H⟩;rcases hc with hc|hc;·exact hc b
 ·rw[hc] at H;cases H
theorem SA {N i:Nat} {its:List It} {s s1:Tr.eO} {lim:Int} {lo hi:Tr.Tx} (c:N=its.length) (H:i<N) (h:s1=((its.take i).map fun i=>((i.key,i.val):Tr.Tx×Tr.Tx)).foldl (eN lim lo hi) s) (a:(s1.length:Int)<lim) (b:hasB lo hi (its[i]' κ).key=true):s1++[((its[i]' κ).key,(its[i]' κ).val)]=((its.take (i+1)).map fun i=>((i.key,i.val):Tr.Tx×Tr.Tx)).foldl (eN lim lo hi) s:=by rw[cz κ,bM,List.foldl_append,<-h];show _=eN lim lo hi s1 _;unfold eN;rw[if_pos ⟨a,b⟩]
theorem SB (w0:World) (cb lb kb q:Nat) (v0:Value) (s:Tr.eO) (lo hi:List UInt8) (lim:Int) (n:NV) (hB:Sb cb lb kb q (bs lo) (bs hi) lim n w0 v0) (hS:Sn cb w0 v0 s v0 w0) (hs:s.length<=100000000):
  Calls prog 103 #[ptr q,ptr cb,ptr lb,ptr kb] w0 fun e w'=>∃v s',e=c8 (.bool (decide ((s'.length:Int)<lim)))/\s'=(if n.level=0 then (n.its.map fun i=>((i.key,i.val):Tr.Tx×Tr.Tx)).foldl (eN lim lo hi) s else s)/\Sn cb w0 v0 s' v w':=by
 have B:=aa hB;have HS:=aa hS;have Py:=hB.nd.small.len;have jA:=aa (Je hB.nd);have vJ:=aa Py;have c0:=hS.blk.cell (j:=0) rfl;clear hB hS Py c0;unfold ptr at jA |-;by_cases h0:n.level=0
 ·simp only[h0,if_true] at jA |-;obtain⟨N,hN⟩:=ξx n.its.length;have Zu:(N:Int)<=400:=by have:=vJ.o;omega
  have C:=aa hN;rw[<-hN] at jA;have hNc:=aa (show N<=n.cap by rw[hN];exact B.o.nd.small.cap.1);have ae9:(N:Int)<=n.cap:=by have:=hNc.o;omega
  clear hN;go_enter func103,ntmps103;go_wp2_with fail;refine jA.o.mono ?_;rintro e w1 ⟨rfl,rfl⟩;go_wp2_with fail
  go_loopw [11] (fun iv wr=>∃(i:Nat) (s1:Tr.eO) (v1:Value),i<=N/\iv=.int ct i/\Hid (Sn cb w1 v0 s1 v1 wr/\s1.length<=s.length+i/\s1=((n.its.take i).map fun i=>((i.key,i.val):Tr.Tx×Tr.Tx)).foldl (eN lim lo hi) s)) (fun iv _=>N-(RowKit.intOf iv).toNat)
  case atStart=>exact⟨0,s,v0,aA _,rfl,aa ⟨HS.o,af _,by rw[List.take_zero];rfl⟩⟩
  case round=>
   obtain⟨i,s1,v1,hi4,rfl,m⟩:=hrel;have lM:=m.o.1.but;have cl:=lM.cell B.o.lim (fun h=>(B.o.n1 _ h).1 rfl);have r:=B.o.ks.but lM (fun h=>(B.o.n1 _ h).2.1 rfl);have E:=B.o.nd.but lM (fun h=>(B.o.n1 _ h).2.2.1 rfl) (fun h=>(B.o.n1 _ h).2.2.2 rfl);obtain⟨a1,cp1,EB,t⟩:=Own.slice m.o.1.own;obtain⟨R,U⟩:=ξx s1.length;rw[<-U] at EB t;subst EB;have O:=aa U;have cc:=m.o.1.blk.cell (j:=0) rfl;have fc:=m.o.1.blk.frozen 0;have adL:(R:Int)<=100001000:=(by have:=m.o.2.1;have:=vJ.o;omega);have k0:=r.cell (j:=0) rfl;have adM:=m.o.1.blk.lt;have abS:=r.lt;have Vw:=bA _ _ cl;have k1:=r.cell (j:=1) rfl;by_cases g:i<N
   ·have hI:(i:Int)<N:=κ;obtain⟨i0,i1,i2⟩:=bt E.row i zbu;obtain⟨d,H_⟩:=ξx ((n.its[i]' zbu).key);obtain⟨V,F⟩:=ξx ((n.its[i]' zbu).val);rw[<-H_] at i0;rw[<-F] at i1;have Y:=aa (And.intro H_ F);have w:=aa (show d.length<=200/\V.length<=200 by rw[H_,F];exact E.small.each _ (bp _));have HNX:=aa (And.intro E r);clear lM E r H_ F t U;by_cases T:(R:Int)<lim
    ·go_wp2_with fail;obtain⟨W,hW⟩:=ξx (wr.alloc (dg #[.string (bs d),.string (bs V),.pointer (pa (n.its[i]' zbu).node)] 175));obtain⟨ib,Z⟩:=ξx wr.heap.size;have hbW:Below wr.heap.size wr W:=(by rw[hW];exact (Below.refl _ wr).alloc (af _) _);have hI0:aW W ib 175 [.string (bs d),.string (bs V),.pointer (pa (n.its[i]' zbu).node)]:=(by rw[hW,Z];exact aW.new wr _ _);rw[<-hW,<-Z];have hSW:=m.o.1.below hbW;refine (qa W lo hi d).mono ?_;rintro e w2 ⟨rfl,aQ⟩;have c:=aa (hSW.below aQ);have I5:=hI0.below aQ hI0.lt;have H:=aa I5;have HR:=aa m.o.2;have y:cb≠ib:=κ;have j0:=I5.cell (j:=0) rfl;have j1:=I5.cell (j:=1) rfl;clear hW Z hbW hI0 hSW aQ I5 m cc cl k0 k1 i0 i1 i2 fc adM abS Vw;generalize xR:(!Tr.lt d lo&& !(!hi.isEmpty&& !Tr.lt d hi))=b;cases b with
     |false=>
      go_wp2_with fail;go_roundw
      case rel=>exact⟨i+1,s1,_,g,ς,aa ⟨c.o,by have:=HR.o.1;omega,LP C.o g HR.o.2 (dc (by rw[<-Y.o.1];exact xR))⟩⟩
      case measure=>simp[RowKit.intOf];omega
     |true=>
      go_wp2_with fail;go_wp2_with (refine wp_region_held_drew (S:=(fun X=>X.cell? ⟨ib,0,aK⟩=av (.string (bs d))/\X.cell? ⟨ib,1,aK⟩=av (.string (bs V)))) η ?_ (fun A=> ?_);focus skip;rotate_left;refine Hid.o ?_);refine aa ?_;·first|trivial|exact⟨j0,j1⟩
      replace c:=aa (c.o.below (Below.refl _ _).drew);replace H:=aa (H.o.drew);refine aR 1 A ?_;refine aR 2 A ?_;refine aR 3 A ?_;refine aR 5 A ?_;refine aR 6 A ?_;refine aR 7 A ?_;try simp only[Act.put,aC,aB,ay]
      refine fL [0,4] (AllReadyH.cons rfl (fun K a=> ?_) (fM fun K a=> ?_))
      focus
       have c0:=c.o.blk.cell (j:=0) rfl
       go_simp
       refine a.out _ _ A (fun A=> ?_);clear a K c0
       refine fL [4] (fM fun K a=> ?_)
       go_simp
       refine (jM (bs d) _ zbb).mono ?_
       rintro e w' ⟨rfl,l⟩
       replace c:=aa (c.o.below l)
       replace H:=aa (H.o.below l H.o.lt)
       refine a.out _ _ ⟨H.o.cell (j:=0) rfl,H.o.cell (j:=1) rfl⟩ (fun A=> ?_);clear a K l
       refine fL [8] (fM fun K a=> ?_)
       go_simp
       refine (jM (bs V) _ zbb).mono ?_
       rintro e w' ⟨rfl,l⟩
       replace c:=aa (c.o.below l)
       replace H:=aa (H.o.below l H.o.lt)
       refine a.out _ _ ⟨H.o.cell (j:=0) rfl,H.o.cell (j:=1) rfl⟩ (fun A=> ?_);clear a K l
       refine fL [9] (fM fun K a=> ?_)
       go_simp
       refine a.out _ _ A (fun A=> ?_);clear a K
       refine fL [10] (fM fun K a=> ?_)
       go_simp
       have D:=aa (c.o.lit d V)
       replace c:=aa D.o.1
       have I:=aa D.o.2
       replace H:=aa (H.o.alloc (dg #[.string (bs d),.string (bs V)] 134))
       clear D
       refine a.out _ _ ⟨H.o.cell (j:=0) rfl,H.o.cell (j:=1) rfl⟩ (fun A=> ?_);clear a K
       refine fL [11] (fM fun K a=> ?_)
       refine ia (K:=kF) Sz _ _ rfl rfl c.o.own (aA _) _ 0 1 1 [(d,V)] rfl rfl I.o zaD ?_
       intro v5 w5 p G x
       have f:=aa (c.o.app p G x)
       replace H:=aa (H.o.but ((aE.refl _ _).grown G (fun k e _=>e)) (Own.dh c.o.own H.o ξ))
       clear G x I
       obtain⟨J,Q,u,z⟩:=Own.slice p
       clear p c
       generalize L:(s1++[(d,V)]).length=M at u z
       clear L z
       subst u
       refine a.out _ _ ⟨H.o.cell (j:=0) rfl,H.o.cell (j:=1) rfl⟩ (fun A=> ?_);clear a K
       refine fL [12] (fM fun K a=> ?_)
       have c5:=f.o.blk.cell (j:=0) rfl
       have P:=f.o.blk.frozen 0
       go_simp
       have c:=aa f.o.fin
       replace H:=aa (H.o.but ((aE.refl (fun b=>b=cb) _).setCell ⟨cb,0,aK⟩ (.slice J M Q) fun _=>rfl) fun e=>y e.symm)
       refine a.out _ _ ⟨H.o.cell (j:=0) rfl,H.o.cell (j:=1) rfl⟩ (fun A=> ?_);clear a K c5 P f
      rotate_left
      focus
       go_simp
       refine (jM (bs d) _ zbb).mono ?_
       rintro e w' ⟨rfl,l⟩
       replace c:=aa (c.o.below l)
       replace H:=aa (H.o.below l H.o.lt)
       refine a.out _ _ ⟨H.o.cell (j:=0) rfl,H.o.cell (j:=1) rfl⟩ (fun A=> ?_);clear a K l
       refine fL [0,8] (AllReadyH.cons rfl (fun K a=> ?_) (fM fun K a=> ?_))
       focus
        have c0:=c.o.blk.cell (j:=0) rfl
        go_simp
        refine a.out _ _ A (fun A=> ?_);clear a K c0
        refine fL [8] (fM fun K a=> ?_)
        go_simp
        refine (jM (bs V) _ zbb).mono ?_
        rintro e w' ⟨rfl,l⟩
        replace c:=aa (c.o.below l)
        replace H:=aa (H.o.below l H.o.lt)
        refine a.out _ _ ⟨H.o.cell (j:=0) rfl,H.o.cell (j:=1) rfl⟩ (fun A=> ?_);clear a K l
        refine fL [9] (fM fun K a=> ?_)
        go_simp
        refine a.out _ _ A (fun A=> ?_);clear a K
        refine fL [10] (fM fun K a=> ?_)
        go_simp
        have D:=aa (c.o.lit d V)
        replace c:=aa D.o.1
        have I:=aa D.o.2
        replace H:=aa (H.o.alloc (dg #[.string (bs d),.string (bs V)] 134))
        clear D
        refine a.out _ _ ⟨H.o.cell (j:=0) rfl,H.o.cell (j:=1) rfl⟩ (fun A=> ?_);clear a K
        refine fL [11] (fM fun K a=> ?_)
        refine ia (K:=kF) Sz _ _ rfl rfl c.o.own (aA _) _ 0 1 1 [(d,V)] rfl rfl I.o zaD ?_
        intro v5 w5 p G x
        have f:=aa (c.o.app p G x)
        replace H:=aa (H.o.but ((aE.refl _ _).grown G (fun k e _=>e)) (Own.dh c.o.own H.o ξ))
        clear G x I
        obtain⟨J,Q,u,z⟩:=Own.slice p
        clear p c
        generalize L:(s1++[(d,V)]).length=M at u z
        clear L z
        subst u
        refine a.out _ _ ⟨H.o.cell (j:=0) rfl,H.o.cell (j:=1) rfl⟩ (fun A=> ?_);clear a K
        refine fL [12] (fM fun K a=> ?_)
        have c5:=f.o.blk.cell (j:=0) rfl
        have P:=f.o.blk.frozen 0
        go_simp
        have c:=aa f.o.fin
        replace H:=aa (H.o.but ((aE.refl (fun b=>b=cb) _).setCell ⟨cb,0,aK⟩ (.slice J M Q) fun _=>rfl) fun e=>y e.symm)
        refine a.out _ _ ⟨H.o.cell (j:=0) rfl,H.o.cell (j:=1) rfl⟩ (fun A=> ?_);clear a K c5 P f
       rotate_left
       focus
        go_simp
        refine (jM (bs V) _ zbb).mono ?_
        rintro e w' ⟨rfl,l⟩
        replace c:=aa (c.o.below l)
        replace H:=aa (H.o.below l H.o.lt)
        refine a.out _ _ ⟨H.o.cell (j:=0) rfl,H.o.cell (j:=1) rfl⟩ (fun A=> ?_);clear a K l
        refine fL [0,9] (AllReadyH.cons rfl (fun K a=> ?_) (fM fun K a=> ?_))
        focus
         have c0:=c.o.blk.cell (j:=0) rfl
         go_simp
         refine a.out _ _ A (fun A=> ?_);clear a K c0
         refine fL [9] (fM fun K a=> ?_)
         go_simp
         refine a.out _ _ A (fun A=> ?_);clear a K
         refine fL [10] (fM fun K a=> ?_)
         go_simp
         have D:=aa (c.o.lit d V)
         replace c:=aa D.o.1
         have I:=aa D.o.2
         replace H:=aa (H.o.alloc (dg #[.string (bs d),.string (bs V)] 134))
         clear D
         refine a.out _ _ ⟨H.o.cell (j:=0) rfl,H.o.cell (j:=1) rfl⟩ (fun A=> ?_);clear a K
         refine fL [11] (fM fun K a=> ?_)
         refine ia (K:=kF) Sz _ _ rfl rfl c.o.own (aA _) _ 0 1 1 [(d,V)] rfl rfl I.o zaD ?_
         intro v5 w5 p G x
         have f:=aa (c.o.app p G x)
         replace H:=aa (H.o.but ((aE.refl _ _).grown G (fun k e _=>e)) (Own.dh c.o.own H.o ξ))
         clear G x I
         obtain⟨J,Q,u,z⟩:=Own.slice p
         clear p c
         generalize L:(s1++[(d,V)]).length=M at u z
         clear L z
         subst u
         refine a.out _ _ ⟨H.o.cell (j:=0) rfl,H.o.cell (j:=1) rfl⟩ (fun A=> ?_);clear a K
         refine fL [12] (fM fun K a=> ?_)
         have c5:=f.o.blk.cell (j:=0) rfl
         have P:=f.o.blk.frozen 0
         go_simp
         have c:=aa f.o.fin
         replace H:=aa (H.o.but ((aE.refl (fun b=>b=cb) _).setCell ⟨cb,0,aK⟩ (.slice J M Q) fun _=>rfl) fun e=>y e.symm)
         refine a.out _ _ ⟨H.o.cell (j:=0) rfl,H.o.cell (j:=1) rfl⟩ (fun A=> ?_);clear a K c5 P f
        rotate_left
        focus
         go_simp
         refine a.out _ _ A (fun A=> ?_);clear a K
         refine fL [0,10] (AllReadyH.cons rfl (fun K a=> ?_) (fM fun K a=> ?_))
         focus
          have c0:=c.o.blk.cell (j:=0) rfl
          go_simp
          refine a.out _ _ A (fun A=> ?_);clear a K c0
          refine fL [10] (fM fun K a=> ?_)
          go_simp
          have D:=aa (c.o.lit d V)
          replace c:=aa D.o.1
          have I:=aa D.o.2
          replace H:=aa (H.o.alloc (dg #[.string (bs d),.string (bs V)] 134))
          clear D
          refine a.out _ _ ⟨H.o.cell (j:=0) rfl,H.o.cell (j:=1) rfl⟩ (fun A=> ?_);clear a K
          refine fL [11] (fM fun K a=> ?_)
          refine ia (K:=kF) Sz _ _ rfl rfl c.o.own (aA _) _ 0 1 1 [(d,V)] rfl rfl I.o zaD ?_
          intro v5 w5 p G x
          have f:=aa (c.o.app p G x)
          replace H:=aa (H.o.but ((aE.refl _ _).grown G (fun k e _=>e)) (Own.dh c.o.own H.o ξ))
          clear G x I
          obtain⟨J,Q,u,z⟩:=Own.slice p
          clear p c
          generalize L:(s1++[(d,V)]).length=M at u z
          clear L z
          subst u
          refine a.out _ _ ⟨H.o.cell (j:=0) rfl,H.o.cell (j:=1) rfl⟩ (fun A=> ?_);clear a K
          refine fL [12] (fM fun K a=> ?_)
          have c5:=f.o.blk.cell (j:=0) rfl
          have P:=f.o.blk.frozen 0
          go_simp
          have c:=aa f.o.fin
          replace H:=aa (H.o.but ((aE.refl (fun b=>b=cb) _).setCell ⟨cb,0,aK⟩ (.slice J M Q) fun _=>rfl) fun e=>y e.symm)
          refine a.out _ _ ⟨H.o.cell (j:=0) rfl,H.o.cell (j:=1) rfl⟩ (fun A=> ?_);clear a K c5 P f
         rotate_left
         focus
          go_simp
          have D:=aa (c.o.lit d V)
          replace c:=aa D.o.1
          have I:=aa D.o.2
          replace H:=aa (H.o.alloc (dg #[.string (bs d),.string (bs V)] 134))
          clear D
          refine a.out _ _ ⟨H.o.cell (j:=0) rfl,H.o.cell (j:=1) rfl⟩ (fun A=> ?_);clear a K
          refine fL [0] (fM fun K a=> ?_)
          have c0:=c.o.blk.cell (j:=0) rfl
          go_simp
          refine a.out _ _ A (fun A=> ?_);clear a K c0
          refine fL [11] (fM fun K a=> ?_)
          refine ia (K:=kF) Sz _ _ rfl rfl c.o.own (aA _) _ 0 1 1 [(d,V)] rfl rfl I.o zaD ?_
          intro v5 w5 p G x
          have f:=aa (c.o.app p G x)
          replace H:=aa (H.o.but ((aE.refl _ _).grown G (fun k e _=>e)) (Own.dh c.o.own H.o ξ))
          clear G x I
          obtain⟨J,Q,u,z⟩:=Own.slice p
          clear p c
          generalize L:(s1++[(d,V)]).length=M at u z
          clear L z
          subst u
          refine a.out _ _ ⟨H.o.cell (j:=0) rfl,H.o.cell (j:=1) rfl⟩ (fun A=> ?_);clear a K
          refine fL [12] (fM fun K a=> ?_)
          have c5:=f.o.blk.cell (j:=0) rfl
          have P:=f.o.blk.frozen 0
          go_simp
          have c:=aa f.o.fin
          replace H:=aa (H.o.but ((aE.refl (fun b=>b=cb) _).setCell ⟨cb,0,aK⟩ (.slice J M Q) fun _=>rfl) fun e=>y e.symm)
          refine a.out _ _ ⟨H.o.cell (j:=0) rfl,H.o.cell (j:=1) rfl⟩ (fun A=> ?_);clear a K c5 P f
      all_goals
       refine wpAnyH_done η ?_ _
       try simp only[Act.put,aC,aB,ay]
       go_wp2_with fail
       go_roundw
       case rel=>exact⟨i+1,_,_,g,ς,aa ⟨c.o,by have:=HR.o.1;rw[aq,gi];omega,by have e1:=Y.o.1;have e2:=Y.o.2;have:=SA C.o g HR.o.2 (by rw[<-O.o];exact T) (by rw[<-e1];exact xR);rw[<-e1,<-e2] at this;exact this⟩⟩
       case measure=>simp[RowKit.intOf];omega
    ·go_wp2_with fail;go_roundw
     case rel=>exact⟨i+1,s1,_,g,ς,aa ⟨m.o.1.below ((Below.refl _ wr).alloc (af _) _),by have:=m.o.2.1;omega,LP C.o g m.o.2.2 (cS (by rw[<-O.o];exact T))⟩⟩
     case measure=>simp[RowKit.intOf];omega
   ·obtain rfl:i=N:=by omega
    have hI:¬(i:Int)<i:=κ;go_wp2_with fail;go_ret;refine⟨_,s1, ?_, ?_,m.o.1⟩;·rw[<-O.o];rfl
    ·have h5:=m.o.2.2;rw[bD (by rw[<-C.o];exact af _)] at h5;exact h5
 ·simp only[h0,if_false] at jA |-;obtain⟨a1,cp1,EB,t⟩:=Own.slice HS.o.own;obtain⟨R,U⟩:=ξx s.length;rw[<-U] at EB t;subst EB;have O:=aa U;have adL:(R:Int)<=100001000:=by omega
  have cc:=HS.o.blk.cell (j:=0) rfl;have cl:=B.o.lim;clear U t;go_enter func103,ntmps103;go_wp2_with fail;refine jA.o.mono ?_;rintro e w1 ⟨rfl,rfl⟩;go_wp2_with fail
  go_loopw [11] (fun iv wr=>iv=.int ct 0/\Hid (wr=w1)) (fun _ _=>0)
  case atStart=>exact⟨rfl,aa rfl⟩
  case round=>obtain⟨rfl,hwr⟩:=hrel;have hwr:=hwr.o;subst hwr;go_wp2_with fail;go_ret;exact⟨_,s,by rw[<-O.o];rfl,rfl,HS.o⟩
section
variable {w:World} {tb:Nat}
theorem BI {lo hi:ByteArray} {fn:Nat} {caps:Array Value} {G:Ψ}
  (c:∀W,W=w.alloc (dg #[cu lo,cu hi] 168)->Calls prog 129 #[ptr tb] W fun e X=>(e=c8 (ec #[dr aK,bf ct 0])/\G X)\/
   ∃q,e=c8 (ec #[ptr q,bf ct 0])/\X.cell? ⟨w.heap.size,0,aK⟩=av (cu lo)/\X.cell? ⟨w.heap.size,1,aK⟩=av (cu hi)/\
    Calls prog 153 #[ptr tb,ptr q,eU #[cu lo,cu hi],.func (.func fn) #[] caps] X fun e X'=>∃b,e=c8 (ec #[ey b,bf ct 0])/\G X'):
  Calls prog 102 #[ptr tb,eU #[cu lo,cu hi],.func (.func fn) #[] caps] w fun e w'=>e=c8 (bf ct 0)/\G w':=by
 obtain⟨a,n⟩:=ξx (w.alloc (dg #[cu lo,cu hi] 168))
 have d:=aa (c a n)
 clear c
 unfold ptr at d |-
 go_enter func102,ntmps102
 go_wp2_with fail
 rw[<-n]
 refine d.o.mono ?_
 rintro e X (⟨rfl,h⟩|⟨q,rfl,s0,s1,C⟩)
 ·have H:=aa h;clear h n;go_wp2_with fail;go_ret;exact⟨rfl,H.o⟩
 ·have f:=aa C;clear C n;go_wp2_with fail;refine f.o.mono ?_;rintro e g ⟨b,rfl,h⟩;have H:=aa h;clear h s0 s1;go_wp2_with fail;go_ret;exact⟨rfl,H.o⟩
end
section
variable {E:Ev} {X0 X X' X1 X2 Y V w:World} {R0 R R' R1 R2:Φ} {ps:Γ} {pg:Ξ} {rt:Δ} {M M' M1 M2:Nat->Option NV} {σ:Type} {s s1 s2:σ} {J:σ->(Φ)->(Nat->Option NV)->Ψ} {f:(k:Nat)->Tr.E (k+1)->σ->σ×Bool} {fn:Nat} {caps:Array Value} {sz:σ->Nat} {lo hi:Tr.Tx}
theorem WW:∀(k:Nat) (c:Tr.E (k+1)) {lo:Tr.Tx} {h:Option Tr.Tx},cZ pg (k+1) c->Tr.Ok (k+1) lo h c->tw k c<=256*(Tr.cF (k+1) c).length
 |0,c,lo,h,hs,ho=>by obtain⟨page,hp,_⟩:=hs.1;have H:2*(Tr.its c).length<=Tr.sz 0 (Tr.its c):=Tr.jP 0 (Tr.its c);have h3:Tr.sz 0 (Tr.its c)<=510:=ho.2.1;rw[Tr.bE,hp];show 1+(Tr.its c).length<=256*(([page]:Δ)++_).length;rw[aq,gi];omega
 |k+1,c,lo,h,hs,ho=>by
  obtain⟨page,hp,_⟩:=hs.1;have H:=Tr.jP (k+1) (Tr.its c);have h3:=ho.2.1;have key:∀l:List (Tr.Tx×Tr.E (k+1)),(∀p∈l,cZ pg (k+1) p.2/\∃lo h,Tr.Ok (k+1) lo h p.2)->Su l<=256*(Tr.ed (k+1) l).length:=by
   intro l;induction l with
   |nil=>intro _;exact aA _
   |cons p l i=>intro hl;obtain⟨h4,L,h',a⟩:=hl p au;have d:=WW k p.2 h4 a;have e:=i fun x b=>hl x (aH _ b);rw[vm,Tr.gR,aq];omega
  have h4:=key (Tr.its c) fun p hp=>⟨hs.2.2 p hp,yl ho p hp⟩;rw[Tr.bE,hp];show 1+(Tr.its c).length+Su (Tr.its c)<=256*(([page]:Δ)++_).length;rw[aq,gi];omega
def Seen (J:σ->(Φ)->(Nat->Option NV)->Ψ) (f:(k:Nat)->Tr.E (k+1)->σ->σ×Bool) (lo hi:Tr.Tx) (R:Φ) (M:Nat->Option NV) (s:σ) (l:List (Tr.Tx×Tr.Tx)) (pages:Δ) (X X':World):Prop:=
 (l=[]/\pages=[]/\EG J R M X s X')\/∃(K:Nat) (T:Tr.E (K+1)),l=Tr.cH K (Tr.its T)/\pages=Tr.cF (K+1) T/\pages.Nodup/\Tr.Ok (K+1) [] aK T/\cZ pg (K+1) T/\EG J R M X (visit f lo hi K T s).1 X'
theorem SC (A:Acc E X0 R0 ps pg rt fn caps f sz J) (m:J s R M X) {l:List (Tr.Tx×Tr.Tx)} {pages:Δ} (D:jx pg (rt.getD E.place 0) l pages) (F:E.place<16) (hB:sz s<=1000000):
  Calls prog 102 #[ptr E.tb,eU #[cu (bs lo),cu (bs hi)],.func (.func fn) #[] caps] X fun e X'=>e=c8 (bf ct 0)/\Seen (pg:=pg) J f lo hi R M s l pages X X':=by
 refine BI fun W G=> ?_;have H:Below X.heap.size X W:=by rw[G];exact (Below.refl _ X).alloc (af _) _
 have c:=A.ts _ _ _ _ m;have V:=c.still H (fun _ h=>h) (fun _ h=>cS h);have n:=A.grow _ _ _ _ R M W m V H (fun _ h=>cS h) (fun _ h=>h);have Y:aW W X.heap.size 168 [cu (bs lo),cu (bs hi)]:=by rw[G];exact aW.new X _ _
 have o:=D;rcases D with⟨O,q,i⟩|⟨K,T,page,q,i,h3,h4,k,P,t,I⟩;·refine (qy V F O).mono ?_;rintro e X1 ⟨rfl,a⟩;exact cS ⟨rfl,cS ⟨q,i,A.below (EG.of m) (H.trans (a.mono H.size))⟩⟩
 ·have N:=iX (lo:=[]) (hi:=[]) h3 h4 i k;have u:page<pg.length:=cU (by rw[N.page];rfl);refine (qz V F page K (ak K (Tr.its T)) q N u).mono ?_;rintro e X1 ⟨p,rg,cap,R',rfl,Q,a,hp,wF,L,S⟩;have v:∀b,MB (upd M p (NV.got K (ak K (Tr.its T)) rg cap page [] [])) b->MB M b\/W.heap.size<=b:=by
   rintro b ⟨r,y,hr,d⟩;rcases aO hr with⟨rfl,rfl⟩|⟨_,hr⟩;·right;rcases d with rfl|rfl<;>assumption
   ·exact cS ⟨r,y,hr,d⟩
  have U:=A.grow _ _ _ _ R' _ X1 n Q a v L;have g:=Y.below a Y.lt;refine dc ⟨p,rfl,g.cell (j:=0) rfl,g.cell (j:=1) rfl,(Sv A lo hi K T _ p s R' _ X1 h3 U (bF _ _ _) ⟨rfl,rfl,by rw[i];rfl,h4,k⟩ (by have:=WW K T h4 k;have:=fU (t▸I) fun x Z=>cU (ke o x (by rw[t];exact Z));have:=c.rm.rep.few;omega)).mono ?_⟩;rintro e X2 ⟨rfl,R5,M5,w,dW,z,B,C⟩;refine⟨_,rfl,dc ⟨K,T,P,t,I,k,h4,R5,M5,w, ?_,fun b a=>z b (L b a),fun b aQ=> ?_,fun r y hr=>C r y ?_⟩⟩
  ·refine ((aE.aF (H.trans (a.mono H.size)) (fun b=>R b))).trans dW fun b hlt h=> ?_;rcases S b h with h|h;·exact h
   ·have:=H.size;omega
  ·have:=H.size;have:=a.size;rcases B b aQ with h|h;·grind
   ·right;omega
  ·rw[aX (fun e=> ?_)];·exact hr
   ·have:=(V.mem.lt hr).1;omega
end
def fS (lim:Int) (lo hi:Tr.Tx) (k:Nat) (c:Tr.E (k+1)) (s:Tr.eO):Tr.eO×Bool:=
 ((if k=0 then ((ak k (Tr.its c)).map fun i=>((i.key,i.val):Tr.Tx×Tr.Tx)).foldl (eN lim lo hi) s else s),decide (((if k=0 then ((ak k (Tr.its c)).map fun i=>((i.key,i.val):Tr.Tx×Tr.Tx)).foldl (eN lim lo hi) s else s).length:Int)<lim))
theorem G_ (lim:Int) (lo hi:Tr.Tx):∀(l:Tr.eO) (s:Tr.eO),(l.foldl (eN lim lo hi) s).length<=s.length+l.length
 |[],s=>af _
 |p::l,s=>by
  rw[List.foldl_cons];have h:=G_ lim lo hi l (eN lim lo hi s p);have H:(eN lim lo hi s p).length<=s.length+1:=by
   unfold eN
   split
   ·grind
   ·omega
  rw[a_];omega
section
variable {E:Ev} {X0 X X' w:World} {R0 R R':Φ} {ps:Γ} {pg:Ξ} {rt:Δ} {M M':Nat->Option NV} {cb lb kb:Nat} {lim:Int} {lo hi:Tr.Tx}
structure JS (E:Ev) (X0:World) (R0:Φ) (ps:Γ) (pg:Ξ) (rt:Δ) (cb lb kb:Nat) (lim:Int) (lo hi:Tr.Tx) (s:Tr.eO) (R:Φ) (M:Nat->Option NV) (X:World):Prop where
 ts:TS E X0 R0 R ps pg rt M X
 own:R cb/\X0.heap.size<=cb/\¬MB M cb
 lim:X.cell? ⟨lb,0,aK⟩=av (bf ct lim)
 ks:aW X kb 168 [cu (bs lo),cu (bs hi)]
 n1:lb≠cb/\kb≠cb
 row:∃v,aW X cb 136 [v]/\qE 0 X v s/\∀b,v.ownBlock=av b->R b/\X0.heap.size<=b/\¬MB M b/\b≠lb/\b≠kb
theorem Kl (W:World) (args:Array Value):Sem.run prog (callFunc 103 args) W=.ok (.enter 103 args) W:=by simp[callFunc,go_sem,Tryz.f103]
theorem SD:Acc E X0 R0 ps pg rt 103 #[ptr cb,ptr lb,ptr kb] (fS lim lo hi) List.length (JS E X0 R0 ps pg rt cb lb kb lim lo hi):=by
 refine⟨fun k c s=> ?_,Kl,fun _ _ _ _ h=>h.ts,fun s R M X R' M' X' h r d l w=> ?_,fun s R M X q k m c h g hn hs=> ?_⟩
 ·show (if k=0 then _ else s).length<=_
  split
  ·grind [G_,ak,aL]
  ·omega
 ·obtain⟨v,n,p,o⟩:=h.row;refine⟨r,⟨w _ h.own.1,h.own.2.1,fun g=> ?_⟩,(d.cell (bA _ _ h.lim)).trans h.lim,h.ks.below d h.ks.lt,h.n1,v,n.below d n.lt,Own.below p d (af _),fun b a=>⟨w _ (o b a).1,(o b a).2.1,fun g=> ?_,(o b a).2.2.2⟩⟩
  ·rcases l _ g with i|i;·exact h.own.2.2 i
   ·have:=n.lt;omega
  ·rcases l _ g with i|i;·grind
   ·have:=(Own.block p b a).2;omega
 ·obtain⟨v,n,p,o⟩:=h.row;have t:=h.ts.mem.nd q m g;have Z:∀b,(b=cb\/v.ownBlock=av b)->R b/\X0.heap.size<=b/\¬MB M b:=fun b a=>by
   rcases a with rfl|a;·exact h.own
   ·grind
  have j:Sb cb lb kb q (bs lo) (bs hi) lim m X v:=⟨h.lim,h.ks,t,fun b a=>by
   refine⟨?_, ?_,fun e=>(Z b a).2.2 ⟨q,m,g,cS e⟩,fun e=>(Z b a).2.2 ⟨q,m,g,dc e⟩⟩
   ·rcases a with rfl|a;·exact h.n1.1.symm
    ·grind
   ·rcases a with rfl|a;·exact h.n1.2.symm
    ·exact (o b a).2.2.2.2⟩
  refine (SB X cb lb kb q v s lo hi lim m j ⟨n,p,aE.refl _ _,cS rfl⟩ hs).mono ?_;rintro e X' ⟨v',s',rfl,u,O⟩;have A:m.level=k:=hn.level;have K:s'=(fS lim lo hi k c s).1:=by rw[u,A,hn.its];rfl
  have x:=h.ts.but.size;have d:=O.but;have V:=bA _ _ h.lim;have y:=h.ks.lt;have V:lb<X.heap.size:=V;have f:∀b,v'.ownBlock=av b->(R b/\X0.heap.size<=b/\¬MB M b/\b≠lb/\b≠kb)\/X.heap.size<=b:=fun b a=>by
   rcases O.new with e|e;·grind
   ·exact dc (e b a)
  refine⟨by rw[K];rfl,fun b=>R b\/v'.ownBlock=av b,⟨h.ts.own d (fun b _ e=>⟨(Z b e).1,(Z b e).2.1⟩) (h.ts.mem.keep d fun b H e=>(Z b e).2.2 H) (fun b H=>⟨cS (h.ts.lT b H).1,(h.ts.lT b H).2⟩) (fun _ h=>cS h) (fun b a=> ?_),⟨cS h.own.1,h.own.2⟩,d.cell h.lim (fun e=>(j.n1 _ e).1 rfl),h.ks.but d (fun e=>(j.n1 _ e).2.1 rfl),h.n1,v',O.blk,by rw[<-K];exact O.own,fun b a=> ?_⟩,d.mono fun b _ e=>(Z b e).1,fun _ h=>cS h,fun b a=> ?_⟩
  ·rcases a with a|a;·exact cS a
   ·exact (f b a).imp (fun h=>h.1) fun h=>⟨h,(Own.block O.own b a).2⟩
  ·refine⟨dc a, ?_⟩;rcases f b a with i|i;·exact i.2
   ·exact⟨κ,fun H=>by have:=h.ts.mem.nA H;omega,κ,κ⟩
  ·grind
end
section
variable {w:World} {tb:Nat}
theorem Ox {lo hi:ByteArray} {lim:Int} {Q:Value->Ψ}
  (h:∀W,W=((w.alloc (dg #[bf ct lim] 3)).alloc (dg #[cx aK 0 0] 136)).alloc (dg #[cu lo,cu hi] 168)->Calls prog 102 #[ptr tb,eU #[cu lo,cu hi],.func (.func 103) #[] #[ptr (w.heap.size+1),ptr w.heap.size,ptr (w.heap.size+2)]] W fun e X=>e=c8 (bf ct 0)/\∃(a:Option Addr) (n c:Nat),X.cell? ⟨w.heap.size+1,0,aK⟩=av (cx a n c)/\Q (cx a n c) X):
  Calls prog 64 #[ptr tb,cu lo,cu hi,bf ct lim] w fun e w'=>∃v,e=c8 (ec #[v,bf ct 0])/\Q v w':=by
 obtain⟨b,N⟩:=ξx (((w.alloc (dg #[bf ct lim] 3)).alloc (dg #[cx aK 0 0] 136)).alloc (dg #[cu lo,cu hi] 168));have H:=aa (h b N);clear h;unfold ptr at H |-;go_enter func64,ntmps64;go_wp2_with fail;rw[<-N];refine H.o.mono ?_;rintro e X ⟨rfl,a,n,c,c0,d⟩;have f:=aa d;clear d N;go_wp2_with fail
 go_ret2
 exact⟨_,rfl,f.o⟩
end
section
variable {E:Ev} {X0 X X' Y V w:World} {R0 R R':Φ} {ps:Γ} {pg:Ξ} {rt:Δ} {M M':Nat->Option NV} {K:Nat} {T:Tr.E (K+1)} {key vl:List UInt8} {q pr n cap:Nat} {pw:Value} {m:NV} {c:Tr.E 1} {path out:Δ} {pre post:List (Tr.Tx×Tr.Tx)}
theorem iD.still {lv:Nat} {c:Tr.E (lv+1)} {rl:Δ} (f:iD E X0 R0 ps pg rt key K T lv q pw X R M m c path pre post out rl) (H:Below X.heap.size X X'):iD E X0 R0 ps pg rt key K T lv q pw X' R M m c path pre post out rl:=
 ⟨f.ts.still H (fun _ h=>h) (fun _ h=>cS h),f.above,f.mS,f.nG,f.its,f.own,f.was,f.st,f.ok,f.nd,Own.below f.row H (af _),f.Eo,f.YQ,f.YR,f.BB,f.Vt,f.Vu⟩
theorem wQ (l:Tr.eO):ak 0 l=l.map fun p:Tr.Tx×Tr.Tx=>(⟨p.1,p.2,aK⟩:It):=rfl
theorem vq (l:Tr.eO) (key:List UInt8):posOf (ak 0 l) key=(l.takeWhile fun x=>Tr.lt x.1 key).length:=by rw[wQ];unfold posOf;rw[List.takeWhile_map,aL];rfl
theorem tC {l:Tr.eO} {key:List UInt8} (hs:Tr.cB l):(eY (ak 0 l) key=false->∀x∈l,x.1≠key)/\(eY (ak 0 l) key=true->∃h:posOf (ak 0 l) key<l.length,(l[posOf (ak 0 l) key]).1=key):=by
 have hp:=vq l key;constructor
 ·intro H x g e;obtain⟨j,d⟩:=Tr.kS hs hp;have hd:x∈l.drop (posOf (ak 0 l) key):=by rw[d];exact dU.2 ⟨g,by rw[e,Tr.lt_irrefl];rfl⟩
  have c:posOf (ak 0 l) key<l.length:=by
   rcases ep (posOf (ak 0 l) key) l.length with h|h;·exact h
   ·rw[gj h] at hd;cases hd
  have i:(l[posOf (ak 0 l) key]).1=key:=by
   have hc:l.drop (posOf (ak 0 l) key)=l[posOf (ak 0 l) key]::l.drop (posOf (ak 0 l) key+1):=cE c;rw[hc] at hd;have hr:(l.drop (posOf (ak 0 l) key)).Pairwise fun a b=>Tr.lt a.1 b.1=true:=hs.sublist (List.drop_sublist _ _);rw[hc] at hr;rcases aM.1 hd with rfl|hd;·exact e
   ·have h3:=(cC.1 hr).1 x hd;rw[e] at h3;have h4:l[posOf (ak 0 l) key]∈l.filter (fun x=> !Tr.lt x.1 key):=(by rw[<-d,hc];exact au);have f:=(dU.1 h4).2;rw[h3] at f;cases f
  have hg:(ak 0 l)[posOf (ak 0 l) key]?=av ⟨(l[posOf (ak 0 l) key]).1,(l[posOf (ak 0 l) key]).2,aK⟩:=by grind [wQ,aI]
  unfold eY at H;rw[hg] at H;have:decide ((l[posOf (ak 0 l) key]).1=key)=false:=H;rw[i] at this;simp at this
 ·grind [eY,ep,posOf,ak,wQ,aI,List.getElem?_eq_none]
theorem YX (f:iD E X0 R0 ps pg rt key K T 0 q (cx (av ⟨pr,0,aK⟩) n cap) X R M m c path pre post out (q::path).reverse) {S:Φ} (a:aE S X Y) (hS:∀b,S b->b=q\/b=m.rg) {l:List (Tr.Tx×Tr.E 0)} {g c':Nat} {d:NV} (H:d=⟨m.level,ak 0 l,g,0,c',m.page,m.lo,m.hi,m.was,m.at_,m.fresh,true⟩) (t:Nd Y q d) (j:bk 0 Y (cx (av ⟨g,0,aK⟩) (ak 0 l).length c') (ak 0 l)) (hg:g=m.rg\/X.heap.size<=g)
  (L:Tr.Ord m.lo (j8 m.hi) (l:Tr.eO)) (u:Tr.sz 0 l<=664) (v:(Tr.cF (K+1) T).Nodup) (w:∀x∈Tr.cF (K+1) T,(pg.getD x aK).isSome=true):
  ∃R',LM E X0 R0 R' ps pg rt (upd M q d) Y q d c l K T path pre post out pr:=by
 have C:=f.ts.mem;have k:∀b,MB (upd M q d) b->MB M b\/b=g:=by
  rintro b ⟨r,y,hr,z⟩;rcases aO hr with⟨rfl,rfl⟩|⟨_,hr⟩
  ·rcases z with rfl|z;·exact cS ⟨_,m,f.mS,cS rfl⟩
   ·grind
  ·exact cS ⟨r,y,hr,z⟩
 have o:∀b,S b->MB M b:=fun b a=>by
  rcases hS b a with e|e;·exact⟨q,m,f.mS,cS e⟩
  ·exact⟨q,m,f.mS,dc e⟩
 have p:Mem Y (upd M q d):=C.renew f.mS d a (fun b a=>(hS b a).imp_right fun e=>⟨e,f.own⟩) t zaI (by rw[H];exact j) (by
  rw[H];rcases hg with e|e;·exact cS ⟨e,f.own⟩
  ·exact dc e)
 have G:g<Y.heap.size:=(Own.block j g rfl).2
 have A:TS E X0 R0 (fun b=>R b\/b=g) ps pg rt (upd M q d) Y:=f.ts.own a (fun b _ a=>f.ts.lT b (o b a)) p (fun b a=>by
  rcases k b a with h|rfl;·exact⟨cS (f.ts.lT b h).1,(f.ts.lT b h).2⟩
  ·refine⟨dc rfl, ?_⟩;rcases hg with e|e;·rw[e];exact (f.ts.lT _ ⟨q,m,f.mS,dc rfl⟩).2
   ·exact aN f.ts.but.size e) (fun _ h=>cS h) (fun b a=>by
  rcases a with a|rfl;·exact cS a
  ·rcases hg with e|e;·rw[e];exact cS (f.ts.lT _ ⟨q,m,f.mS,dc rfl⟩).1
   ·exact dc ⟨e,G⟩)
 have B:q∉path:=fun h=>(aP.1 f.nd).2.2 q h q au rfl;have J:=f.Eo pr rfl;have D:=(Own.block f.row pr rfl).2;obtain⟨page,F,-⟩:=f.st.1;have i:d.lo=m.lo/\d.hi=m.hi:=by rw[H];exact⟨rfl,rfl⟩
 refine⟨_,A, ?_,bF _ _ _,by rw[H];exact f.nG.level,zaI,by rw[H];exact f.nG.page,by rw[H];exact f.was,⟨u,by rw[i.1,i.2];exact Tr.PT L⟩,cS (by rw[F];rfl),f.nd, ?_,⟨cS J.1,fun s=> ?_⟩,v,w,f.BB⟩;·rw[i.1,i.2];exact f.above.frame fun r hr=>aX fun e=>B zaC
 ·exact (Own.lies f.row).but a fun hs=>J.2 (o _ hs)
 ·rcases k _ s with s|s;·exact J.2 s
  ·rcases hg with e|e;·exact J.2 (by rw[s,e];exact⟨q,m,f.mS,dc rfl⟩)
   ·omega
end
section
variable {E:Ev} {X0 X X' Y V w:World} {R0 R R':Φ} {ps:Γ} {pg:Ξ} {rt:Δ} {M M':Nat->Option NV} {K:Nat} {T:Tr.E (K+1)} {key vl:List UInt8} {q pr cap:Nat} {m:NV} {c:Tr.E 1} {path out:Δ} {pre post:List (Tr.Tx×Tr.Tx)}
def AJ (p:Tr.Tx×Tr.Tx):It:=⟨p.1,p.2,aK⟩
theorem Oy {lo:Tr.Tx} {h:Option Tr.Tx} {l:Tr.eO} (o:Tr.Ord lo h l):∀i∈ak 0 l,i.key.length<=200/\i.val.length<=200:=by intro i hi;rw[wQ] at hi;obtain⟨p,hp,rfl⟩:=bY.1 hi;exact⟨aN (o.keys p hp) ξ,aN (o.vals p hp) ξ⟩
theorem Vy (l:Tr.eO):2*l.length<=Tr.sz 0 (l:List (Tr.Tx×Tr.E 0)):=Tr.jP 0 (l:List (Tr.Tx×Tr.E 0))
theorem Km (l:Tr.eO):(ak 0 l).length=l.length:=by rw[wQ,aL]
theorem wR {n:Nat} (h:bg dA X pr 0 (q::path).reverse) (hn:path.length=n):X.cell? ⟨pr,n,aK⟩=av (dr (av ⟨q,0,aK⟩)):=by
 subst hn;have Z:(q::path).reverse.getD path.length 0=q:=nH (path:=path) (by rw[bD ν]) rfl;have H:path.length<(q::path).reverse.length:=ν
 have:=h.at path.length 0 ξ H (dr (av ⟨(q::path).reverse[path.length],0,aK⟩)) rfl;rw[show 0+(path.length*dA.size+0)=path.length from by show 0+(path.length*1+0)=path.length;omega] at this;rw[bC,aI H] at Z;have e:(q::path).reverse[path.length]=q:=Z;rw[e] at this;exact this
theorem wS (f:iD E X0 R0 ps pg rt key K T 0 q (cx (av ⟨pr,0,aK⟩) (path.length+1) cap) X R M m c path pre post out (q::path).reverse) {S:Φ} (t:aE S X Y) (hS:∀b,S b->b=q\/b=m.rg) {l:Tr.eO} {g c':Nat} (i:aW Y q 170 (m.cells.set 1 (cx (av ⟨g,0,aK⟩) l.length c'))) (a:bk 0 Y (cx (av ⟨g,0,aK⟩) l.length c') (ak 0 l)) (hg:g=m.rg\/X.heap.size<=g)
  (L:Tr.Ord m.lo (j8 m.hi) l) (k:Tr.sz 0 (l:List (Tr.Tx×Tr.E 0))<=664) (n:(Tr.cF (K+1) T).Nodup) (o:∀x∈Tr.cF (K+1) T,(pg.getD x aK).isSome=true) (u:ps.length<=60000000) (v:E.place<16):
  Calls prog 90 #[ptr E.tb,cx (av ⟨pr,0,aK⟩) (path.length+1) cap] Y fun e w'=>∃c:Int,e=c8 (bf ct c)/\Done E X0 R0 ps pg rt (pre++l++post) (Tr.cF (K+1) T) c w'/\(Tr.sz 0 (l:List (Tr.Tx×Tr.E 0))<=510->c=0):=by
 obtain⟨p,d⟩:∃p:NV,p=⟨m.level,ak 0 l,g,0,c',m.page,m.lo,m.hi,m.was,m.at_,m.fresh,true⟩:=⟨_,rfl⟩;have j:=jg a;have H:=Km l;have w:=Vy l;have r:Nd Y q p:=by
  refine⟨?_,by rw[d];exact Own.lies a, ?_⟩;·rw[d];have e:NV.cells ⟨m.level,ak 0 l,g,0,c',m.page,m.lo,m.hi,m.was,m.at_,m.fresh,true⟩=m.cells.set 1 (cx (av ⟨g,0,aK⟩) l.length c'):=(by unfold NV.cells;simp only[H];rfl);rw[e];exact i
  ·rw[d];exact⟨by show (ak 0 l).length<=400;omega,Oy L,by show (ak 0 l).length<=c'/\_;rw[H];exact j.2⟩
 rw[<-H] at a;obtain⟨R',s⟩:=YX f t hS d r a hg L k n o;refine (AG s u v).mono ?_;rintro e w' ⟨z,rfl,y,A⟩;obtain⟨page,C,-⟩:=f.st.1;exact⟨z,rfl,y,fun h=>A h (by rw[C];rfl)⟩
theorem wT (f:iD E X0 R0 ps pg rt key K T 0 q (cx (av ⟨pr,0,aK⟩) (path.length+1) cap) X R M m c path pre post out (q::path).reverse):∃lf:Tr.eO,m.its=lf.map AJ/\Tr.Ord m.lo (j8 m.hi) lf/\Tr.sz 0 (lf:List (Tr.Tx×Tr.E 0))<=510/\QA m.its/\Tr.cH K (Tr.its T)=pre++lf++post/\lf.length<=255/\m.ro=0/\bk 0 X (cx (av ⟨m.rg,0,aK⟩) m.its.length m.cap) m.its:=by
 have h:Tr.Ord m.lo (j8 m.hi) (Tr.cH 0 (Tr.its c)):=Tr.vY f.ok;have H:Tr.sz 0 (Tr.its c)<=510:=f.ok.2.1;have h3:2*(Tr.its c).length<=Tr.sz 0 (Tr.its c):=Tr.jP 0 (Tr.its c);have h4:=f.ts.mem.own q m f.mS f.own;have a:(Tr.its c).length<=255:=κ
 exact⟨(Tr.its c:Tr.eO),f.its,h,H,Af (by rw[f.its,dB];exact (jq f.ok.2.2).1),f.above.cH,a,h4.1,h4.2⟩
theorem Vz (f:iD E X0 R0 ps pg rt key K T 0 q (cx (av ⟨pr,0,aK⟩) (path.length+1) cap) X R M m c path pre post out (q::path).reverse) (Z:key.length<=96) (hv:vl.length<=56) (hm:jx pg (rt.getD E.place 0) (Tr.cH K (Tr.its T)) (Tr.cF (K+1) T)) (A:(Tr.cF (K+1) T).Nodup) (hq:ps.length<=60000000) (ef:E.place<16):
  Calls prog 88 #[ptr q,cu (bs key)] X fun e X'=>
  (∃a:Nat,e=c8 (ec #[bf ct a,ey false])/\a<=400/\∃rv rn rc,X'.cell? ⟨q,1,aK⟩=av (cx rv rn rc)/\∀W ib,W=X'.alloc (dg #[cu (bs key),cu ⟨#[]⟩,dr aK] 175)->ib=X'.heap.size->Calls prog 89 #[cx rv rn rc,bf ct a,cx (av ⟨ib,0,aK⟩) 1 1] W fun e iG=>
   ∃g n' c',e=c8 (cx (av ⟨g,0,aK⟩) n' c')/\a<n'/\n'<=c'/\n'<=401/\(∃v,iG.cell? ⟨q,1,aK⟩=av v)/\iG.frozen? ⟨q,1,aK⟩=false/\(∃v,iG.cell? ⟨g,a*3+1,aK⟩=av v)/\iG.frozen? ⟨g,a*3+1,aK⟩=false/\g≠q/\
    Calls prog 90 #[ptr E.tb,cx (av ⟨pr,0,aK⟩) (path.length+1) cap] ((iG.setCell ⟨q,1,aK⟩ (cx (av ⟨g,0,aK⟩) n' c')).setCell ⟨g,a*3+1,aK⟩ (cu (bs vl))) fun e w'=>∃c:Int,e=c8 (bf ct c)/\Done E X0 R0 ps pg rt (Tr.put (Tr.cH K (Tr.its T)) key vl) (Tr.cF (K+1) T) c w')\/
  (∃(a g o n' c':Nat) (v0:List UInt8),e=c8 (ec #[bf ct a,ey true])/\a<n'/\n'<=400/\X'.cell? ⟨q,1,aK⟩=av (cx (av ⟨g,o,aK⟩) n' c')/\X'.cell? ⟨g,o+a*3+1,aK⟩=av (cu (bs v0))/\X'.frozen? ⟨g,o+a*3+1,aK⟩=false/\(v0=vl->Done E X0 R0 ps pg rt (Tr.put (Tr.cH K (Tr.its T)) key vl) (Tr.cF (K+1) T) 0 X')/\
   (v0≠vl->Calls prog 90 #[ptr E.tb,cx (av ⟨pr,0,aK⟩) (path.length+1) cap] (X'.setCell ⟨g,o+a*3+1,aK⟩ (cu (bs vl))) fun e w'=>∃c:Int,e=c8 (bf ct c)/\Done E X0 R0 ps pg rt (Tr.put (Tr.cH K (Tr.its T)) key vl) (Tr.cF (K+1) T) c w')):=by
 obtain⟨lf,gH,P,hsz,G3,vi,Rf,w,hown⟩:=wT f
 have hlen:m.its.length=lf.length:=by rw[gH,aL]
 have B:=ke hm
 have C:=f.ts.mem.nd q m f.mS
 have sA:posOf m.its key=(lf.takeWhile fun x=>Tr.lt x.1 key).length:=by rw[gH];exact vq lf key
 have Q_:=zq m.its key
 have He:Tr.put (Tr.cH K (Tr.its T)) key vl=pre++Tr.put lf key vl++post:=by rw[vi];exact Tr.Dh f.YQ f.YR
 have WX:=P.put (v:=vl) f.Vt f.Vu Z hv
 have D:Tr.sz 0 (Tr.put lf key vl:List (Tr.Tx×Tr.E 0))<=664:=by have:=Tr.PV (key:=key) (v:=vl) lf;omega
 have Cm:m.rg≠q:=by have:=f.ts.mem.JL f.mS f.mS;exact this
 refine (mo C G3 key).mono ?_
 rintro e X' ⟨rfl,F⟩
 have f':=f.still F
 have Q:=C.still F
 have i:bk 0 X' (cx (av ⟨m.rg,0,aK⟩) m.its.length m.cap) m.its:=Own.below hown F (af _)
 have Gh:=(f'.ts.mem.lt f.mS)
 have y:=Q.c1
 rw[w] at y
 have lR:=tC (key:=key) P.ni
 rw[<-show m.its=ak 0 lf from gH] at lR
 obtain⟨a,ha⟩:=ξx (posOf m.its key)
 rw[<-ha] at sA Q_ |-
 have abV:=Tr.PO (v:=vl) P.ni sA
 cases ht:eY m.its key with
 |false=>
  have hno:=lR.1 ht;have l:=Tr.PN (v:=vl) P.ni sA hno;left;refine⟨a,rfl,κ,_,_,_,y,fun W ib hW hib=> ?_⟩;have r:Below X'.heap.size X' W:=by rw[hW];exact (Below.refl _ X').alloc (af _) _
  have G:aW W ib 175 [cu (bs key),cu ⟨#[]⟩,dr aK]:=by rw[hW,hib];exact aW.new X' _ _
  have jK:bg aj W ib 0 [⟨key,[],aK⟩]:=bg.dZ G rfl;have abW:bk 0 W (cx (av ⟨m.rg,0,aK⟩) m.its.length m.cap) m.its:=Own.below i r (af _);refine (Aa abW (aA _) κ jK (fun k Z=> ?_) ⟨_,G⟩ Q_).mono ?_;·have e:m.rg=k:=Option.some.inj Z;have:=Gh.2;omega
  rintro e iG ⟨v',rfl,I,OY,hwv,ZU⟩;obtain⟨J,S⟩:=ξx (m.its.take a++⟨key,[],aK⟩::m.its.drop a);rw[<-S] at I;have ad4:J.length=m.its.length+1:=by rw[S,aq,a_,aJ,aS];omega
  obtain⟨g,c',rfl,-,Gd,hgc⟩:=Own.form I κ;have z:g=m.rg\/W.heap.size<=g:=by
   rcases hwv with e|e;·left;exact Option.some.inj e
   ·exact dc (e g rfl)
  have hsW:=r.size;have N2:g≠q:=by
   rcases z with e|e;·rw[e];exact Cm
   ·have:=Gh.1;omega
  have hnb:¬(Value.slice (av ⟨m.rg,0,aK⟩) m.its.length m.cap).ownBlock=av q:=fun e=>Cm (Option.some.inj e);have Kn:aW iG q 170 m.cells:=(Q.blk.below r Gh.1).but OY hnb;have H:a<J.length:=κ
  have U:J[a]=⟨key,[],aK⟩:=by have e:J[a]?=av ⟨key,[],aK⟩:=(by rw[S,gO zaE,aJ,bT κ,dm];rfl);rw[aI H] at e;exact Option.some.inj e
  have s:=bt (Own.lies I) a H;have d:=zY J a 1 H ξ ⟨key,vl,aK⟩ (cu (bs vl)) (by rw[U];rfl);have L:J.set a ⟨key,vl,aK⟩=(Tr.put lf key vl).map AJ:=by rw[<-l,S,iP _ _ zaE,aJ,bT κ,dm,ay];rw[gH,<-List.map_take,<-List.map_drop,bM];rfl
  have n:(Tr.put lf key vl).length=J.length:=by rw[<-aL (f:=AJ),<-L,bV]
  obtain⟨Y,SE⟩:=ξx (iG.setCell ⟨q,1,aK⟩ (cx (av ⟨g,0,aK⟩) J.length c'));have Ko:aE (fun b=>b=q) iG Y:=by rw[SE];exact (aE.refl (fun b=>b=q) iG).setCell _ _ fun _=>rfl
  have YY:bk 0 Y (cx (av ⟨g,0,aK⟩) J.length c') J:=Own.but I Ko fun b F e=>N2 (by have V:g=b:=Option.some.inj F;rw[V,e]);have Oz:bk 0 (Y.setCell ⟨g,a*3+1,aK⟩ (cu (bs vl))) (cx (av ⟨g,0,aK⟩) (Tr.put lf key vl).length c') ((Tr.put lf key vl).map AJ):=by have t:=(World.ownsRow.stored YY (a*3+1) (cu (bs vl))).1;rw[<-L,n];unfold bk Own;rw[d,bV];exact t
  have YZ:aW (Y.setCell ⟨g,a*3+1,aK⟩ (cu (bs vl))) q 170 (m.cells.set 1 (cx (av ⟨g,0,aK⟩) (Tr.put lf key vl).length c')):=by rw[n];have t:aW Y q 170 (m.cells.set 1 (cx (av ⟨g,0,aK⟩) J.length c')):=(by rw[SE];exact Kn.set 1 _);exact t.but ((aE.refl (fun b=>b=g) Y).setCell _ _ fun _=>rfl) fun e=>N2 e.symm
  refine⟨g,J.length,c',rfl,H,hgc,κ,⟨_,Kn.cell (j:=1) rfl⟩,Kn.frozen 1,⟨_,by have:=s.2.1;rw[bG] at this;exact this⟩,Own.frozen I _,N2, ?_⟩;rw[<-SE,He];have ZG:aE (fun b=>b=q\/b=m.rg) X' Y:=((aE.aF r (fun b=>b=q\/b=m.rg)).trans OY (fun b _ e=>dc (Option.some.inj e).symm)).trans Ko fun b _ e=>cS e;refine (wS f' (ZG.trans ((aE.refl (fun b=>b=g) Y).setCell ⟨g,a*3+1,aK⟩ (cu (bs vl)) fun _=>rfl) (fun b hlt e=> ?_)) (fun b h=>h) YZ Oz (z.imp_right fun h=>aN hsW h) WX D A B hq ef).mono fun _ _ h=>h.imp fun _ h=>⟨h.1,h.2.1⟩;rcases z with V|V;·exact dc (by rw[e,V])
  ·have e3:b=g:=e;omega
 |true=>
  right;obtain⟨u,hkk⟩:=lR.2 ht;rw[<-ha] at u;have p:(lf[a]'u).1=key:=by have h:=hkk;simp only[<-ha] at h;exact h
  have H:a<m.its.length:=κ
  have l:=abV u p;have U:m.its[a]=⟨key,(lf[a]'u).2,aK⟩:=by have e:m.its[a]?=av ⟨(lf[a]'u).1,(lf[a]'u).2,aK⟩:=(by rw[gH,cY,aI u];rfl);rw[aI H] at e;rw[Option.some.inj e,p]
  have s:=bt Q.row a H;rw[U,w] at s;obtain⟨cur,p5⟩:=f'.ts.mem.ty q m f.mS;refine⟨a,m.rg,0,m.its.length,m.cap,(lf[a]'u).2,rfl,H,κ,y,s.2.1,by simp[World.frozen?,p5],fun he=> ?_,fun _=> ?_⟩
  ·have N:(key,vl)∈Tr.cH K (Tr.its T):=(by rw[vi,<-he,<-p];exact ah.2 (cS (ah.2 (dc (bp u)))));have O:Tr.cB (Tr.cH K (Tr.its T)):=by
    have h5:=hm;rcases h5 with⟨_,e,_⟩|⟨k',t',_,_,_,_,_,h6,h7,_⟩;·rw[e];exact .nil
    ·rw[h7];exact (Tr.vY h6).ni
   refine cS ⟨rfl,R,M,ps,pg,rt.getD E.place 0,Tr.cF (K+1) T, ?_,κ, ?_,⟨rfl,fun _ _ _=>rfl,fun x t h2=>absurd t h2,fun x t h2=>absurd t h2,rfl⟩⟩;·rw[iJ rfl (by rw[f'.ts.rm.rep.tO];exact ef)];exact f'.ts
   ·rw[Tr.PS O N];exact hm
  ·have L:m.its.set a ⟨key,vl,aK⟩=(Tr.put lf key vl).map AJ:=(by rw[<-l,gH,List.map_set];rfl);have n:(Tr.put lf key vl).length=m.its.length:=(by rw[<-aL (f:=AJ),<-L,bV]);have d:=zY m.its a 1 H ξ ⟨key,vl,aK⟩ (cu (bs vl)) (by rw[U];rfl);rw[show 0+a*3+1=a*3+1 by omega,He];have hoY:bk 0 (X'.setCell ⟨m.rg,a*3+1,aK⟩ (cu (bs vl))) (cx (av ⟨m.rg,0,aK⟩) (Tr.put lf key vl).length m.cap) ((Tr.put lf key vl).map AJ):=(by have t:=(World.ownsRow.stored i (a*3+1) (cu (bs vl))).1;rw[<-L,n];unfold bk Own;rw[d,bV];exact t);have OW:aE (fun b=>b=m.rg) X' (X'.setCell ⟨m.rg,a*3+1,aK⟩ (cu (bs vl))):=(aE.refl (fun b=>b=m.rg) X').setCell _ _ fun _=>rfl;have YZ:aW (X'.setCell ⟨m.rg,a*3+1,aK⟩ (cu (bs vl))) q 170 (m.cells.set 1 (cx (av ⟨m.rg,0,aK⟩) (Tr.put lf key vl).length m.cap)):=(by have e:m.cells.set 1 (cx (av ⟨m.rg,0,aK⟩) (Tr.put lf key vl).length m.cap)=m.cells:=(by rw[n];unfold NV.cells;rw[w];rfl);rw[e];exact Q.blk.but OW fun e=>Cm e.symm);exact (wS f' OW (fun b e=>dc e) YZ hoY (cS rfl) WX D A B hq ef).mono fun _ _ h=>h.imp fun _ h=>⟨h.1,h.2.1⟩
end
end
end Go.Proofs.YtgfdijemhanfkaaGreatDoor
