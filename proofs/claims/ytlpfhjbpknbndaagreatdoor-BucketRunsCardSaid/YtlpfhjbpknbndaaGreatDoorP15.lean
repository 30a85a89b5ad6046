/- Elder texts, cut down and merged (15). -/
import Derived.Test.YtlpfhjbpknbndaaGreatDoorP14
import Derived.Test.YtlpfhjbpknbndaaGreatDoorP12
import Derived.Test.YtlpfhjbpknbndaaGreatDoorP7
import Derived.Test.YtlpfhjbpknbndaaGreatDoorP6
import Derived.Test.YtlpfhjbpknbndaaGreatDoorP8
import Derived.Test.YtlpfhjbpknbndaaGreatDoorPTk
set_option maxRecDepth 100000
set_option maxHeartbeats 8000000
namespace Go.Proofs.YtlpfhjbpknbndaaGreatDoor
open Option renaming none→av,some→aD
open Value renaming int→bf,string→bR,pointer→e7,bool→eX,tuple→gu,slice→cx
open IntKind renaming i64→cu
open Ending renaming returned→eb
open Or renaming inl→dc,inr→dn
open Obj renaming cells→ey
open List renaming length_map->aT,mem_cons_self->aE,append_nil->bA,mem_append->aj,nodup_cons->cL,append_assoc->aF,cons_append->gJ,length_cons->a_,nodup_append->aR,length_append->au,mem_cons->aX,mem_cons_of_mem->aI,take_succ_eq_append_getElem->cC,map_append->bQ,take_append_drop->cP,getElem_mem->bI,getElem_cons_drop->lT,length_drop->aZ,getElem?_append_right->iy,getElem?_eq_getElem->aK,drop_eq_getElem_cons->cw,set_cons_zero->ay,mem_singleton->cQ,flatten_append->dL,flatten_cons->dA,take_of_length_le->cg,length_pos_iff->eL,length_set->bP,length_take->aO,pairwise_iff_getElem->ga,getElem?_map->cD,setIfInBounds_toArray->aA,set_cons_succ->az,length_singleton->ew,map_cons->bM,sum_cons->ku,length_nil->ef
open Int renaming toNat_natCast->dF
open Nat renaming le_refl->ah,le_trans->aH,zero_le->aB,add_zero->d_,succ_ne_zero->dy
open World renaming block_lt_of_cell?->bD,drew->bJ
section
open Go.RowKit Lib
theorem cM {pg:List (Option Wl.Text)} {x:Nat} (h:(pg.getD x av).isSome=true):x<pg.length:=by grind
theorem CV {pg:List (Option Wl.Text)} {p:Nat} (h:Rm.firstFree pg=aD p):Rm.alloc pg=(((p:Nat):Int),0)/\Rm.lz pg=pg.set p (aD (Dk.full [])):=by unfold Rm.alloc Rm.lz;rw[h];exact⟨rfl,rfl⟩
section
variable {E:Ev} {X0 X X' X1 V:World} {R0 R R' R1 S:Nat->Prop} {ps ps' ps1:List (Nat×List UInt8)} {pg dh gm:List (Option Wl.Text)} {rt:List Nat} {M M' M1:Nat->Option NV} {k p q sb:Nat} {n1:NV} {sp jW al F:List Nat} {t:Tr.E (k+1)} {l':List (Tr.Tx×Tr.E k)}
structure Zn (E:Ev) (X0:World) (R0:Nat->Prop) (rt:List Nat) (sb:Nat) (R:Nat->Prop) (ps:List (Nat×List UInt8)) (pg:List (Option Wl.Text)) (M:Nat->Option NV) (X:World) (sp:List Nat) (k p:Nat) (t:Tr.E (k+1)) (F:List Nat) (n1:NV) (l':List (Tr.Tx×Tr.E k)) (page:Nat) (R1:Nat->Prop) (ps1:List (Nat×List UInt8)) (gm:List (Option Wl.Text)) (M1:Nat->Option NV) (jW al:List Nat) (X1:World):Prop where
 sw:SW E X0 R0 R1 ps1 gm rt M1 X1 sb (gP jW)
 pre:ps<+:ps1
 few:ps1.length+2<=ps.length+4*Tr.cnt (k+1) t
 sm:Tr.mJ (Tr.Sm k) (Tr.its t) l'
 st:∀x∈l',cS gm k x.2
 at_:M1 p=aD {n1 with page:=page}
 kvs:n1.its.map kv=(aq k l').map kv
 keep:(Tr.hd t).page.isSome=true->(Tr.hd t).page=aD page
 ck:((page::Tr.dW k l')++jW).Perm (Tr.ck (k+1) t++sp++al)
 out:page∉Tr.dW k l'
 pg:iR pg gm (page::Tr.dW k l') al
 fy:al.length<=Tr.fy (k+1) t
 same:∀r,r∉F->M1 r=M r
 but:aG (fun b=>¬R b\/b=sb\/MB M b) X X1
 sub:∀b,R b->R1 b
 new:∀b,R1 b->R b\/X.heap.size<=b
 mb:∀b,MB M1 b->MB M b
abbrev Zn.o:=@Zn.out
theorem PD {k:Nat} {lo:Tr.Tx} {h:Option Tr.Tx} {t:Tr.E (k+1)} {l':List (Tr.Tx×Tr.E k)} (b:Tr.Ok (k+1) lo h t) (hs:Tr.mJ (Tr.Sm k) (Tr.its t) l'):Tr.sz k l'<=510/\l'.length<=255/\∀i∈aq k l',i.key.length<=96/\i.val.length<=56:=by
 have d:=b.2.1;have e:Tr.sz k l'=Tr.sz k (Tr.its t):=(Tr.mJ.sz hs).symm;have h3:=Tr.jk k l';have a:Tr.Ok (k+1) lo h (Tr.mk ⟨av,true⟩ l'):=Tr.Sm.ok (Tr.Sm.cons (h:=Tr.hd t) (h':=⟨av,true⟩) hs) b;have H:=(iI a.2.2).2.2;refine⟨by omega,by omega,fun i hi=> ?_⟩;obtain⟨x,c,rfl⟩:=List.mem_map.1 hi;refine⟨H x c, ?_⟩;show (ej k x.2).length<=56;cases k with
 |succ k=>show 2<=56;decide
 |zero=>obtain⟨_,_,_,J⟩:=a;unfold Tr.r9 at J;rw[if_pos rfl] at J;obtain⟨u,hu⟩:=Tr.dB.each J x c;exact hu.1
theorem CW {page:Nat} (z:Zn E X0 R0 rt sb R ps pg M X sp k p t F n1 l' page R1 ps1 gm M1 jW al X1) (d:∃lo h,Tr.Ok (k+1) lo h t) (G:n1.level=k) (Z:k<=15) (py:pg.length<=65536) (hq:ps.length+4*Tr.cnt (k+1) t<=80000000):
  X1.cell? ⟨sb,0,av⟩=aD (e7 (aD ⟨E.tb,0,av⟩))/\X1.cell? ⟨E.tb,0,av⟩=aD (e7 (aD ⟨E.rb,0,av⟩))/\X1.cell? ⟨p,2,av⟩=aD (bf cu page)/\
  (∀V,Below X1.heap.size X1 V->Calls Tryz.prog 182 #[ptr p] V fun e V'=>e=eb (bR (bs (cJ k (aq k l'))))/\Below V.heap.size V V')/\∀V,Below X1.heap.size X1 V->Calls Tryz.prog 181 #[ptr E.rb,bf cu page,bR (bs (cJ k (aq k l')))] V fun e X'=>∃c:Int,e=eb (bf cu c)/\pG E X0 R0 rt sb R ps pg M X sp k p t F c X'/\X'.cell? ⟨sb,0,av⟩=aD (e7 (aD ⟨E.tb,0,av⟩))/\X'.cell? ⟨E.tb,0,av⟩=aD (e7 (aD ⟨E.rb,0,av⟩))/\X'.cell? ⟨p,2,av⟩=aD (bf cu page):=by
 obtain⟨lo,h,d⟩:=d;obtain⟨s1,s2,S⟩:=PD d z.sm;have n:=z.sw.ts.mem.nd p _ z.at_;have w:n1.its.length=l'.length:=by
  have:=congrArg List.length z.kvs
  rwa [aT,aT,aq,aT] at this
 have Y:cJ k n1.its=cJ k (aq k l'):=Ju z.kvs;have I:∀i∈n1.its,i.key.length<=96/\i.val.length<=56:=fun i hi=>by
  have L:kv i∈(aq k l').map kv:=by rw[<-z.kvs];exact List.mem_map.2 ⟨i,hi,rfl⟩
  obtain⟨j,N,e⟩:=List.mem_map.1 L;have:=S j N;rw[show j.key=i.key from (Prod.mk.inj e).1,show j.val=i.val from (Prod.mk.inj e).2] at this;exact this
 obtain⟨a,cc,q,-,-⟩:=z.sw.sp;have O:(cJ k (aq k l')).length<=512:=by rw[lM,iH];omega
 have g:(gm.getD page av).isSome=true:=z.pg.kT page (dc aE);have D:=cM g;refine⟨q.cell (j:=0) rfl,z.sw.ts.tree.cell (j:=0) rfl,n.c2,fun V s=> ?_,fun V s=> ?_⟩;·have:=x9 (n.still s) (by show n1.level<=15;omega) (by show n1.its.length<=255;omega) I;rw[show ({n1 with page:=(page:Int)}:NV).level=k from G,show ({n1 with page:=(page:Int)}:NV).its=n1.its from rfl,Y] at this;exact this
 ·have r:=z.sw.still (R':=R1) s (fun _ h=>h) (fun _ h=>dc h);refine (EJ r.ts.rm page _ (by have:=z.few;omega)).mono ?_;rintro e X' ⟨rfl,P,⟨Q,T⟩,K,B⟩;have C:Rm.wrote gm page (bs (cJ k (aq k l'))).size=0:=by have hr:Rm.refuse gm page=0:=(by unfold Rm.refuse;rw[if_pos ⟨by omega,by omega⟩,dF,if_pos g]);unfold Rm.wrote;rw[if_pos hr,if_neg (by rw[aP];omega)]
  have u:Rm.written gm page (bs (cJ k (aq k l'))).data.toList=gm.set page (aD (Dk.full (cJ k (aq k l')))):=by unfold Rm.written;rw[bS,if_pos (by rw[<-C,aP]),dF]
  rw[u] at K;have J:=r.room K B;obtain⟨a3,c3,U,-,-⟩:=J.sp;have W:=J.ts.mem.nd p _ z.at_;have H:=iR.one (pg:=gm) (t:=Dk.full (cJ k (aq k l'))) D;rw[if_pos g] at H;have A:iR pg (gm.set page (aD (Dk.full (cJ k (aq k l'))))) (page::Tr.dW k l') al:=by
   have h3:=z.pg.trans H;rw[bA] at h3;refine⟨h3.len,fun x l=>h3.same x fun m=>l ?_,fun x l=>h3.kT x (l.imp_left fun m=>aj.2 (dc m)),h3.free,h3.nd,h3.used⟩;rcases aj.1 m with m|m;·exact m
   ·grind
  have v:cS (gm.set page (aD (Dk.full (cJ k (aq k l'))))) (k+1) (Tr.mk ⟨aD page,false⟩ l'):=by
   refine⟨⟨page,rfl,by have:=z.pg.len;omega, ?_⟩,rfl,fun x l=>fH (z.st x l) fun y hy=> ?_⟩;·simp_all
   ·rw[oL D,if_neg];rintro rfl;exact z.o (pF l hy)
  refine⟨0,by rw[C],dc ⟨rfl,R1,P,_,M1,Tr.mk ⟨aD page,false⟩ l',jW,al,⟨J,z.pre.trans T,by have:=z.few;omega,z.sm,v,⟨_,z.at_,rfl⟩,fun hs=>(z.keep hs).symm,z.ck,A,z.fy,z.same,(z.but.trans (aG.aJ s (fun _=>False)) (fun _ _ f=>f.elim)).trans B (fun b hb hn=>dc fun hr=>hn (z.sub b hr)),z.sub,z.new,z.mb⟩⟩,U.cell (j:=0) rfl,J.ts.tree.cell (j:=0) rfl,W.c2⟩
theorem Mk {k:Nat} (h:Tr.Hd) (l:List (Tr.Tx×Tr.E k)):Tr.ck (k+1) (Tr.mk h l)=h.page.toList++Tr.dW k l:=rfl
theorem CX (K:Kids E X0 R0 rt sb R ps pg M X sp k p t F n1 l' R1 ps1 gm M1 jW al X1) (p_:n1.level=k) (C:n1.page=zf (Tr.hd t).page) (q:n1.fresh=(Tr.hd t).fresh)
  (held:(Tr.hd t).fresh=false->∃page,(Tr.hd t).page=aD page/\page<65536/\pg.getD page av=aD (Dk.full (cJ k (aq k (Tr.its t))))/\aq k l'=aq k (Tr.its t))
  (d:(Tr.ck (k+1) t++sp).Nodup) (H:∀x∈Tr.ck (k+1) t++sp,(pg.getD x av).isSome=true) (hq:ps.length+4*Tr.cnt (k+1) t<=80000000) (TN:p∈F) (Jo:jW.length<=1000000):
  ∃f,X1.cell? ⟨p,7,av⟩=aD (eX f)/\(f=false->pG E X0 R0 rt sb R ps pg M X sp k p t F 0 X1)/\
  (f=true->∃T:Int,X1.cell? ⟨p,2,av⟩=aD (bf cu T)/\((T=-1/\Calls Tryz.prog 180 #[ptr sb] X1 fun e X'=>(∃page:Nat,e=eb (gu #[bf cu page,bf cu 0])/\(∃v,X'.cell? ⟨p,2,av⟩=aD v)/\X'.frozen? ⟨p,2,av⟩=false/\∃R2 P N M2 Y J,Zn E X0 R0 rt sb R ps pg M X sp k p t F n1 l' page R2 P N M2 Y J (X'.setCell ⟨p,2,av⟩ (bf cu page)))\/(∃v c:Int,e=eb (gu #[bf cu v,bf cu c])/\c≠0/\pG E X0 R0 rt sb R ps pg M X sp k p t F c X'))\/∃page:Nat,T=page/\∃R2 P N M2 Y J,Zn E X0 R0 rt sb R ps pg M X sp k p t F n1 l' page R2 P N M2 Y J X1)):=by
 have hn:=K.sw.ts.mem.nd p _ K.at_;have Wz:1<=Tr.cnt (k+1) t:=Nat.le_add_right 1 _;have n:∀x∈Tr.dW k l',x∈Tr.dW k (Tr.its t)\/x∈sp\/x∈al:=fun x L=>by
  have:=(K.ck.mem_iff (a:=x)).1 (aj.2 (dc L));rcases aj.1 this with h|h;·grind
  ·exact dn (dn h)
 rw[Tr.bC] at d H;refine⟨n1.fresh,hn.c7,fun hf=> ?_,fun hf=>⟨n1.page,hn.c2, ?_⟩⟩
 ·obtain⟨page,j,s,h3,h4⟩:=held (by rw[<-q];exact hf);rw[j] at d H;have O:page∉Tr.dW k l':=fun m=>by
   have hd:=(cL.1 (show (page::(Tr.dW k (Tr.its t)++sp)).Nodup from by simpa using d)).1;rcases n page m with h|h|h;·grind
   ·grind
   ·have:=(K.pg.free page h).1;rw[h3] at this;cases this
  have Q:gm.getD page av=pg.getD page none:=K.pg.same page O;refine dc ⟨rfl,R1,ps1,gm,M1,Tr.mk (Tr.hd t) l',jW,al,⟨K.sw,K.pre,by have:=K.few;omega,K.sm,⟨⟨page,j,s, ?_⟩,q.symm.trans hf,K.st⟩,⟨n1,K.at_,C⟩,fun _=>rfl, ?_, ?_, ?_,K.same,K.but,K.sub,K.new,K.mb⟩⟩;·simp_all
  ·rw[Mk,Tr.bC,aF,aF,aF];refine List.Perm.append_left _ ?_;rw[<-aF];exact K.ck
  ·rw[Mk,j];exact K.pg.more (by rw[Q,h3];rfl)
  ·rw[Tr.bX];have:=K.fy;omega
 ·cases hp:(Tr.hd t).page with
  |some page=>
   right;rw[hp] at C d H;refine⟨page,C,R1,ps1,gm,M1,jW,al,⟨K.sw,K.pre,by have:=K.few;omega,K.sm,K.st, ?_,K.kvs,fun _=>hp, ?_,fun m=> ?_,K.pg.more ?_, ?_,K.same,K.but,K.sub,K.new,K.mb⟩⟩;·have e:({n1 with page:=(page:Int)}:NV)=n1:=(by have e2:n1.page=(page:Int):=C;cases n1;simp only at e2;subst e2;rfl);rw[e];exact K.at_
   ·rw[Tr.bC,hp];show (page::(Tr.dW k l'++jW)).Perm ((page::Tr.dW k (Tr.its t))++sp++al);rw[gJ,gJ];exact List.Perm.cons _ K.ck
   ·have hd:=(cL.1 (show (page::(Tr.dW k (Tr.its t)++sp)).Nodup from by simpa using d)).1;rcases n page m with h|h|h;·grind
    ·grind
    ·have:=(K.pg.free page h).1;have s:=H page (by simp);rw[this] at s;cases s
   ·exact K.pg.keeps (H page (by simp))
   ·rw[Tr.bX];have:=K.fy;omega
  |none=>
   left;rw[hp] at C;have hnw:Tr.fy (k+1) t=1+Tr.kK k (Tr.its t):=(by rw[Tr.bX,hp];rfl);refine⟨C, ?_⟩;cases jW with
   |cons x jW=>
    refine (SW.take (x:=(x:Int)) (l:=gP jW) K.sw (by unfold gP;rw[aT];simp only[a_] at Jo;omega)).mono ?_;rintro e X' ⟨rfl,g,S⟩;have i:=g.ts.mem.nd p _ K.at_;have u:x∉Tr.dW k l'/\(gm.getD x av).isSome=true:=by
     have w:(Tr.dW k (Tr.its t)++sp++al).Nodup:=(by rw[hp] at d H;refine aR.2 ⟨by simpa using d,K.pg.nd,fun a ha b S e=> ?_⟩;subst e;have j:=H a (by simpa using ha);rw[(K.pg.free a S).1] at j;cases j);have jJ:=(K.ck.nodup_iff).2 w;refine⟨fun m=>(aR.1 jJ).2.2 x m x aE rfl, ?_⟩;have:=(K.ck.mem_iff (a:=x)).1 (aj.2 (dn aE));rw[hp] at H;rcases aj.1 this with h|h;·exact K.pg.keeps (H x (by simpa using h))
     ·exact K.pg.kT x (dn h)
    left;refine⟨x,rfl,⟨_,i.c2⟩,i.blk.frozen 2,R1,ps1,gm,upd M1 p {n1 with page:=(x:Int)},jW,al,⟨g.cell K.at_ {n1 with page:=(x:Int)} 2 _ rfl rfl rfl rfl rfl rfl,K.pre,by have:=K.few;omega,K.sm,K.st,bG _ _ _,K.kvs,(fun h=>by rw[hp] at h;cases h), ?_,u.1,K.pg.more u.2,by have:=K.fy;omega,fun r hr=> ?_, ?_,K.sub,K.new,fun b A=> ?_⟩⟩;·rw[Tr.bC,hp];refine List.Perm.trans ?_ K.ck;exact List.perm_middle.symm
    ·rw[aW (fun e=>hr (by rw[e];exact TN))];exact K.same r hr
    ·exact (K.but.trans S (fun b _ e=>dn (dc e))).trans ((aG.refl (fun b=>b=p) X').setCell _ _ fun _=>rfl) (fun b _ e=>by rw[e];exact dn (dn (K.mb p ⟨p,n1,K.at_,dc rfl⟩)))
    ·obtain⟨r,y,hr,B⟩:=A;rcases aN hr with⟨rfl,rfl⟩|⟨_,hr⟩;·exact K.mb b ⟨_,n1,K.at_,B⟩
     ·exact K.mb b ⟨r,y,hr,B⟩
   |nil=>
    obtain⟨a,cc,D,-,-⟩:=K.sw.sp;refine (Fh K.sw.ts D (by have:=K.few;omega)).mono ?_;rintro e X' ⟨rfl,P,⟨hl2,GU⟩,U,A⟩;rcases Rm.nG gm with G|⟨x,G,L,I⟩;·right;refine⟨(Rm.alloc gm).1,(Rm.alloc gm).2,rfl,by unfold Rm.alloc;rw[G];decide,dn ⟨by unfold Rm.alloc;rw[G],R1,M1,P,_,K.sw.ts.vX U A,K.pre.trans GU,by have:=K.few;omega, ?_⟩⟩;have j:=Jv G;have s:=K.pg.used;have h3:=K.pg.len;have h4:=K.fy;omega
    ·left;obtain⟨V,W⟩:=CV G;rw[V];rw[W] at U;have g:=K.sw.room U A;have i:=g.ts.mem.nd p _ K.at_;have o:=iR.one (pg:=gm) (t:=Dk.full []) L;rw[I,if_neg (by decide)] at o;have Z:x∉Tr.dW k l':=fun m=>by have:=K.pg.kT x (dc m);rw[I] at this;cases this
     refine⟨x,rfl,⟨_,i.c2⟩,i.blk.frozen 2,R1,P,_,upd M1 p {n1 with page:=(x:Int)},[],al++[x],⟨g.cell K.at_ {n1 with page:=(x:Int)} 2 _ rfl rfl rfl rfl rfl rfl,K.pre.trans GU,by have:=K.few;omega,K.sm,fun y hy=>fH (K.st y hy) fun z hz=> ?_,bG _ _ _,K.kvs,(fun h=>by rw[hp] at h;cases h), ?_,Z, ?_,by have:=K.fy;rw[au];show al.length+1<=_;omega,fun r hr=> ?_, ?_,K.sub,K.new,fun b bN=> ?_⟩⟩;·grind [oL,pF]
     ·have j:=K.ck;rw[Tr.bC,hp];show ((x::Tr.dW k l')++[]).Perm (Tr.dW k (Tr.its t)++sp++(al++[x]));rw[bA,<-aF];rw[bA] at j;exact ((List.Perm.cons x j).trans (List.perm_append_singleton x _).symm)
     ·have h3:=K.pg.trans o;refine⟨h3.len,fun y hy=>h3.same y fun m=>hy ?_,fun y hy=>h3.kT y (hy.imp_left fun m=> ?_),h3.free,h3.nd,h3.used⟩;·grind
      ·grind
     ·rw[aW (fun e=>hr (by rw[e];exact TN))];exact K.same r hr
     ·exact (K.but.trans A (fun b _ hn=>dc fun hr=>hn (K.sub b hr))).trans ((aG.refl (fun b=>b=p) X').setCell _ _ fun _=>rfl) (fun b _ e=>by rw[e];exact dn (dn (K.mb p ⟨p,n1,K.at_,dc rfl⟩)))
     ·obtain⟨r,y,hr,B⟩:=bN;rcases aN hr with⟨rfl,rfl⟩|⟨_,hr⟩;·exact K.mb b ⟨_,n1,K.at_,B⟩
      ·exact K.mb b ⟨r,y,hr,B⟩
end
theorem rQ:∀l:List (Tr.Tx×Tr.E 0),Tr.dW 0 l=[]
 |[]=>rfl
 |x::l=>by rw[Tr.f_,rQ l];rfl
theorem uP {k:Nat} {lo:Tr.Tx} {h:Option Tr.Tx} {t:Tr.E (k+2)} (b:Tr.Ok (k+2) lo h t):∀x∈Tr.its t,∃lo h,Tr.Ok (k+1) lo h x.2:=by
 intro x H;obtain⟨_,_,_,hs⟩:=b;rw[Tr.dN] at hs;cases hi:Tr.its t with
 |nil=>rw[hi] at H;cases H
 |cons a l=>
  rw[hi] at H hs;rcases aX.1 H with rfl|H;·obtain⟨u,hu⟩:=Tr.dB.each hs (lo,x.2) aE;exact⟨_,u,hu⟩
  ·obtain⟨u,hu⟩:=Tr.dB.each hs x (aI _ H);exact⟨_,u,hu⟩
theorem iR.WA {pg dh:List (Option Wl.Text)} {Mh al l:List Nat} (h:iR pg dh Mh al) (hl:∀x∈l,(dh.getD x av).isSome=true):iR pg dh (Mh++l) al:=
 ⟨h.len,fun y hy=>h.same y fun H=>hy (aj.2 (dc H)),fun y hy=>by
  rcases hy with hy|hy
  ·rcases aj.1 hy with hy|hy;·exact h.kT y (dc hy)
   ·exact hl y hy
  ·exact h.kT y (dn hy),h.free,h.nd,h.used⟩
theorem rR {α:Type} (f:α->Nat) (l:List α) (j:Nat) (h:j<l.length):((l.take (j+1)).map f).sum=((l.take j).map f).sum+f l[j]/\((l.take (j+1)).map f).sum<=(l.map f).sum:=by
 have H:l.take (j+1)=l.take j++[l[j]]:=cC h;refine⟨by rw[H,bQ,List.sum_append];simp, ?_⟩;have a:l.map f=(l.take (j+1)).map f++(l.drop (j+1)).map f:=by rw[<-bQ,cP]
 rw[a,List.sum_append];omega
section
variable {E:Ev} {X0 X X' X1 V:World} {R0 R R' R1 S:Nat->Prop} {ps ps' ps1:List (Nat×List UInt8)} {pg dh gm:List (Option Wl.Text)} {rt:List Nat} {M M' M1:Nat->Option NV} {k p q sb:Nat} {n:NV} {sp jW al F:List Nat} {t:Tr.E (k+1)}
def uQ (k:Nat):Prop:=∀{E:Ev} {X0 X:World} {R0 R:Nat->Prop} {ps:List (Nat×List UInt8)} {pg:List (Option Wl.Text)} {rt:List Nat} {M:Nat->Option NV} {p sb:Nat} {sp F:List Nat} {t:Tr.E (k+1)},
 SW E X0 R0 R ps pg rt M X sb (gP sp)->dO M pg k p t F->F.Nodup->(∃lo h,Tr.Ok (k+1) lo h t)->(Tr.ck (k+1) t++sp).Nodup->(∀x∈Tr.ck (k+1) t++sp,(pg.getD x av).isSome=true)->pg.length<=65536->ps.length+4*Tr.cnt (k+1) t<=80000000->
 Calls Tryz.prog 139 #[ptr sb,ptr p] X fun e X'=>∃c:Int,e=eb (bf cu c)/\pG E X0 R0 rt sb R ps pg M X sp k p t F c X'
theorem e8:∀{n:Nat} {l:List Nat},l.Nodup->(∀x∈l,x<n)->l.length<=n
 |0,[],_,_=>ah _
 |0,a::_,_,h=>absurd (h a aE) (Nat.not_lt_zero _)
 |n+1,l,hn,h=>by
  have b:=e8 (n:=n) (l:=l.erase n) (hn.erase n) fun x H=>by
   have c:=h x (List.mem_of_mem_erase H);have h3:x≠n:=fun e=>by subst e;exact hn.not_mem_erase H
   omega
  by_cases d:n∈l;·grind
  ·grind
theorem Kids.still {n1:NV} {l':List (Tr.Tx×Tr.E k)} (K:Kids E X0 R0 rt sb R ps pg M X sp k p t F n1 l' R1 ps1 gm M1 jW al X1) (H:Below X1.heap.size X1 V):Kids E X0 R0 rt sb R ps pg M X sp k p t F n1 l' R1 ps1 gm M1 jW al V:=
 ⟨K.sw.still H (fun _ h=>h) (fun _ h=>dc h),K.pre,K.few,K.sm,K.st,K.at_,K.kvs,K.ck,K.pg,K.fy,K.same,K.but.trans (aG.aJ H (fun _=>False)) (fun _ _ f=>f.elim),K.sub,K.new,K.mb⟩
theorem Fi:uQ 0:=by
 intro E X0 X R0 R ps pg rt M p sb sp F t hs hr hF d H a g e;obtain⟨n,hn,b,hi,rfl⟩:=hr;have D:1<=Tr.cnt (0+1) t:=Nat.le_add_right 1 _;have J:=hs.ts.mem.nd p n hn;have I:sp.length<=65536:=aH (e8 (aR.1 H).2.1 fun x m=>cM (a x (aj.2 (dn m)))) g;have i:n.its.length=(Tr.its t).length:=by rw[hi];exact aT _
 have o:Kids E X0 R0 rt sb R ps pg M X sp 0 p t [p] n (Tr.its t) R ps pg M sp [] X:=⟨hs,List.prefix_refl _,by omega,Tr.mJ.refl (Tr.Sm.refl 0) _,fun _ _=>trivial,hn,by rw[hi],by rw[bA],by rw[rQ];exact iR.refl pg,aB _,fun _ _=>rfl,aG.refl _ _,fun _ h=>h,fun _ h=>dc h,fun _ h=>h⟩;have f:Wrs sb p E.tb E.rb n.its.length n.rg n.ro n.cap (fun _ V=>Kids E X0 R0 rt sb R ps pg M X sp 0 p t [p] n (Tr.its t) R ps pg M sp [] V) (fun page V=>∃R2 P N M2 y l,Zn E X0 R0 rt sb R ps pg M X sp 0 p t [p] n (Tr.its t) page R2 P N M2 y l V) (fun c V=>pG E X0 R0 rt sb R ps pg M X sp 0 p t [p] c V):=by
  refine⟨fun j V k=>(k.sw.ts.mem.nd p n hn).c1,fun j V k r=>⟨n.its[j],v_.of (k.sw.ts.mem.nd p n hn).row r,fun _ W f=>k.still f,fun q e=> ?_⟩,fun V k=> ?_,fun page V s=> ?_⟩;·simp_all[aq]
  ·refine CX k b.level b.page b.fresh (fun hf=> ?_) H a e aE (by omega);obtain⟨page,u,v,h3,_⟩:=b.held hf;exact⟨page,u,v,h3,rfl⟩
  ·obtain⟨R2,P,N,M2,y,l,z⟩:=s;obtain⟨G,w,A,B,C⟩:=CW z d b.level (aB _) g e;exact⟨G,w,A,_,B,C⟩
 exact wS f o J.small.len J.small.cap.1
structure nN (E:Ev) (X0:World) (R0:Nat->Prop) (rt:List Nat) (sb:Nat) (R:Nat->Prop) (ps:List (Nat×List UInt8)) (pg:List (Option Wl.Text)) (M:Nat->Option NV) (X:World) (sp:List Nat) (k p:Nat) (t:Tr.E (k+2)) (fs:List (List Nat)) (n:NV) (j:Nat) (J:List It) (l':List (Tr.Tx×Tr.E (k+1))) (R1:Nat->Prop) (ps1:List (Nat×List UInt8)) (gm:List (Option Wl.Text)) (M1:Nat->Option NV) (jW al:List Nat) (X1:World):Prop where
 sw:SW E X0 R0 R1 ps1 gm rt M1 X1 sb (gP jW)
 pre:ps<+:ps1
 few:ps1.length<=ps.length+4*(((Tr.its t).take j).map fun p=>Tr.cnt (k+1) p.2).sum
 sm:Tr.mJ (Tr.Sm (k+1)) ((Tr.its t).take j) l'
 st:∀x∈l',cS gm (k+1) x.2
 at_:M1 p=aD {n with its:=J++n.its.drop j}
 jl:J.length=j
 le:j<=n.its.length
 kvs:J.map kv=(aq (k+1) l').map kv
 keep:(∀x∈(Tr.its t).take j,(Tr.hd x.2).page.isSome=true)->aq (k+1) l'=aq (k+1) ((Tr.its t).take j)
 ck:(Tr.dW (k+1) l'++jW).Perm (Tr.dW (k+1) ((Tr.its t).take j)++sp++al)
 pg:iR pg gm (Tr.dW (k+1) l') al
 fy:al.length<=Tr.kK (k+1) ((Tr.its t).take j)
 same:∀r,r∉p::(fs.take j).flatten->M1 r=M r
 but:aG (fun b=>¬R b\/b=sb\/MB M b) X X1
 sub:∀b,R b->R1 b
 new:∀b,R1 b->R b\/X.heap.size<=b
 mb:∀b,MB M1 b->MB M b
theorem nN.still {t:Tr.E (k+2)} {fs:List (List Nat)} {j:Nat} {J:List It} {l':List (Tr.Tx×Tr.E (k+1))} (K:nN E X0 R0 rt sb R ps pg M X sp k p t fs n j J l' R1 ps1 gm M1 jW al X1) (H:Below X1.heap.size X1 V):nN E X0 R0 rt sb R ps pg M X sp k p t fs n j J l' R1 ps1 gm M1 jW al V:=
 ⟨K.sw.still H (fun _ h=>h) (fun _ h=>dc h),K.pre,K.few,K.sm,K.st,K.at_,K.jl,K.le,K.kvs,K.keep,K.ck,K.pg,K.fy,K.same,K.but.trans (aG.aJ H (fun _=>False)) (fun _ _ f=>f.elim),K.sub,K.new,K.mb⟩
theorem sZ {t:Tr.E (k+2)} {fs:List (List Nat)} {j:Nat} {J:List It} {l':List (Tr.Tx×Tr.E (k+1))} (K:nN E X0 R0 rt sb R ps pg M X sp k p t fs n j J l' R1 ps1 gm M1 jW al X1) (v:j<(Tr.its t).length) (l:(Tr.ck (k+2) t++sp).Nodup) (m:∀x∈Tr.ck (k+2) t++sp,(pg.getD x av).isSome=true):
  (∀x∈Tr.ck (k+1) ((Tr.its t)[j]).2,gm.getD x av=pg.getD x av/\x∉Tr.dW (k+1) l')/\(Tr.ck (k+1) ((Tr.its t)[j]).2++jW).Nodup/\(∀x∈Tr.ck (k+1) ((Tr.its t)[j]).2++jW,(gm.getD x av).isSome=true):=by
 have f:∀x∈Tr.ck (k+1) ((Tr.its t)[j]).2,x∈Tr.dW (k+1) (Tr.its t):=fun x h=>pF (bI v) h;rw[Tr.bC,aF] at l m;have N:=(aR.1 l).2.1;have P:∀x∈Tr.dW (k+1) (Tr.its t)++sp,(pg.getD x av).isSome=true:=fun x h=>m x (aj.2 (dn h));have d:Tr.its t=(Tr.its t).take j++(Tr.its t)[j]::(Tr.its t).drop (j+1):=by rw[lT,cP]
 have o:Tr.dW (k+1) (Tr.its t)=Tr.dW (k+1) ((Tr.its t).take j)++(Tr.ck (k+1) ((Tr.its t)[j]).2++Tr.dW (k+1) ((Tr.its t).drop (j+1))):=by
  conv=>lhs;rw[d]
  rw[Tr.bU,Tr.f_]
 have g:(Tr.dW (k+1) ((Tr.its t).take j)++sp++al).Nodup:=by
  refine aR.2 ⟨?_,K.pg.nd,fun a ha b q e=> ?_⟩;·rw[o,aF] at N;have H:=aR.1 N;have s:=aR.1 H.2.1;exact aR.2 ⟨H.1,s.2.1,fun a ha b q=>H.2.2 a ha b (aj.2 (dn q))⟩
  ·subst e
   have H:(pg.getD a av).isSome=true:=P a (by
    rw[o];rcases aj.1 ha with ha|ha;·exact aj.2 (dc (aj.2 (dc ha)))
    ·exact aj.2 (dn ha))
   rw[(K.pg.free a q).1] at H;cases H
 have r:∀x∈Tr.ck (k+1) ((Tr.its t)[j]).2,x∉Tr.dW (k+1) ((Tr.its t).take j)++sp++al:=fun x h c=>by
  rw[o,aF,aF] at N;have H:=aR.1 N;have s:=aR.1 H.2.1;rcases aj.1 c with c|c
  ·rcases aj.1 c with c|c;·exact H.2.2 x c x (aj.2 (dc h)) rfl
   ·exact s.2.2 x h x (aj.2 (dn c)) rfl
  ·have h3:=P x (aj.2 (dc (f x h)));rw[(K.pg.free x c).1] at h3;cases h3
 have i:∀x∈Tr.ck (k+1) ((Tr.its t)[j]).2,x∉Tr.dW (k+1) l'/\x∉jW:=fun x h=>
  ⟨fun c=>r x h ((K.ck.mem_iff).1 (aj.2 (dc c))),fun c=>r x h ((K.ck.mem_iff).1 (aj.2 (dn c)))⟩
 have u:=(aR.1 ((K.ck.nodup_iff).2 g)).2.1;refine⟨fun x h=>⟨K.pg.same x (i x h).1,(i x h).1⟩,aR.2 ⟨?_,u,fun a ha b q e=>(i a ha).2 (by rw[e];exact q)⟩,fun x h=> ?_⟩;·rw[o,aF,aF] at N;exact (aR.1 (aR.1 N).2.1).1
 ·rcases aj.1 h with h|h;·exact K.pg.keeps (P x (aj.2 (dc (f x h))))
  ·have H:=(K.ck.mem_iff (a:=x)).1 (aj.2 (dn h));rcases aj.1 H with H|H
   ·refine K.pg.keeps (P x ?_);rw[o];rcases aj.1 H with H|H;·exact aj.2 (dc (aj.2 (dc H)))
    ·exact aj.2 (dn H)
   ·exact K.pg.kT x (dn H)
end
section
variable {E:Ev} {X0 X X' X1 V:World} {R0 R R' R1 S:Nat->Prop} {ps ps' ps1:List (Nat×List UInt8)} {pg dh gm:List (Option Wl.Text)} {rt:List Nat} {M M' M1:Nat->Option NV} {k p q sb:Nat} {n:NV} {sp jW al F:List Nat} {J:List It} {l':List (Tr.Tx×Tr.E (k+1))} {t:Tr.E (k+2)} {fs:List (List Nat)} {j:Nat}
theorem Jy (K:nN E X0 R0 rt sb R ps pg M X sp k p t fs n j J l' R1 ps1 gm M1 jW al X1) (m:j<n.its.length) (b:j<(Tr.its t).length) (d:(Tr.ck (k+2) t++sp).Nodup) (f:∀x∈Tr.ck (k+2) t++sp,(pg.getD x av).isSome=true)
  (c:n.its[j].key=((Tr.its t)[j]).1) (hval:n.its[j].val=ej (k+1) ((Tr.its t)[j]).2) (g:cS pg (k+1) ((Tr.its t)[j]).2) (i:(fs.take j).flatten=(fs.take (j+1)).flatten):
  nN E X0 R0 rt sb R ps pg M X sp k p t fs n (j+1) (J++[n.its[j]]) (l'++[(Tr.its t)[j]]) R1 ps1 gm M1 jW al X1:=by
 obtain⟨o,r,h3⟩:=sZ K b d f;have l:(Tr.its t).take (j+1)=(Tr.its t).take j++[(Tr.its t)[j]]:=cC b;have A:cS gm (k+1) ((Tr.its t)[j]).2:=fH g fun x h=>(o x h).1;have H:Tr.dW (k+1) [(Tr.its t)[j]]=Tr.ck (k+1) ((Tr.its t)[j]).2:=Tr.gU _ _;refine⟨K.sw,K.pre, ?_, ?_,fun x h=> ?_, ?_,by rw[au,K.jl];rfl,m, ?_,fun hs=> ?_, ?_, ?_, ?_,by rw[<-i];exact K.same,K.but,K.sub,K.new,K.mb⟩;·have:=(rR (fun p:Tr.Tx×Tr.E (k+1)=>Tr.cnt (k+1) p.2) (Tr.its t) j b).1;have:=K.few;omega
 ·rw[l];exact K.sm.append ⟨⟨rfl,Tr.Sm.refl _ _⟩,trivial⟩
 ·rcases aj.1 h with h|h;·exact K.st x h
  ·grind
 ·rw[K.at_,aF,List.singleton_append,lT]
 ·rw[bQ,K.kvs,dK,bQ];congr 1;show [kv n.its[j]]=[kv _];unfold kv;rw[c,hval]
 ·rw[l,dK,dK,K.keep fun x h=>hs x (by rw[l];exact aj.2 (dc h))]
 ·rw[l,Tr.bU,Tr.bU,H];have e:=K.ck;rw[List.perm_iff_count] at e |-;intro a;have q:=e a;simp only[List.count_append] at q |-;omega
 ·rw[Tr.bU,H];exact K.pg.WA fun x h=>h3 x (aj.2 (dc h))
 ·rw[l,Tr.cH];have:=K.fy;omega
theorem Mm {a b a' B:Nat} (K:nN E X0 R0 rt sb R ps pg M X sp k p t fs n j J l' R1 ps1 gm M1 jW al X1) (h:CU E X0 R0 rt ps1 gm a b X') (ha:(((Tr.its t).take j).map fun p=>Tr.cnt (k+1) p.2).sum+a<=a') (d:Tr.kK (k+1) ((Tr.its t).take j)+b<=B):CU E X0 R0 rt ps pg a' B X':=by
 obtain⟨R',M',ps',dh,H,c,h3,h4⟩:=h;refine⟨R',M',ps',dh,H,K.pre.trans c, ?_, ?_⟩;·have:=K.few;omega
 ·have:=K.pg.len;have:=K.pg.used;have:=K.fy;omega
theorem Fk {q:Nat} {f:List Nat} {R2 R3:Nat->Prop} {S:List (Nat×List UInt8)} {P:List (Option Wl.Text)} {M3:Nat->Option NV} {T:Tr.E (k+1)} {s A:List Nat} {X3:World} {page:Nat}
  (K:nN E X0 R0 rt sb R ps pg M X sp k p t fs n j J l' R1 ps1 gm M1 jW al X1) (Q:Below X1.heap.size X1 V) (Z:∀b,R1 b->R2 b) (z:∀b,R2 b->R1 b\/X1.heap.size<=b) (B:j<n.its.length) (l:j<(Tr.its t).length) (m:(Tr.ck (k+2) t++sp).Nodup) (o:∀x∈Tr.ck (k+2) t++sp,(pg.getD x av).isSome=true)
  (u:n.its[j].key=((Tr.its t)[j]).1) (Wf:(fs.take (j+1)).flatten=(fs.take j).flatten++f) (C:p∉f) (lK:n.its[j].key.length<=200)
  (wr:Rh E X0 R0 rt sb R2 ps1 gm M1 V jW k q ((Tr.its t)[j]).2 f R3 S P M3 T s A X3) (cG:(Tr.hd T).page=aD page) {W:World} (U:Below X3.heap.size X3 W):
  ∃M4,nN E X0 R0 rt sb R ps pg M X sp k p t fs n (j+1) (J++[{n.its[j] with val:=pv page}]) (l'++[(((Tr.its t)[j]).1,T)]) R3 S P M4 s (al++A) (W.setCell ⟨n.rg,n.ro+(j*3+1),av⟩ (bR (bs (pv page)))):=by
 obtain⟨h1,h2,h3⟩:=sZ K l m o;have L:(Tr.its t).take (j+1)=(Tr.its t).take j++[(Tr.its t)[j]]:=cC l;have i:Tr.dW (k+1) [(((Tr.its t)[j]).1,T)]=Tr.ck (k+1) T:=Tr.gU _ _;have WB:Tr.dW (k+1) [(Tr.its t)[j]]=Tr.ck (k+1) ((Tr.its t)[j]).2:=Tr.gU _ _;have PI:M3 p=aD {n with its:=J++n.its.drop j}:=by rw[wr.same p C];exact K.at_
 have D:=wr.sw.still (R':=R3) U (fun _ h=>h) (fun _ h=>dc h);have v:j<(J++n.its.drop j).length:=by rw[au,K.jl,aZ];omega
 have jI:(J++n.its.drop j)[j]=n.its[j]:=by
  have e:(J++n.its.drop j)[j]?=aD n.its[j]:=by rw[iy (by rw[K.jl];exact ah _),K.jl,Nat.sub_self,List.getElem?_drop,d_,aK B]
  rw[aK v] at e;exact Option.some.inj e
 have F:=D.item PI j 1 v (by decide) {n.its[j] with val:=pv page} (bR (bs (pv page))) (by
  show ak.enc {n.its[j] with val:=pv page}=(ak.enc ((J++n.its.drop j)[j])).set 1 _;rw[jI];rfl) ⟨lK,by show 2<=200;decide⟩
 have pP:(J++n.its.drop j).set j {n.its[j] with val:=pv page}=(J++[{n.its[j] with val:=pv page}])++n.its.drop (j+1):=by rw[cw B,List.set_append_right _ _ (by rw[K.jl];exact ah _),K.jl,Nat.sub_self,ay,aF];rfl
 have GM:∀x∈Tr.dW (k+1) l',x∉Tr.ck (k+1) T:=fun x c d=>by
  have h4:=(wr.ck.mem_iff (a:=x)).1 (aj.2 (dc d));have yE:x∈Tr.dW (k+1) l'++jW:=aj.2 (dc c);rcases aj.1 h4 with h4|h4
  ·rcases aj.1 h4 with h4|h4;·exact (h1 x h4).2 c
   ·have w:(Tr.dW (k+1) l'++jW).Nodup:=by
     rw[Tr.bC,aF] at m;have Y:=(aR.1 m).2.1;refine (K.ck.nodup_iff).2 (aR.2 ⟨?_,K.pg.nd,fun a ha b H e=> ?_⟩);·have g:Tr.its t=(Tr.its t).take j++(Tr.its t).drop j:=(cP _ _).symm;rw[g,Tr.bU,aF] at Y;have G:=aR.1 Y;have I:=aR.1 G.2.1;exact aR.2 ⟨G.1,I.2.1,fun a ha b H=>G.2.2 a ha b (aj.2 (dn H))⟩
     ·subst e
      have G:(pg.getD a av).isSome=true:=o a (by
       rw[Tr.bC,aF];refine aj.2 (dn ?_);rcases aj.1 ha with ha|ha;·obtain⟨y,hy,N⟩:=List.mem_flatMap.1 ha;exact aj.2 (dc (pF (List.mem_of_mem_take hy) N))
       ·exact aj.2 (dn ha))
      rw[(K.pg.free a H).1] at G;cases G
    exact (aR.1 w).2.2 x c x h4 rfl
  ·have h5:=K.pg.kT x (dc c);rw[(wr.pg.free x h4).1] at h5;cases h5
 have hXV:=Q.size;refine⟨upd M3 p {n with its:=(J++[{n.its[j] with val:=pv page}])++n.its.drop (j+1)},⟨?_,K.pre.trans wr.pre, ?_, ?_,fun x c=> ?_,bG _ _ _,by rw[au,K.jl];rfl,B, ?_,fun hs=> ?_, ?_, ?_, ?_,fun r hr=> ?_, ?_,fun b H=>wr.sub b (Z b (K.sub b H)),fun b H=> ?_,fun b H=> ?_⟩⟩;·have:=F;dsimp only at this;rw[pP] at this;exact this
 ·have e1:=(rR (fun p:Tr.Tx×Tr.E (k+1)=>Tr.cnt (k+1) p.2) (Tr.its t) j l).1;have O:=K.few;have e3:=wr.few;omega
 ·rw[L];exact K.sm.append ⟨⟨rfl,wr.sm⟩,trivial⟩
 ·rcases aj.1 c with c|c;·exact fH (K.st x c) fun y hy=>wr.pg.same y fun d=>GM y (pF c hy) d
  ·rw[cQ.1 c];exact wr.st
 ·rw[bQ,K.kvs,dK,bQ];congr 1;show [kv {n.its[j] with val:=pv page}]=[kv _];unfold kv;dsimp only;rw[u];show [(_,pv page)]=[(_,pv ((Tr.hd T).page.getD 0))];rw[cG];rfl
 ·rw[L,dK,dK,K.keep fun x c=>hs x (by rw[L];exact aj.2 (dc c))];congr 1;have h4:=wr.keep (hs _ (by rw[L];exact aj.2 (dn aE)));show [(⟨((Tr.its t)[j]).1,ej (k+1) T,av⟩:It)]=[⟨((Tr.its t)[j]).1,ej (k+1) ((Tr.its t)[j]).2,av⟩];rw[CB h4]
 ·rw[L,Tr.bU,Tr.bU,i,WB];have e:=K.ck;have e':=wr.ck;rw[List.perm_iff_count] at e e' |-;intro a;have O:=e a;have e3:=e' a;simp only[List.count_append] at O e3 |-;omega
 ·rw[Tr.bU,i];exact K.pg.trans wr.pg
 ·rw[L,Tr.cH,Tr.iG,au];have e1:=K.fy;have O:=wr.fy;omega
 ·rw[Wf] at hr;have O3:r≠p:=fun e=>hr (by rw[e];exact aE);rw[aW O3,wr.same r fun d=>hr (aI _ (aj.2 (dn d)))]
  exact K.same r fun d=>hr (by
   rcases aX.1 d with rfl|d;·exact aE
   ·exact aI _ (aj.2 (dc d)))
 ·have G:=K.but.trans (aG.aJ Q (fun _=>False)) (fun _ _ f=>f.elim)
  have I:=G.trans wr.but (fun b hlt H=>by
   rcases H with H|H|H;·exact dc fun hr=>H (Z b (K.sub b hr))
   ·exact dn (dc H)
   ·exact dn (dn (K.mb b H)))
  have g3:=I.trans (aG.aJ U (fun _=>False)) (fun _ _ f=>f.elim);exact g3.trans ((aG.refl (fun b=>b=n.rg) W).setCell _ _ fun _=>rfl) (fun b _ e=>by rw[e];exact dn (dn (K.mb _ ⟨p,_,K.at_,dn rfl⟩)))
 ·rcases wr.new b H with H|H
  ·rcases z b H with H|H;·exact K.new b H
   ·right;have:=K.but.size;omega
  ·right;have:=K.but.size;omega
 ·obtain⟨r,y,hr,hk⟩:=H;rcases aN hr with⟨rfl,rfl⟩|⟨_,hr⟩;·exact K.mb b ⟨_,_,K.at_,hk⟩
  ·exact K.mb b (wr.mb b ⟨r,y,hr,hk⟩)
end
theorem bp.at_ {pg:List (Option Wl.Text)} {k:Nat} {R:Nat->Tr.E (k+1)->List Nat->Prop} {is:List It} {xs:List (Tr.Tx×Tr.E (k+1))} {fs:List (List Nat)} {j:Nat} (h:bp pg k R is xs fs) (H:j<is.length) (a:j<xs.length) (h3:j<fs.length):jB pg k R is[j] xs[j] fs[j]:=by
 induction is generalizing xs fs j with
 |nil=>cases H
 |cons i is I=>
  cases xs with
  |nil=>cases a
  |cons x xs=>cases fs with
   |nil=>cases h3
   |cons f fs=>
    cases j with
    |zero=>exact h.1
    |succ j=>exact I h.2 (by simpa using H) (by simpa using a) (by simpa using h3)
theorem rS {fs:List (List Nat)} {j:Nat} (h:j<fs.length):(fs.take (j+1)).flatten=(fs.take j).flatten++fs[j]:=by rw[cC h,dL];simp
theorem Fl {k:Nat} (hk:k+1<=15) (ih:uQ k):uQ (k+1):=by
 intro E X0 X R0 R ps pg rt M p sb sp F t hs hr hF s i d py y;obtain⟨n,fs,hn,N,S,rfl⟩:=hr;obtain⟨lo,h,s⟩:=s;have Jx:=hs.ts.mem.nd p n hn;have hl:=S.len;have tZ:=(cL.1 hF).1;have u:=(cL.1 hF).2;have sL:Tr.cnt (k+1+1) t=1+((Tr.its t).map fun p=>Tr.cnt (k+1) p.2).sum:=rfl;have h0:nN E X0 R0 rt sb R ps pg M X sp k p t fs n 0 [] [] R ps pg M sp [] X:=⟨hs,List.prefix_refl _,by simp,trivial,fun _ A=>(by cases A),hn,rfl,aB _,rfl,fun _=>rfl,by simp[Tr.dW],iR.refl pg,aB _,fun _ _=>rfl,aG.refl _ _,fun _ h=>h,fun _ h=>dc h,fun _ h=>h⟩;have B:Wrs sb p E.tb E.rb n.its.length n.rg n.ro n.cap (fun j V=>∃J l' R1 ps1 gm M1 jW al,nN E X0 R0 rt sb R ps pg M X sp k p t fs n j J l' R1 ps1 gm M1 jW al V) (fun page V=>∃n1 l' R2 P O M2 Y Q,n1.level=k+1/\Zn E X0 R0 rt sb R ps pg M X sp (k+1) p t (p::fs.flatten) n1 l' page R2 P O M2 Y Q V) (fun c V=>pG E X0 R0 rt sb R ps pg M X sp (k+1) p t (p::fs.flatten) c V):=by
  have hcell:∀{j J l' R1 ps1 gm M1 jW al X1},nN E X0 R0 rt sb R ps pg M X sp k p t fs n j J l' R1 ps1 gm M1 jW al X1->Nd X1 p {n with its:=J++n.its.drop j}/\(J++n.its.drop j).length=n.its.length:=fun K=>⟨K.sw.ts.mem.nd p _ K.at_,by
   have:=K.jl;have:=K.le;rw[au,aZ];omega⟩
  refine⟨?_, ?_, ?_, ?_⟩;·rintro j V ⟨J,l',R1,ps1,gm,M1,jW,al,K⟩;obtain⟨G,C⟩:=hcell K;have:=G.c1;rw[show ({n with its:=J++n.its.drop j}:NV).its.length=n.its.length from C] at this;exact this
  ·rintro j V ⟨J,l',R1,ps1,gm,M1,jW,al,K⟩ T;obtain⟨G,C⟩:=hcell K;have g:j<(Tr.its t).length:=(by omega);have D:j<fs.length:=(by omega);have w:=S.at_ T g D;have jI:(J++n.its.drop j)[j]'(by omega)=n.its[j]:=(by have e:(J++n.its.drop j)[j]?=aD n.its[j]:=(by rw[iy (by rw[K.jl];exact ah _),K.jl,Nat.sub_self,List.getElem?_drop,d_,aK T]);rw[aK (by omega)] at e;exact Option.some.inj e);have hit:v_ V n.rg n.ro j n.its[j]:=(by have:=v_.of (j:=j) G.row (by show j<(J++n.its.drop j).length;omega);rw[<-jI];exact this);obtain⟨q1,q2,q3⟩:=sZ K g i d;refine⟨n.its[j],hit,fun H W B=> ?_,fun q y V2 ib hV aaf aag=> ?_⟩
   ·rcases w.2.2 with⟨_,hfe,hv,hst⟩|⟨q,y,_⟩;·exact⟨_,_,R1,ps1,gm,M1,jW,al,(Jy K T g i d w.1 hv hst (by rw[rS D,hfe,bA])).still B⟩
    ·rw[y] at H;cases H
   ·rcases w.2.2 with⟨H,_⟩|⟨q',mO,y8⟩;·rw[H] at y;cases y
    ·rw[y] at mO;cases mO;have Ri:∀r∈fs[j],r∉p::(fs.take j).flatten:=fun r hr I=>by
      have U:fs.flatten=(fs.take j).flatten++(fs[j]++(fs.drop (j+1)).flatten):=by
       have e:fs=fs.take j++fs[j]::fs.drop (j+1):=by rw[lT,cP]
       conv=>lhs;rw[e]
       rw[dL,dA]
      rcases aX.1 I with rfl|I;·exact tZ (by rw[U];exact aj.2 (dn (aj.2 (dc hr))))
      ·rw[U] at u;exact (aR.1 u).2.2 r I r (aj.2 (dc hr)) rfl
     have Z:p∉fs[j]:=fun I=>Ri p I aE;have hfj:fs[j].Nodup:=(by have e:fs=fs.take j++fs[j]::fs.drop (j+1):=(by rw[lT,cP]);rw[e,dL,dA] at u;exact (aR.1 (aR.1 u).2.1).1);have mT:dO M1 gm k q ((Tr.its t)[j]).2 fs[j]:=zB y8 (fun r hr=>K.same r (Ri r hr)) fun x A=>(q1 x A).1;obtain⟨R2,zx⟩:∃R2:Nat->Prop,R2=fun b=>R1 b\/(V.heap.size<=b/\b<V2.heap.size):=⟨_,rfl⟩;have aah:SW E X0 R0 R2 ps1 gm rt M1 V2 sb (gP jW):=K.sw.still hV (by rw[zx];exact fun _ h=>dc h) (by rw[zx];exact fun _ h=>h);have hcs:=rR (fun p:Tr.Tx×Tr.E (k+1)=>Tr.cnt (k+1) p.2) (Tr.its t) j g;have I8:Tr.kK (k+1) ((Tr.its t).take j)+Tr.fy (k+1) ((Tr.its t)[j]).2<=Tr.fy (k+2) t:=(by have e:=rR (fun p:Tr.Tx×Tr.E (k+1)=>Tr.fy (k+1) p.2) (Tr.its t) j g;have L:Tr.fy (k+2) t=_:=Tr.bX (k+1) t;unfold Tr.kK at L |-;omega);have O_:=K.few;have aaM:=K.pg.len;refine (ih aah mT hfj (uP s _ (bI g)) q2 q3 (by omega) (by omega)).mono ?_;rintro e X3 ⟨c,rfl,⟨rfl,R3,SM,pg3,M3,t3,sp3,al3,wr⟩|⟨rfl,hlk⟩⟩
     ·left;obtain⟨page,cG,pO,-⟩:=wr.st.1;obtain⟨n3,hn3,aai⟩:=wr.at_;have PI:M3 p=aD {n with its:=J++n.its.drop j}:=(by rw[wr.same p Z];exact K.at_);have Mn:=wr.sw.ts.mem;have AG:=Mn.nd p _ PI;have aaj:ib≠sb:=(by have:=K.sw.aaa;omega);have aak:¬MB M1 ib:=fun I=>by have:=K.sw.ts.mem.mu I;omega
      have aal:¬(¬R2 ib\/ib=sb\/MB M1 ib):=by
       rw[zx];rintro (hh|hh|hh);·exact hh (dn ⟨aaf,aag⟩)
       ·exact aaj hh
       ·exact aak hh
      have hfz:∀W,Below X3.heap.size X3 W->W.frozen? ⟨n.rg,n.ro+j*3+1,av⟩=false:=fun W B=>by obtain⟨cur,hc⟩:=(Mn.still B).ty p _ PI;have yD:W.heap[n.rg]?=aD (ey cur 122 (0,0)):=hc;simp[World.frozen?,yD]
      have aam:=bh AG.row j (by show j<(J++n.its.drop j).length;omega);refine⟨page,rfl,fun o v hv=> ?_, ?_, ?_,pO,⟨_,aam.2.1⟩,hfz,fun W B=> ?_⟩;·exact wr.but.cell hv aal
      ·have:=AG.c1;rw[show ({n with its:=J++n.its.drop j}:NV).its.length=n.its.length from C] at this;exact this
      ·have:=(Mn.nd q _ hn3).c2;rw[aai,cG] at this;exact this
      ·obtain⟨M4,kd4⟩:=Fk (R2:=R2) K hV (by rw[zx];exact fun _ h=>dc h) (by rw[zx];exact fun _ h=>h.imp_right fun h=>h.1) T g i d w.1 (rS D) Z (Jx.small.each _ (bI T)).1 wr cG B;exact⟨_,_,_,_,_,M4,_,_,kd4⟩
     ·right;exact⟨4,rfl,by decide,dn ⟨rfl,Mm K hlk (by rw[sL];omega) I8⟩⟩
  ·rintro V ⟨J,l',R1,ps1,gm,M1,jW,al,K⟩;have hL:(Tr.its t).take n.its.length=Tr.its t:=cg (by omega);have hLf:fs.take n.its.length=fs:=cg (by omega);have hat:=K.at_;rw[List.drop_length,bA] at hat;have BQ:=K.sm;have l:=K.keep;have wO:=K.ck;have Pv:=K.fy;have m:=K.same;have O_:=K.few;rw[hL] at BQ l wO Pv O_;rw[hLf] at m;have Jo:jW.length<=65536:=by
    have nr:(Tr.dW (k+1) (Tr.its t)++sp++al).Nodup:=(by rw[Tr.bC,aF] at i d;refine aR.2 ⟨(aR.1 i).2.1,K.pg.nd,fun a ha b hb e=> ?_⟩;subst e;have G:=d a (aj.2 (dn ha));rw[(K.pg.free a hb).1] at G;cases G);have Bo:=(aR.1 ((wO.nodup_iff).2 nr)).2.1;refine aH (e8 Bo fun x A=> ?_) py;have h1:=(wO.mem_iff (a:=x)).1 (aj.2 (dn A));rcases aj.1 h1 with h1|h1;·refine cM (d x ?_);rw[Tr.bC,aF];exact aj.2 (dn h1)
    ·exact (K.pg.free x h1).2
   have kd1:Kids E X0 R0 rt sb R ps pg M X sp (k+1) p t (p::fs.flatten) {n with its:=J} l' R1 ps1 gm M1 jW al V:=⟨K.sw,K.pre,by rw[sL];omega,BQ,K.st,hat,K.kvs,wO,K.pg,Pv,m,K.but,K.sub,K.new,K.mb⟩
   obtain⟨f,G,C,g3⟩:=CX kd1 N.level N.page N.fresh (fun hf=>by
    obtain⟨page,e1,L,e3,e4⟩:=N.held hf;exact⟨page,e1,L,e3,l fun x A=>e4 (Nat.succ_pos k) x A⟩) i d y aE (by omega)
   refine⟨f,G,C,fun hf=> ?_⟩;obtain⟨T0,e1,⟨L,e3⟩|⟨page,L,R2,P,O,M2,Y,Q,z⟩⟩:=g3 hf
   ·refine⟨T0,e1,dc ⟨L,e3.mono ?_⟩⟩;rintro e X' (⟨page,rfl,d1,d2,R2,P,O,M2,Y,Q,z⟩|hno);·exact dc ⟨page,rfl,d1,d2,{n with its:=J},_,R2,P,O,M2,Y,Q,N.level,z⟩
    ·exact dn hno
   ·exact⟨T0,e1,dn ⟨page,L,{n with its:=J},_,R2,P,O,M2,Y,Q,N.level,z⟩⟩
  ·rintro page V ⟨n1,l',R2,P,O,M2,Y,Q,hlv,z⟩;obtain⟨G,C,g3,g4,g5⟩:=CW z ⟨lo,h,s⟩ hlv hk py y;exact⟨G,C,g3,_,g4,g5⟩
 exact wS B ⟨[],[],R,ps,pg,M,sp,[],h0⟩ Jx.small.len Jx.small.cap.1
theorem uh:∀k,k<=15->uQ k
 |0,_=>Fi
 |k+1,hk=>Fl hk (uh k (by omega))
section
variable {X X':World} {R R' S:Nat->Prop} {ring g N lb tb rb:Nat} {H H':List Wl.Text} {ps ps':List (Nat×List UInt8)} {pg dh:List (Option Wl.Text)} {rt rt':List Nat}
theorem PJ (h:C1 R ring g N lb tb H ps X):
  Calls Tryz.prog 138 #[ptr tb] X fun e X'=>e=eb (bf cu ps.length)/\X'=X:=by
 obtain⟨A,T,b,x,a,c⟩:=h;exact ry X T tb lb ps x
theorem PK (h:C1 R ring g N lb tb H ps' X) (hp:ps<+:ps') (hn:ps'.length<=90000000):
  Calls Tryz.prog 142 #[ptr tb,bf cu ps.length] X fun e X'=>e=eb (gu #[])/\C1 R ring g N lb tb H ps X'/\aG (fun k=>¬R k) X X':=by
 obtain⟨q,rfl⟩:=hp;by_cases c:q=[];·subst c;rw[bA] at h hn;obtain⟨A,T,d,x,a,f⟩:=id h;refine (IF X T tb lb ps ps.length x (by omega)).mono ?_;rintro e X' ⟨rfl,rfl⟩;exact⟨rfl,h,aG.refl _ _⟩
 ·obtain⟨A,T,d,x,a,f⟩:=h;have hl:0<q.length:=eL.2 c;refine (Lw X T tb lb (ps++q) ps.length ps.length x (by omega) (by rw[au];omega) hn).mono ?_;rintro e X' ⟨rfl,T',b,i⟩;rw[List.take_left' rfl] at b;exact⟨rfl,GD d a f i b⟩
theorem Jz (h:jE R ring g N lb tb rb H ps pg rt X):
  Calls Tryz.prog 89 #[ptr rb] X fun e X'=>e=eb (bf cu ps.length)/\X'=X:=by
 have c0:=h.cell;have a:=aa h;clear h;go_enter Tryz.func89,Tryz.ntmps89;unfold ptr;go_wp2_with fail;refine (PJ a.o.c).mono ?_;rintro e X' ⟨rfl,rfl⟩;go_wp2;go_ret;exact⟨rfl,rfl⟩
theorem JA (h:jE R ring g N lb tb rb H ps' dh rt' X) (hp:ps<+:ps') (hn:ps'.length<=90000000) (hr:Rm.dO (Wl.along H (Tx.pN ps)) pg rt) (hl:1<=pg.length):
  Calls Tryz.prog 91 #[ptr rb,bf cu ps.length] X fun e X'=>e=eb (gu #[])/\jE R ring g N lb tb rb H ps pg rt X'/\aG (fun k=>¬R k) X X':=by
 have c0:=h.cell;have a:=aa h;have b:=aa (And.intro hp (And.intro hn (And.intro hr hl)));clear h hp hn hr hl;go_enter Tryz.func91,Tryz.ntmps91;unfold ptr;go_wp2_with fail;refine (PK a.o.c b.o.1 b.o.2.1).mono ?_;rintro e X' ⟨rfl,hc,d⟩;have f:=aa (show jE R ring g N lb tb rb H ps pg rt X'/\aG (fun k=>¬R k) X X' from⟨⟨hc,a.o.blk.but d (fun hn=>hn a.o.rr),a.o.rr,b.o.2.2.1,fun p i=>a.o.ins p (by obtain⟨q,e⟩:=b.o.1;rw[<-e];exact aj.2 (dc i)),b.o.2.2.2⟩,d⟩);clear hc d;go_wp2;refine bodyPost_end (results_none rfl _ _ _) rfl ?_;exact⟨rfl,f.o⟩
end
def iU (pg:List (Option Wl.Text)) (num:Nat) (cB:List (Tr.Tx×Tr.Tx)) (pages:List Nat):Prop:=
 (num=0/\cB=[]/\pages=[])\/∃(k:Nat) (t:Tr.E (k+1)) (page:Nat),num=page+1/\(Tr.hd t).page=aD page/\k<=15/\cS pg (k+1) t/\Tr.Ok (k+1) [] av t/\cB=Tr.cB k (Tr.its t)/\pages=Tr.ck (k+1) t/\pages.Nodup
structure Fm (pg dh:List (Option Wl.Text)) (pages pages':List Nat):Prop where
 len:dh.length=pg.length
 same:∀x,x∉pages->x∉pages'->dh.getD x av=pg.getD x av
 left:∀x∈pages,x∉pages'->dh.getD x av=av
 kT:∀x∈pages',x∉pages->pg.getD x av=av
 used:Rm.used dh+pages.length=Rm.used pg+pages'.length
structure CY (pg dh:List (Option Wl.Text)) (l:List Nat):Prop where
 len:dh.length=pg.length
 at_:∀x,dh.getD x av=if x∈l then av else pg.getD x av
 used:Rm.used dh+l.length=Rm.used pg
theorem CY.next {pg dh:List (Option Wl.Text)} {l:List Nat} {x:Nat} (h:CY pg dh l) (H:(dh.getD x av).isSome=true):CY pg (dh.set x av) (l++[x]):=by
 have hl:=cM H;refine⟨by rw[bP];exact h.len,fun y=> ?_, ?_⟩
 ·rw[oL hl,h.at_ y];by_cases e:y=x;·subst e;simp
  ·grind
 ·have a:=wR (pg:=dh) (p:=x) (o:=av) hl;rw[if_pos H] at a;have b:=h.used;rw[au];simp at a |-;omega
theorem JB {pg gm n:List (Option Wl.Text)} {pages pages' sp al:List Nat} (h:iR pg gm pages' al) (hp:(pages'++sp).Perm (pages++al)) (hf:CY gm n sp) (hn:pages.Nodup) (f:∀x∈pages,(pg.getD x av).isSome=true):
  Fm pg n pages pages'/\(pages'++sp).Nodup/\∀x∈pages',n.getD x av=gm.getD x none:=by
 have d:(pages'++sp).Nodup:=(hp.nodup_iff).2 (aR.2 ⟨hn,h.nd,fun a ha b g e=>by
  subst e;have:=f a ha;rw[(h.free a g).1] at this;cases this⟩)
 have hd:=(aR.1 d).2.2;refine⟨⟨hf.len.trans h.len,fun x H c=> ?_,fun x H c=> ?_,fun x H c=> ?_, ?_⟩,d,fun x i=> ?_⟩
 ·rw[hf.at_ x];by_cases hs:x∈sp
  ·rw[if_pos hs];have:=(hp.mem_iff (a:=x)).1 (aj.2 (dn hs));rcases aj.1 this with h3|h3;·exact absurd h3 H
   ·exact (h.free x h3).1.symm
  ·rw[if_neg hs];exact h.same x c
 ·have:=(hp.mem_iff (a:=x)).2 (aj.2 (dc H));rcases aj.1 this with h3|h3;·exact absurd h3 c
  ·rw[hf.at_ x,if_pos h3]
 ·have:=(hp.mem_iff (a:=x)).1 (aj.2 (dc H));rcases aj.1 this with h3|h3;·exact absurd h3 c
  ·exact (h.free x h3).1
 ·have H:=hf.used;have c:=h.used;have h3:=hp.length_eq;rw[au,au] at h3;omega
 ·rw[hf.at_ x,if_neg fun hs=>hd x i x hs rfl]
theorem gQ:∀{l:List Nat} {k n:Nat},l.getD k 0=n->k<l.length->l.set k n=l
 |[],_,_,_,h=>by cases h
 |a::l,0,n,h,_=>by
  have h:a=n:=h;rw[h];rfl
 |a::l,k+1,n,h,hl=>by
  show a::l.set k n=a::l;rw[gQ (l:=l) h (by simpa using hl)]
section
variable {E:Ev} {X0 X X' V:World} {R0 R R':Nat->Prop} {ps:List (Nat×List UInt8)} {pg:List (Option Wl.Text)} {rt:List Nat} {M M':Nat->Option NV} {k q sb:Nat} {sv:Value} {tgt:List (Tr.Tx×Tr.Tx)} {pages sp:List Nat}
def lD (E:Ev) (X0:World) (R0:Nat->Prop) (ps:List (Nat×List UInt8)) (pg:List (Option Wl.Text)) (rt:List Nat) (tgt:List (Tr.Tx×Tr.Tx)) (pages:List Nat) (c:Int) (X':World):Prop:=
 c=0/\∃R' M' ps' dh num pages',TS E X0 R0 R' ps' dh (rt.set E.place num) M' X'/\ps'.length<=ps.length+30000/\iU dh num tgt pages'/\Fm pg dh pages pages'
def FrP (E:Ev) (X0:World) (R0:Nat->Prop) (rt:List Nat) (ps:List (Nat×List UInt8)) (pg:List (Option Wl.Text)) (sb:Nat) (tgt:List (Tr.Tx×Tr.Tx)) (pages:List Nat) (num:Nat) (a:Option Addr) (L i:Nat) (X:World):Prop:=
 ∃R M p gm n sp al pages' c,TS E X0 R0 R p n rt M X/\R sb/\L=sp.length/\i<=L/\p.length<=ps.length+17000+2*i/\iR pg gm pages' al/\(pages'++sp).Perm (pages++al)/\iU gm num tgt pages'/\CY gm n (sp.take i)/\
  aU X sb 169 [ptr E.tb,cx a L c]/\(0<L->∃g o,a=aD ⟨g,o,av⟩/\bu (gq cu) X g o (gP sp)/\R g)
theorem CZ {pg dh:List (Option Wl.Text)} {num:Nat} {l:List (Tr.Tx×Tr.Tx)} {pages:List Nat} (h:iU pg num l pages) (hs:∀x∈pages,dh.getD x av=pg.getD x av):iU dh num l pages:=by
 rcases h with h|⟨k,t,page,a,b,h3,h4,c,d,H,e⟩;·exact dc h
 ·exact dn ⟨k,t,page,a,b,h3,fH h4 (by rw[<-H];exact hs),c,d,H,e⟩
theorem oM {pg:List (Option Wl.Text)} {num:Nat} {l:List (Tr.Tx×Tr.Tx)} {pages:List Nat} (h:iU pg num l pages):∀x∈pages,(pg.getD x av).isSome=true:=by
 have a:∀{k:Nat} {t:Tr.E k},cS pg k t->∀x∈Tr.ck k t,(pg.getD x av).isSome=true:=by
  intro k;induction k with
  |zero=>intro t _ x H;cases H
  |succ k i=>
   intro t hs x H;obtain⟨⟨page,hp,_,Y⟩,_,c⟩:=hs;rw[Tr.bC,hp] at H;rcases aX.1 H with rfl|H;·rw[Y];rfl
   ·obtain⟨y,hy,b⟩:=List.mem_flatMap.1 H;exact i (c y hy) x b
 rcases h with⟨_,_,rfl⟩|⟨k,t,page,_,_,_,h4,_,_,rfl,_⟩;·intro x H;cases H
 ·exact a h4
theorem JC {pg:List (Option Wl.Text)} {num:Nat} {l:List (Tr.Tx×Tr.Tx)} {pages:List Nat} (h:iU pg num l pages):num<=pg.length:=by
 rcases h with⟨rfl,_⟩|⟨k,t,page,rfl,hp,_,hs,_⟩;·exact aB _
 ·obtain⟨⟨Q,H,_,y⟩,_⟩:=hs;rw[hp] at H;cases H;exact cM (by rw[y];rfl)
theorem PL (Q:E.place<16) (hn:pages.Nodup) (s:∀x∈pages,(pg.getD x av).isSome=true) (hrl:rt.length=16) (hq:ps.length<=70000000) (T:pg.length<=4096) {G:Int->World->Prop} (U:∀c X,lD E X0 R0 ps pg rt tgt pages c X->G c X):
  Z8 sb E.tb E.rb E.place (FrP E X0 R0 rt ps pg sb tgt pages) G:=by
 refine⟨?_, ?_⟩
 ·rintro num a L i X ⟨R,M,P,gm,n,sp,al,pages',c,f,m,rfl,hi,hl,d,y,p,l,H,Y⟩ k;obtain⟨g,o,rfl,V,hg⟩:=Y (by omega)
  have t:(pages'++sp).Nodup:=(y.nodup_iff).2 (aR.2 ⟨hn,d.nd,fun a ha b A e=>by
   subst e;have:=s a ha;rw[(d.free a A).1] at this;cases this⟩)
  have W:=(aR.1 t).2.1;have C:(gm.getD sp[i] av).isSome=true:=by
   have:=(y.mem_iff (a:=sp[i])).1 (aj.2 (dn (bI k)));rcases aj.1 this with h3|h3;·exact d.keeps (s _ h3)
   ·exact d.kT _ (dn h3)
  have hx2:(n.getD sp[i] av).isSome=true:=by
   rw[l.at_,if_neg];·exact C
   ·intro hm;obtain⟨j,hj,e⟩:=List.mem_iff_getElem.1 hm;rw[aO] at hj;rw[List.getElem_take] at e;have:=(List.nodup_iff_pairwise_ne.1 W);have h9:=ga.1 this j i (by omega) k (by omega);exact h9 e
  have hxl:=cM hx2;have SR:sp.length<=4096:=by
   refine aH (e8 W fun x F=> ?_) T;have:=(y.mem_iff (a:=x)).1 (aj.2 (dn F));rcases aj.1 this with h3|h3;·exact cM (s x h3)
   ·exact (d.free x h3).2
  have hcell:X.cell? ⟨g,o+i,av⟩=aD (bf cu ((sp[i]:Nat):Int)):=by have u:i<(gP sp).length:=(by unfold gP;rw[aT];exact k);have:=V.at i 0 (by decide) u (bf cu ((gP sp)[i])) rfl;have e:(gP sp)[i]?=aD ((sp[i]:Nat):Int):=(by unfold gP;rw[cD,aK k];rfl);rw[aK u] at e;rw[Option.some.inj e,show o+(i*(gq cu).size+0)=o+i from by show o+(i*1+0)=o+i;omega] at this;exact this
  refine⟨H.cell (j:=0) rfl,f.tree.cell (j:=0) rfl,g,o,(sp[i]:Nat),rfl,hcell, ?_⟩;refine (IJ f.rm (sp[i]:Nat) (by omega)).mono ?_;rintro e X' ⟨rfl,S,⟨Bn,_⟩,D,B⟩;have v:Rm.refuse n (sp[i]:Nat)=0:=by unfold Rm.refuse;rw[if_pos ⟨by omega,by omega⟩,dF,if_pos hx2]
  have QA:Rm.rC n (sp[i]:Nat)=n.set sp[i] none:=by unfold Rm.rC;rw[if_pos v,dF]
  rw[QA] at D;refine⟨by rw[v],R,M,S,gm,_,sp,al,pages',c,f.vX D B,m,rfl,k,by omega,d,y,p, ?_,H.but B fun h=>h m,fun _=>⟨g,o,rfl,V.but B fun h=>h hg,hg⟩⟩;rw[cC k];exact l.next hx2
 ·rintro num a L X ⟨R,M,P,gm,n,sp,al,pages',c,f,m,rfl,hi,hl,d,y,p,l,H,Y⟩;rw[List.take_length] at l;obtain⟨q,I,r⟩:=JB d y l hn s;have J:=CZ p r;have w:Below X.heap.size X X.drew:=(Below.refl _ X).drew;have K:=f.still w (fun _ h=>h) (fun _ h=>dc h);have SR:sp.length<=4096:=by
   refine aH (e8 (aR.1 I).2.1 fun x F=> ?_) T;have:=(y.mem_iff (a:=x)).1 (aj.2 (dn F));rcases aj.1 this with h3|h3;·exact cM (s x h3)
   ·exact (d.free x h3).2
  refine⟨H.cell (j:=0) rfl,f.tree.cell (j:=0) rfl,f.tree.cell (j:=1) rfl, ?_⟩;refine (o_ K.rm E.place Q).mono ?_;rintro e X' ⟨rfl,A⟩;have Z:Below X.heap.size X X':=w.trans A;have z:=f.still Z (fun _ h=>h) (fun _ h=>dc h);have N:=H.below Z H.lt;refine⟨rt.getD E.place 0,rfl,N.cell (j:=0) rfl,z.tree.cell (j:=0) rfl,z.tree.cell (j:=1) rfl,fun he=> ?_,fun hne=> ?_⟩;·refine U _ _ ⟨rfl,R,M,P,n,num,pages', ?_,by omega,J,q⟩;rw[gQ he (by omega)];exact z
  ·have bK:Below X'.heap.size X' X'.drew:=(Below.refl _ X').drew;have wT:=z.still bK (fun _ h=>h) (fun _ h=>dc h);have C0:=N.below bK N.lt;have hnm:=JC J;have GG:=q.len;refine (Ao wT.rm E.place num Q (by omega) (by omega)).mono ?_;rintro e gL ⟨rfl,S,⟨Bn,_⟩,D,B⟩;have O:=wT.vX D B;have rP:=C0.but B fun h=>h m;exact⟨rfl,rP.cell (j:=0) rfl,O.tree.cell (j:=0) rfl,O.tree.cell (j:=1) rfl,U _ _ ⟨rfl,R,M,S,n,num,pages',O,by omega,J,q⟩⟩
end
structure Way (sb tb rb pr L mk:Nat) (q:Nat->Nat) (P:Nat->World->Prop) (N:Value->World->Prop) (G:Int->World->Prop):Prop where
 cells:∀i X,P i X->∀j,j<=i->X.cell? ⟨pr,j,av⟩=aD (e7 (aD ⟨q j,0,av⟩))
 drew:∀i X,P i X->P i X.drew
 step:∀i X,P (i+1) X->Calls Tryz.prog 87 #[ptr sb,ptr (q i),ptr (q (i+1))] X fun e X'=>e=eb (bf cu 0)/\P i X'
 top:∀X,P 0 X->Calls Tryz.prog 88 #[ptr sb,ptr (q 0)] X fun e X'=>∃v,e=eb (gu #[v,bf cu 0])/\N v X'
 mark:∀v X,N v X->X.cell? ⟨tb,0,av⟩=aD (e7 (aD ⟨rb,0,av⟩))/\Calls Tryz.prog 89 #[ptr rb] X fun e X'=>e=eb (bf cu mk)/\X'=X
 store:∀v X,N v X->Calls Tryz.prog 90 #[ptr sb,v] X fun e X'=>(e=eb (bf cu 0)/\G 0 X')\/(e=eb (bf cu 4)/\X'.cell? ⟨tb,0,av⟩=aD (e7 (aD ⟨rb,0,av⟩))/\Calls Tryz.prog 91 #[ptr rb,bf cu mk] X' fun e gL=>e=eb (gu #[])/\G 4 gL)
section
variable {w:World}
theorem C2 {tb rb pr L cap mk:Nat} {q:Nat->Nat} {P:Nat->World->Prop} {N:Value->World->Prop} {G:Int->World->Prop} (p:Way w.heap.size tb rb pr (L+1) mk q P N G) (z:L<=100) (F:w.cell? ⟨pr,L,av⟩=aD (e7 (aD ⟨q L,0,av⟩))) (B:∃v,w.cell? ⟨q L,7,av⟩=aD v) (hf:w.frozen? ⟨q L,7,av⟩=false)
  (H:∀W,W=(w.setCell ⟨q L,7,av⟩ (eX true)).alloc (ey #[e7 (aD ⟨tb,0,av⟩),cx av 0 0] 169)->P L W):
  Calls Tryz.prog 57 #[ptr tb,cx (aD ⟨pr,0,av⟩) (L+1) cap] w fun e w'=>∃c,e=eb (bf cu c)/\G c w':=by
 have a:=aa p;have C:=aa H;obtain⟨v7,c7⟩:=B;have R:(L:Int)<=100:=by omega
 have S:IntKind.i64.wrap ((L:Int)+1-1)=L:=by rw[IntKind.wrap_i64];omega
 have T:(L:Int)+1-1=L:=by omega
 have U:=bD w ⟨pr,L,av⟩ F;have V:=bD w ⟨q L,7,av⟩ c7;clear p H z;unfold ptr at a |-;go_enter Tryz.func57,Tryz.ntmps57;go_wp2_with fail;obtain⟨j,m⟩:∃j,j=(w.setCell ⟨q L,7,av⟩ (eX true)).alloc (ey #[e7 (aD ⟨tb,0,av⟩),cx av 0 0] 169):=⟨_,rfl⟩;have k:=aa (C.o j m);rw[<-m];clear m F c7 hf
 go_loopw [6,7] (fun kv _ wr=>∃i:Nat,i<=L/\kv=bf cu i/\Hid (P i wr)) (fun kv _ _=>(RowKit.intOf kv).toNat)
 case atStart=>exact⟨L,ah _,rfl,k⟩
 case round=>
  obtain⟨i,hi,rfl,H⟩:=hrel;cases i with
  |zero=>
   have r:¬((0:Nat):Int)>0:=(by decide);have A:=a.o.cells 0 _ H.o 0 (ah _);have D:=aa (a.o.top _ H.o);have X:(0:Int)<L+1:=(by omega);go_wp2_with fail;refine D.o.mono ?_;rintro e Y ⟨v,rfl,l⟩;obtain⟨t,s⟩:=a.o.mark _ _ l;have E:=aa s;have I:=aa (a.o.store _ _ l);clear s l A;go_wp2_with fail;refine E.o.mono ?_;rintro e w3 ⟨rfl,rfl⟩;go_wp2_with fail;refine I.o.mono ?_;rintro e Z (⟨rfl,b⟩|⟨rfl,t4,u⟩);·have n:=aa b;clear b t;go_wp2_with fail;go_ret;exact⟨0,rfl,n.o⟩
   ·have J:=aa u;clear u t;go_wp2_with fail;refine J.o.mono ?_;rintro e w5 ⟨rfl,b⟩;have n:=aa b;clear b;go_wp2_with fail;go_ret;exact⟨4,rfl,n.o⟩
  |succ i=>
   have r:((i+1:Nat):Int)>0:=(by omega);have A:=a.o.cells (i+1) _ H.o i (by omega);have a1:=a.o.cells (i+1) _ H.o (i+1) (ah _);have d:=a.o.drew _ _ H.o;have x:=aa (a.o.step _ _ d);have Xx:(i:Int)<L+1:=(by omega);have M:(i:Int)+1<L+1:=(by omega);have y:((i+1:Nat):Int)-1=i:=(by omega);have wi:IntKind.i64.wrap (i:Int)=i:=(by rw[IntKind.wrap_i64];omega);have O:(0:Int)<=i:=(by omega);have Q:(0:Int)<=(i:Int)+1:=(by omega);clear d;go_wp2_with fail;go_wp2_with (refine wp_region_any (by kernel_rfl) ?_;refine Hid.o ?_);refine aa ?_;try (change wpAny _ _ _ _ _ _ _ (bJ _))
   refine tk 0 ?_;refine tk 1 ?_;refine tk 2 ?_;refine tk 3 ?_;refine tk 4 ?_;refine tk 6 ?_;refine tk 7 ?_;refine tk 8 ?_;try simp only[Act.put,aA,az,ay]
   refine rd [5,9] (AllReady.cons rfl (fun K h=> ?_) (rn fun K h=> ?_))
   focus
    go_simp
    refine h _ _ ?_;clear h K
    refine rd [9] (rn fun K h=> ?_)
    go_simp
    refine h _ _ ?_;clear h K
    refine rd [10] (rn fun K h=> ?_)
    go_simp
    refine x.o.mono ?_
    rintro e w3 ⟨rfl,f⟩
    have g:=aa f
    clear f
    refine h _ _ ?_;clear h K
   rotate_left
   focus
    go_simp
    refine h _ _ ?_;clear h K
    refine rd [5] (rn fun K h=> ?_)
    go_simp
    refine h _ _ ?_;clear h K
    refine rd [10] (rn fun K h=> ?_)
    go_simp
    refine x.o.mono ?_
    rintro e w3 ⟨rfl,f⟩
    have g:=aa f
    clear f
    refine h _ _ ?_;clear h K
   all_goals
    refine tk 11 ?_
    refine wpAny_done (by kernel_rfl) ?_ _
    clear A a1 H r
    go_wp2_with fail
    go_roundw
    case rel=>exact⟨i,Nat.le_of_succ_le hi,by go_num,g⟩
    case measure=>simp[RowKit.intOf]
end
end
namespace Tr
theorem AY {α:Type} (f:α->Nat) (A:Nat) (hA:2<=A) (P:α->α->Prop) (h:∀a b,P a b->A<=f a+f b):∀(l:List α),(∀a∈l,1<=f a)->l.Pairwise (fun _ _=>True)->(∀(L R:List α) a b,l=L++a::b::R->P a b)->A*l.length<=2*(l.map f).sum+(A-2)
 |[],_,_,_=>by simp
 |[a],h1,_,_=>by
  have:=h1 a aE;simp only[ew,bM,List.map_nil,ku,List.sum_nil];omega
 |a::b::r,h1,_,h2=>by
  have i:=AY f A hA P h r (fun c hc=>h1 c (aI _ (aI _ hc))) (ga.2 fun _ _ _ _ _=>trivial) (fun L R c d e=>h2 (a::b::L) R c d (by rw[e];rfl));have H:=h a b (h2 [] r a b rfl);simp only[a_,bM,ku];have e:A*(r.length+1+1)=A*r.length+2*A:=by rw[Nat.mul_succ,Nat.mul_succ];omega
  omega
theorem zC {α:Type} {O:Tx->Option Tx->α->Prop} {C:α->Tx->α->Prop} {h:Option Tx} {l L R:List (Tx×α)} {a b:Tx×α} (s:dB O C h l) (e:l=L++a::b::R):O a.1 (aD b.1) a.2/\(∃u,O b.1 u b.2)/\C a.2 b.1 b.2/\b.1.length<=96:=by
 subst e;have s2:=dB.behind s;refine⟨s2.1, ?_,s2.2.1.2.2,s2.2.1.2.1⟩;cases R with
 |nil=>exact⟨_,s2.2.2⟩
 |cons c R=>exact⟨_,s2.2.2.1⟩
theorem AZ {k:Nat}:∀{l:List (Tx×E (k+1))},(∀p∈l,p.1.length<=96)->sz (k+1) l<=100*l.length
 |[],_=>aB _
 |p::l,h=>by
  have i:=AZ (l:=l) fun q H=>h q (aI _ H);have:=h p aE;rw[sz,eC,a_];omega
theorem GV {k:Nat} {lo:Tx} {h:Option Tx} {n:E (k+2)} (o:Ok (k+2) lo h n):sz (k+1) (its n)+96<=100*(its n).length:=by
 obtain⟨H,_,h3,h4⟩:=o;rw[dN] at h4;cases hi:its n with
 |nil=>exact absurd hi H
 |cons a l=>
  rw[hi] at h4 h3;have ha:a.1=[]:=by have:=h3 a rfl;rw[if_neg (dy k)] at this;exact this
  have hl:∀p∈l,p.1.length<=96:=dB.lens (a:=(lo,a.2)) h4;have:=AZ hl;rw[sz,eC,ha,a_,ef];omega
theorem Fq {k:Nat} {lo x:Tx} {h h':Option Tx} {a b:E (k+2)} (o:Ok (k+2) lo h a) (ob:Ok (k+2) x h' b) (H:x.length<=96) (hc:cut (k+2) a x b):7<=(its a).length+(its b).length:=by have c:=GV o;have d:=GV ob;rw[uH] at hc;omega
theorem GX {l:List (Tx×E 0)} (h:∀p∈l,jw 0 p<=154):sz 0 l<=154*l.length:=by
 induction l with
 |nil=>exact aB _
 |cons p l i=>
  have:=i fun q H=>h q (aI _ H);have:=h p aE;rw[sz,a_];omega
theorem JD {lo x:Tx} {h h':Option Tx} {a b:E 1} (o:Ok 1 lo h a) (ob:Ok 1 x h' b) (hc:cut 1 a x b):4<=(its a).length+(its b).length:=by have H:=GX (Rw.size o.2.2);have c:=GX (Rw.size ob.2.2);rw[uG] at hc;omega
theorem Mp {k:Nat} {lo:Tx} {h:Option Tx} {n:E (k+1)} (o:Ok (k+1) lo h n):1<=(its n).length:=eL.2 o.1
theorem JE {k:Nat} {h:Option Tx} {l:List (Tx×E (k+2))} (s:dB (Ok (k+2)) (cut (k+2)) h l):7*l.length<=2*(l.map fun p=>(its p.2).length).sum+5:=
 AY (fun p:Tx×E (k+2)=>(its p.2).length) 7 (by decide) (fun a b=>7<=(its a.2).length+(its b.2).length) (fun _ _ h=>h) l (fun a ha=>by obtain⟨u,hu⟩:=dB.each s a ha;exact Mp hu) (ga.2 fun _ _ _ _ _=>trivial) fun L R a b e=>by obtain⟨H,⟨u,c⟩,h3,h4⟩:=zC s e;exact Fq H c h4 h3
theorem Mq {h:Option Tx} {l:List (Tx×E 1)} (s:dB (Ok 1) (cut 1) h l):4*l.length<=2*(l.map fun p=>(its p.2).length).sum+2:=
 AY (fun p:Tx×E 1=>(its p.2).length) 4 (by decide) (fun a b=>4<=(its a.2).length+(its b.2).length) (fun _ _ h=>h) l (fun a ha=>by obtain⟨u,hu⟩:=dB.each s a ha;exact Mp hu) (ga.2 fun _ _ _ _ _=>trivial) fun L R a b e=>by obtain⟨H,⟨u,c⟩,h3,_⟩:=zC s e;exact JD H c h3
theorem A0 {k:Nat}:∀(l:List (Tx×E (k+1))),(cB (k+1) l).length=(l.map fun p=>(cB k (its p.2)).length).sum
 |[]=>rfl
 |p::l=>by rw[show p::l=[p]++l from rfl,bT,dY,au,A0 l];simp
theorem pH {k:Nat} (x:Tx) (f:E (k+1)->Nat) (l:List (Tx×E (k+1))):((bH x l).map fun p=>f p.2).sum=(l.map fun p=>f p.2).sum/\(bH x l).length=l.length:=by cases l<;>exact⟨rfl,rfl⟩
theorem C3 (n:E 1):cnt 1 n=1:=by
 have:∀l:List (Tx×E 0),(l.map fun p=>cnt 0 p.2).sum=0:=by
  intro l;induction l with
  |nil=>rfl
  |cons a l i=>rw[bM,ku,i];rfl
 show 1+_=1;rw[this]
theorem GY {α:Type} (f g h e:α->Nat) (B c d:Nat):∀{l:List α},(∀a∈l,f a+B*e a<=c*g a+h a+d)->(l.map f).sum+B*(l.map e).sum<=c*(l.map g).sum+(l.map h).sum+d*l.length
 |[],_=>by simp
 |a::l,hh=>by
  have i:=GY f g h e B c d (l:=l) fun b H=>hh b (aI _ H);have:=hh a aE;simp only[bM,ku,a_,Nat.mul_add,Nat.mul_one];omega
theorem Ft (k:Nat):k<=2^k:=Nat.le_of_lt Nat.lt_two_pow_self
theorem qx:∀(k:Nat) {lo:Tx} {h:Option Tx} {n:E (k+2)},its n≠[]->Rw (k+1) lo h (its n)->
  cnt (k+2) n+3*2^k*(its n).length<=2*(cB (k+1) (its n)).length+k+3*2^k/\2^k*(its n).length+1<=cnt (k+2) n+2^k
 |0,lo,h,n,hne,⟨_,s⟩=>by
  rw[dN] at s;have d:=Mq s;have H:((bH lo (its n)).map fun p=>(its p.2).length).sum=((its n).map fun p=>(its p.2).length).sum:=(pH lo (fun x:E 1=>(its x).length) (its n)).1;have b:(bH lo (its n)).length=(its n).length:=(pH lo (fun x:E 1=>(its x).length) (its n)).2;rw[H,b] at d;have hc:cnt 2 n=1+(its n).length:=by
   show 1+_=_;have:∀l:List (Tx×E 1),(l.map fun p=>cnt 1 p.2).sum=l.length:=by
    intro l;induction l with
    |nil=>rfl
    |cons a l i=>rw[bM,ku,i,C3,a_];omega
   rw[this]
  have hp:=A0 (its n);have f:((its n).map fun p=>(cB 0 (its p.2)).length).sum=((its n).map fun p=>(its p.2).length).sum:=rfl;have hpos:1<=(its n).length:=eL.2 hne;rw[hc,hp,f];simp only[Nat.pow_zero,Nat.mul_one];omega
 |k+1,lo,h,n,hne,⟨_,s⟩=>by
  rw[dN] at s;have d:=JE s;have H:((bH lo (its n)).map fun p=>(its p.2).length).sum=((its n).map fun p=>(its p.2).length).sum:=(pH lo (fun x:E (k+2)=>(its x).length) (its n)).1;have b:(bH lo (its n)).length=(its n).length:=(pH lo (fun x:E (k+2)=>(its x).length) (its n)).2;rw[H,b] at d;have hpos:1<=(its n).length:=eL.2 hne;have c:∀p∈its n,its p.2≠[]/\∃lo h,Rw (k+1) lo h (its p.2):=by
   intro p hp;have g:∃q∈bH lo (its n),q.2=p.2:=by
    cases hi:its n with
    |nil=>rw[hi] at hp;cases hp
    |cons a l=>
     rw[hi] at hp;rcases aX.1 hp with rfl|hp;·simp_all
     ·exact⟨p,aI _ hp,rfl⟩
   obtain⟨q,g,e⟩:=g;obtain⟨u,hu⟩:=dB.each s q g;rw[e] at hu;exact⟨hu.1,_,_,hu.2.2⟩
  have i:∀p∈its n,cnt (k+2) p.2+3*2^k*(its p.2).length<=2*(cB (k+1) (its p.2)).length+k+3*2^k/\2^k*(its p.2).length+1<=cnt (k+2) p.2+2^k:=fun p hp=>by obtain⟨G,o,h',r⟩:=c p hp;exact qx k G r
  have hc:cnt (k+3) n=1+((its n).map fun p=>cnt (k+2) p.2).sum:=rfl;have hp:=A0 (its n);have U:=GY (fun p:Tx×E (k+2)=>cnt (k+2) p.2) (fun p=>(cB (k+1) (its p.2)).length) (fun _=>0) (fun p=>(its p.2).length) (3*2^k) 2 (k+3*2^k) (l:=its n) fun p hp=>by have:=(i p hp).1;omega
  have z:((its n).map fun _=>0).sum=0:=by
   induction its n with
   |nil=>rfl
   |cons a l i=>rw[bM,ku,i]
  have L:2^k*((its n).map fun p=>(its p.2).length).sum+(its n).length<=((its n).map fun p=>cnt (k+2) p.2).sum+2^k*(its n).length:=by
   have:∀l:List (Tx×E (k+2)),(∀p∈l,2^k*(its p.2).length+1<=cnt (k+2) p.2+2^k)->2^k*(l.map fun p=>(its p.2).length).sum+l.length<=(l.map fun p=>cnt (k+2) p.2).sum+2^k*l.length:=by
    intro l;induction l with
    |nil=>intro _;simp
    |cons a l i=>intro hl;have t:=i fun p hp=>hl p (aI _ hp);have v:=hl a aE;simp only[bM,ku,a_,Nat.mul_add,Nat.mul_one];omega
   exact this _ fun p hp=>(i p hp).2
  rw[z] at U;rw[hp];obtain⟨D,m⟩:∃D,(its n).length=D+1:=⟨(its n).length-1,by omega⟩;obtain⟨S,hS⟩:∃S,((its n).map fun p=>(its p.2).length).sum=D+1+S:=⟨((its n).map fun p=>(its p.2).length).sum-(D+1),by omega⟩;rw[m,hS] at U L d;rw[hc,m];have w:5*D<=2*S:=by omega
  have j:2^(k+1)=2*2^k:=by rw[Nat.pow_succ];omega
  have y:=Ft k;rw[j];generalize 2^k=B at*;generalize ((its n).map fun p=>cnt (k+2) p.2).sum=C at*;generalize ((its n).map fun p=>(cB (k+1) (its p.2)).length).sum=N at*;have t:5*(B*D)<=2*(B*S):=by simp_all[Nat.mul_le_mul_left,Nat.mul_left_comm]
  have v:k*D<=B*D:=Nat.mul_le_mul_right D y;have f1:3*B*(D+1+S)=3*(B*D)+3*B+3*(B*S):=by rw[Nat.mul_add,Nat.mul_add,Nat.mul_assoc,Nat.mul_assoc 3 B S];omega
  have f2:(k+3*B)*(D+1)=k*D+k+3*(B*D)+3*B:=by rw[Nat.mul_succ,Nat.add_mul,Nat.mul_assoc];omega
  have f3:3*(2*B)*(D+1)=6*(B*D)+6*B:=by rw[Nat.mul_succ,show 3*(2*B)=6*B by omega,Nat.mul_assoc]
  have F:B*(D+1+S)=B*D+B+B*S:=by rw[Nat.mul_add,Nat.mul_add];omega
  have A:B*(D+1)=B*D+B:=Nat.mul_succ B D;have I:2*B*(D+1)=2*(B*D)+2*B:=by rw[Nat.mul_succ,Nat.mul_assoc]
  rw[f1,f2] at U;rw[F,A] at L;rw[f3,I];constructor<;>omega
end Tr
end Go.Proofs.YtlpfhjbpknbndaaGreatDoor
