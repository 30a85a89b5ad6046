/- Elder texts, cut down and merged (31). -/
import Derived.Test.YtgfdijemhanfkaaGreatDoorP26
import Derived.Test.YtgfdijemhanfkaaGreatDoorP30
import Derived.Test.YtgfdijemhanfkaaGreatDoorP4
import Derived.Test.YtgfdijemhanfkaaGreatDoorP23
import Derived.Test.YtgfdijemhanfkaaGreatDoorPTk
set_option linter.unusedSimpArgs false
set_option linter.unusedVariables false
set_option maxRecDepth 100000
set_option maxHeartbeats 8000000
namespace Go.Proofs.YtgfdijemhanfkaaGreatDoor
open _root_.Go.Proofs.Tryz
open Value renaming slice→cx,int→bf,tuple→ec,string→cu,pointer→dr,bool→ey
open IntKind renaming i64→ct
open Option renaming none→aK,some→av
open Or renaming inl→cS,inr→dc
open Ending renaming returned→c8
open List renaming length_pos_iff->d_,length_map->aL,mem_cons_of_mem->aH,mem_cons->aM,mem_map->bY,mem_cons_self->au,append_nil->bh,mem_append->ah,nodup_cons->cA,append_assoc->aD,cons_append->fQ,length_cons->a_,nodup_append->aP,length_append->aq,take_succ_eq_append_getElem->cz,map_append->bM,take_append_drop->b_,getElem_mem->bp,getElem_cons_drop->mR
open Nat renaming lt_or_ge->ep,le_refl->af,le_trans->aN,zero_le->aA
open Int renaming toNat_natCast->cK
section
open Go.RowKit Lib
section
variable {E:Ev} {X0 X X' V:World} {R0 R R' S:Φ} {ps ps':Γ} {pg cy:Ξ} {rt:Δ} {M M':Nat->Option NV} {k p q sb:Nat} {n m:NV} {sv:Value} {l:List Int} {x:Int}
structure SW (E:Ev) (X0:World) (R0 R:Φ) (ps:Γ) (pg:Ξ) (rt:Δ) (M:Nat->Option NV) (X:World) (sb:Nat) (l:List Int):Prop where
 ts:TS E X0 R0 R ps pg rt M X
 yj:R sb/\X0.heap.size<=sb/\¬MB M sb
 sp:∃a c,aW X sb 226 [ptr E.tb,cx a l.length c]/\l.length<=c/\(l≠[]->∃g o,a=av ⟨g,o,aK⟩/\bg (eo ct) X g o l/\R g/\¬MB M g/\g≠sb)
theorem SS.sw (h:SS E X0 R0 R ps pg rt M X sb sv l):SW E X0 R0 R ps pg rt M X sb l:=by
 refine⟨h.ts,h.yj, ?_⟩;obtain⟨a,c,rfl,hc⟩:=Own.slice h.sp;refine⟨a,c,h.blk,hc,fun hl=> ?_⟩;obtain⟨g,c',H,-,-,-⟩:=Own.form h.sp (d_.2 hl);have ha:a=av ⟨g,0,aK⟩:=by injection H
 subst ha;have hg:=h.Vc g rfl;exact⟨g,0,rfl,Own.lies h.sp,hg.1,hg.2.2,fun e=>Own.dh h.sp h.blk ξ (by rw[<-e];rfl)⟩
theorem SW.adk (h:SW E X0 R0 R ps pg rt M X sb l):sb<X.heap.size:=h.ts.NB sb h.yj.1
theorem SW.step (h:SW E X0 R0 R ps pg rt M X sb l) (n:TS E X0 R0 R' ps' cy rt M' X') (f:aE S X X') (hS:∀b,R b->S b->MB M b) (i:∀b,R b->R' b) (j:∀b,MB M' b->MB M b):SW E X0 R0 R' ps' cy rt M' X' sb l:=by obtain⟨a,c,H,hc,hl⟩:=h.sp;refine⟨n,⟨i _ h.yj.1,h.yj.2.1,fun d=>h.yj.2.2 (j _ d)⟩,a,c,H.but f fun hs=>h.yj.2.2 (hS _ h.yj.1 hs),hc,fun e=> ?_⟩;obtain⟨g,o,rfl,G,k,m,h3⟩:=hl e;exact⟨g,o,rfl,G.but f fun hs=>m (hS _ k hs),i _ k,fun d=>m (j _ d),h3⟩
theorem SW.still (h:SW E X0 R0 R ps pg rt M X sb l) (H:Below X.heap.size X X') (a:∀k,R k->R' k) (b:∀k,R' k->R k\/(X.heap.size<=k/\k<X'.heap.size)):SW E X0 R0 R' ps pg rt M X' sb l:=
 h.step (h.ts.still H a b) (aE.aF H (fun _=>False)) (fun _ _ f=>f.elim) a (fun _ c=>c)
theorem SW.room (h:SW E X0 R0 R ps pg rt M X sb l) (hr:gM R E.ring E.g E.N E.lb E.xb E.rb E.H ps' cy rt X') (a:aE (fun k=>¬R k) X X'):SW E X0 R0 R ps' cy rt M X' sb l:=
 h.step (h.ts.zZ hr a) a (fun _ hr hn=>absurd hr hn) (fun _ h=>h) (fun _ h=>h)
theorem SW.cell (h:SW E X0 R0 R ps pg rt M X sb l) (hp:M p=av n) (n':NV) (j:Nat) (v:Value) (hi:n'.its=n.its) (hg:n'.rg=n.rg) (d:n'.ro=n.ro) (hc:n'.cap=n.cap) (f:n'.own=n.own) (hcs:n.cells.set j v=n'.cells):SW E X0 R0 R ps pg rt (upd M p n') (X.setCell ⟨p,j,aK⟩ v) sb l:=by
 have a:aE (fun b=>b=p) X (X.setCell ⟨p,j,aK⟩ v):=(aE.refl (fun b=>b=p) X).setCell _ _ fun _=>rfl;have H:∀b,MB (upd M p n') b->MB M b:=by
  rintro b ⟨r,y,hr,c⟩;rcases aO hr with⟨rfl,rfl⟩|⟨_,hr⟩;·exact⟨_,n,hp,by rw[hg] at c;exact c⟩
  ·exact⟨r,y,hr,c⟩
 exact h.step (h.ts.own a (fun b _ e=>by rw[e];exact h.ts.lT p ⟨p,n,hp,cS rfl⟩) (h.ts.mem.cell hp n' j v hi hg d hc f hcs) (fun b a=>h.ts.lT b (H b a)) (fun _ h=>h) (fun _ h=>cS h)) a (fun b _ e=>by rw[e];exact⟨p,n,hp,cS rfl⟩) (fun _ h=>h) H
theorem SW.item (h:SW E X0 R0 R ps pg rt M X sb l) (hp:M p=av n) (j f:Nat) (d:j<n.its.length) (hf:f<3) (it:It) (v:Value) (g:aj.enc it=(aj.enc n.its[j]).set f v) (hs:it.key.length<=200/\it.val.length<=200):
  SW E X0 R0 R ps pg rt (upd M p {n with its:=n.its.set j it}) (X.setCell ⟨n.rg,n.ro+(j*3+f),aK⟩ v) sb l:=by
 have a:aE (fun b=>b=n.rg) X (X.setCell ⟨n.rg,n.ro+(j*3+f),aK⟩ v):=(aE.refl (fun b=>b=n.rg) X).setCell _ _ fun _=>rfl;have H:∀b,MB (upd M p {n with its:=n.its.set j it}) b->MB M b:=by
  rintro b ⟨r,y,hr,c⟩;rcases aO hr with⟨rfl,rfl⟩|⟨_,hr⟩;·exact⟨_,n,hp,c⟩
  ·exact⟨r,y,hr,c⟩
 exact h.step (h.ts.own a (fun b _ e=>by rw[e];exact h.ts.lT _ ⟨p,n,hp,dc rfl⟩) (h.ts.mem.item hp j f d hf it v g hs) (fun b a=>h.ts.lT b (H b a)) (fun _ h=>h) (fun _ h=>cS h)) a (fun b _ e=>by rw[e];exact⟨p,n,hp,dc rfl⟩) (fun _ h=>h) H
theorem SW.take (h:SW E X0 R0 R ps pg rt M X sb (x::l)) (hl:l.length<=1000000):
  Calls prog 244 #[ptr sb] X fun e X'=>e=c8 (ec #[bf ct x,bf ct 0])/\SW E X0 R0 R ps pg rt M X' sb l/\aE (fun b=>b=sb) X X':=by
 obtain⟨a,c,d,hc,i⟩:=h.sp;obtain⟨g,o,rfl,G,k,m,h3⟩:=i ν;refine (J5 d hc G h3 hl).mono ?_;rintro e X' ⟨rfl,O,c',A,y,j,H⟩;have f:=h.ts.mem.keep H fun b H e=>h.yj.2.2 (by rw[<-e];exact H);refine⟨rfl,⟨h.ts.own H (fun b _ e=>by rw[e];exact⟨h.yj.1,h.yj.2.1⟩) f (fun b H=>h.ts.lT b H) (fun _ h=>h) (fun _ h=>cS h),h.yj,av ⟨g,O,aK⟩,c',A,y,fun _=>⟨g,O,rfl,j,k,m,h3⟩⟩,H⟩
structure WN (E:Ev) (X0:World) (R0:Φ) (rt:Δ) (sb:Nat) (R:Φ) (ps:Γ) (pg:Ξ) (M:Nat->Option NV) (X:World) (sp:Δ) (k p:Nat) (t:Tr.E (k+1)) (F:Δ) (R':Φ) (ps':Γ) (cy:Ξ) (M':Nat->Option NV) (t':Tr.E (k+1)) (sp' al:Δ) (X':World):Prop where
 sw:SW E X0 R0 R' ps' cy rt M' X' sb (iF sp')
 pre:ps<+:ps'
 few:ps'.length<=ps.length+4*Tr.cnt (k+1) t
 sm:Tr.Sm (k+1) t t'
 st:cZ cy (k+1) t'
 at_:∃n',M' p=av n'/\n'.page=Cq (Tr.hd t').page
 keep:(Tr.hd t).page.isSome=true->(Tr.hd t').page=(Tr.hd t).page
 cF:(Tr.cF (k+1) t'++sp').Perm (Tr.cF (k+1) t++sp++al)
 pg:jB pg cy (Tr.cF (k+1) t') al
 fV:al.length<=Tr.fV (k+1) t
 same:∀r,r∉F->M' r=M r
 but:aE (fun b=>¬R b\/b=sb\/MB M b) X X'
 sub:∀b,R b->R' b
 new:∀b,R' b->R b\/X.heap.size<=b
 mb:∀b,MB M' b->MB M b
def GB (E:Ev) (X0:World) (R0:Φ) (rt:Δ) (ps:Γ) (pg:Ξ) (a b:Nat) (X':World):Prop:=
 ∃R' M' ps' cy,TS E X0 R0 R' ps' cy rt M' X'/\ps<+:ps'/\ps'.length<=ps.length+4*a/\pg.length<Rm.used pg+b
def rE (E:Ev) (X0:World) (R0:Φ) (rt:Δ) (sb:Nat) (R:Φ) (ps:Γ) (pg:Ξ) (M:Nat->Option NV) (X:World) (sp:Δ) (k p:Nat) (t:Tr.E (k+1)) (F:Δ) (c:Int) (X':World):Prop:=
 (c=0/\∃R' ps' cy M' t' sp' al,WN E X0 R0 rt sb R ps pg M X sp k p t F R' ps' cy M' t' sp' al X')\/(c=4/\GB E X0 R0 rt ps pg (Tr.cnt (k+1) t) (Tr.fV (k+1) t) X')
def kv (i:It):List UInt8×List UInt8:=(i.key,i.val)
theorem LG:∀{a b:List It},a.map kv=b.map kv->a.flatMap eF=b.flatMap eF
 |[],[],_=>rfl
 |x::a,y::b,h=>by obtain⟨H,c⟩:=List.cons.inj h;rw[List.flatMap_cons,List.flatMap_cons,LG c];unfold eF;rw[show x.key=y.key from (Prod.mk.inj H).1,show x.val=y.val from (Prod.mk.inj H).2]
 |[],_::_,h=>χ
 |_::_,[],h=>χ
theorem N9 {level:Nat} {a b:List It} (h:a.map kv=b.map kv):cT level a=cT level b:=by grind [cT,LG,List.length,aL]
theorem jB.more {RO al:Δ} {x:Nat} (h:jB pg cy RO al) (H:(cy.getD x aK).isSome=true):jB pg cy (x::RO) al:=
 ⟨h.len,fun y hy=>h.same y fun a=>hy (aH _ a),fun y hy=>by
  rcases hy with hy|hy
  ·rcases aM.1 hy with rfl|hy;·exact H
   ·exact h.lZ y (cS hy)
  ·exact h.lZ y (dc hy),h.free,h.nd,h.used⟩
theorem N_ {pg:Ξ} (h:Rm.firstFree pg=aK):pg.length<=Rm.used pg:=by
 rcases ep (Rm.used pg) pg.length with H|H;·obtain⟨p,hp⟩:=Bl.jc H;rw[h] at hp;cases hp
 ·exact H
structure Kids (E:Ev) (X0:World) (R0:Φ) (rt:Δ) (sb:Nat) (R:Φ) (ps:Γ) (pg:Ξ) (M:Nat->Option NV) (X:World) (sp:Δ) (k p:Nat) (t:Tr.E (k+1)) (F:Δ) (n1:NV) (l':List (Tr.Tx×Tr.E k)) (R1:Φ) (ps1:Γ) (h_:Ξ) (M1:Nat->Option NV) (kY al:Δ) (X1:World):Prop where
 sw:SW E X0 R0 R1 ps1 h_ rt M1 X1 sb (iF kY)
 pre:ps<+:ps1
 few:ps1.length+4<=ps.length+4*Tr.cnt (k+1) t
 sm:Tr.lU (Tr.Sm k) (Tr.its t) l'
 st:∀x∈l',cZ h_ k x.2
 at_:M1 p=av n1
 kvs:n1.its.map kv=(ak k l').map kv
 cF:(Tr.ed k l'++kY).Perm (Tr.ed k (Tr.its t)++sp++al)
 pg:jB pg h_ (Tr.ed k l') al
 fV:al.length<=Tr.lS k (Tr.its t)
 same:∀r,r∉F->M1 r=M r
 but:aE (fun b=>¬R b\/b=sb\/MB M b) X X1
 sub:∀b,R b->R1 b
 new:∀b,R1 b->R b\/X.heap.size<=b
 mb:∀b,MB M1 b->MB M b
end
theorem cU {pg:Ξ} {x:Nat} (h:(pg.getD x aK).isSome=true):x<pg.length:=zaB
theorem GD {pg:Ξ} {p:Nat} (h:Rm.firstFree pg=av p):Rm.alloc pg=(((p:Nat):Int),0)/\Rm.jV pg=pg.set p (av (Dk.full [])):=by unfold Rm.alloc Rm.jV;rw[h];exact⟨rfl,rfl⟩
section
variable {E:Ev} {X0 X X' X1 V:World} {R0 R R' R1 S:Φ} {ps ps' ps1:Γ} {pg cy h_:Ξ} {rt:Δ} {M M' M1:Nat->Option NV} {k p q sb:Nat} {n1:NV} {sp kY al F:Δ} {t:Tr.E (k+1)} {l':List (Tr.Tx×Tr.E k)}
structure Zn (E:Ev) (X0:World) (R0:Φ) (rt:Δ) (sb:Nat) (R:Φ) (ps:Γ) (pg:Ξ) (M:Nat->Option NV) (X:World) (sp:Δ) (k p:Nat) (t:Tr.E (k+1)) (F:Δ) (n1:NV) (l':List (Tr.Tx×Tr.E k)) (page:Nat) (R1:Φ) (ps1:Γ) (h_:Ξ) (M1:Nat->Option NV) (kY al:Δ) (X1:World):Prop where
 sw:SW E X0 R0 R1 ps1 h_ rt M1 X1 sb (iF kY)
 pre:ps<+:ps1
 few:ps1.length+2<=ps.length+4*Tr.cnt (k+1) t
 sm:Tr.lU (Tr.Sm k) (Tr.its t) l'
 st:∀x∈l',cZ h_ k x.2
 at_:M1 p=av {n1 with page:=page}
 kvs:n1.its.map kv=(ak k l').map kv
 keep:(Tr.hd t).page.isSome=true->(Tr.hd t).page=av page
 cF:((page::Tr.ed k l')++kY).Perm (Tr.cF (k+1) t++sp++al)
 out:page∉Tr.ed k l'
 pg:jB pg h_ (page::Tr.ed k l') al
 fV:al.length<=Tr.fV (k+1) t
 same:∀r,r∉F->M1 r=M r
 but:aE (fun b=>¬R b\/b=sb\/MB M b) X X1
 sub:∀b,R b->R1 b
 new:∀b,R1 b->R b\/X.heap.size<=b
 mb:∀b,MB M1 b->MB M b
abbrev Zn.o:=@Zn.out
theorem Vg {k:Nat} {lo:Tr.Tx} {h:Option Tr.Tx} {t:Tr.E (k+1)} {l':List (Tr.Tx×Tr.E k)} (b:Tr.Ok (k+1) lo h t) (hs:Tr.lU (Tr.Sm k) (Tr.its t) l'):Tr.sz k l'<=510/\l'.length<=255/\∀i∈ak k l',i.key.length<=96/\i.val.length<=56:=by
 have d:=b.2.1;have e:Tr.sz k l'=Tr.sz k (Tr.its t):=(Tr.lU.sz hs).symm;have h3:=Tr.jP k l';have a:Tr.Ok (k+1) lo h (Tr.mk ⟨aK,true⟩ l'):=Tr.Sm.ok (Tr.Sm.cons (h:=Tr.hd t) (h':=⟨aK,true⟩) hs) b;have H:=(jq a.2.2).2.2;refine⟨κ,κ,fun i hi=> ?_⟩;obtain⟨x,c,rfl⟩:=bY.1 hi;refine⟨H x c, ?_⟩;show (eG k x.2).length<=56;cases k with
 |succ k=>show 2<=56;decide
 |zero=>obtain⟨_,_,_,O⟩:=a;unfold Tr.vF at O;rw[if_pos rfl] at O;obtain⟨u,hu⟩:=Tr.dz.each O x c;exact hu.1
theorem GF {page:Nat} (z:Zn E X0 R0 rt sb R ps pg M X sp k p t F n1 l' page R1 ps1 h_ M1 kY al X1) (d:∃lo h,Tr.Ok (k+1) lo h t) (S:n1.level=k) (Z:k<=15) (oK:pg.length<=65536) (hq:ps.length+4*Tr.cnt (k+1) t<=80000000):
  X1.cell? ⟨sb,0,aK⟩=av (dr (av ⟨E.tb,0,aK⟩))/\X1.cell? ⟨E.tb,0,aK⟩=av (dr (av ⟨E.rb,0,aK⟩))/\X1.cell? ⟨p,2,aK⟩=av (bf ct page)/\
  (∀V,Below X1.heap.size X1 V->Calls prog 245 #[ptr p] V fun e V'=>e=c8 (cu (bs (cT k (ak k l'))))/\Below V.heap.size V V')/\∀V,Below X1.heap.size X1 V->Calls prog 127 #[ptr E.rb,bf ct page,cu (bs (cT k (ak k l')))] V fun e X'=>∃c:Int,e=c8 (bf ct c)/\rE E X0 R0 rt sb R ps pg M X sp k p t F c X'/\X'.cell? ⟨sb,0,aK⟩=av (dr (av ⟨E.tb,0,aK⟩))/\X'.cell? ⟨E.tb,0,aK⟩=av (dr (av ⟨E.rb,0,aK⟩))/\X'.cell? ⟨p,2,aK⟩=av (bf ct page):=by
 obtain⟨lo,h,d⟩:=d;obtain⟨s1,s2,I⟩:=Vg d z.sm;have n:=z.sw.ts.mem.nd p _ z.at_;have B:n1.its.length=l'.length:=by
  have:=congrArg List.length z.kvs
  rwa [aL,aL,ak,aL] at this
 have J:cT k n1.its=cT k (ak k l'):=N9 z.kvs;have K:∀i∈n1.its,i.key.length<=96/\i.val.length<=56:=fun i hi=>by
  have L:kv i∈(ak k l').map kv:=by rw[<-z.kvs];exact bY.2 ⟨i,hi,rfl⟩
  obtain⟨j,O,e⟩:=bY.1 L;have:=I j O;rw[show j.key=i.key from (Prod.mk.inj e).1,show j.val=i.val from (Prod.mk.inj e).2] at this;exact this
 obtain⟨a,cc,q,-,-⟩:=z.sw.sp;have Q:(cT k (ak k l')).length<=512:=by rw[mP,jo];omega
 have g:(h_.getD page aK).isSome=true:=z.pg.lZ page (cS au);have C:=cU g;refine⟨q.cell (j:=0) rfl,z.sw.ts.tree.cell (j:=0) rfl,n.c2,fun V s=> ?_,fun V s=> ?_⟩;·have:=Bt (n.still s) (by show n1.level<=15;omega) (by show n1.its.length<=255;omega) K;rw[show ({n1 with page:=(page:Int)}:NV).level=k from S,show ({n1 with page:=(page:Int)}:NV).its=n1.its from rfl,J] at this;exact this
 ·have r:=z.sw.still (R':=R1) s (fun _ h=>h) (fun _ h=>cS h);refine (sX r.ts.rm page _ (by have:=z.few;omega)).mono ?_;rintro e X' ⟨rfl,P,⟨T,U⟩,N,D⟩;have G:Rm.wrote h_ page (bs (cT k (ak k l'))).size=0:=by have hr:Rm.refuse h_ page=0:=(by unfold Rm.refuse;rw[if_pos ⟨κ,κ⟩,cK,if_pos g]);unfold Rm.wrote;rw[if_pos hr,if_neg zaS]
  have v:Rm.written h_ page (bs (cT k (ak k l'))).data.toList=h_.set page (av (Dk.full (cT k (ak k l')))):=by unfold Rm.written;rw[bJ,if_pos (by rw[<-G,aG]),cK]
  rw[v] at N;have u:=r.room N D;obtain⟨a3,c3,W,-,-⟩:=u.sp;have Y:=u.ts.mem.nd p _ z.at_;have H:=jB.one (pg:=h_) (t:=Dk.full (cT k (ak k l'))) C;rw[if_pos g] at H;have A:jB pg (h_.set page (av (Dk.full (cT k (ak k l'))))) (page::Tr.ed k l') al:=by
   have h3:=z.pg.trans H;rw[bh] at h3;refine⟨h3.len,fun x l=>h3.same x fun m=>l ?_,fun x l=>h3.lZ x (l.imp_left fun m=>ah.2 (cS m)),h3.free,h3.nd,h3.used⟩;rcases ah.1 m with m|m;·exact m
   ·grind
  have w:cZ (h_.set page (av (Dk.full (cT k (ak k l'))))) (k+1) (Tr.mk ⟨av page,false⟩ l'):=by
   refine⟨⟨page,rfl,by have:=z.pg.len;omega, ?_⟩,rfl,fun x l=>gw (z.st x l) fun y hy=> ?_⟩;·simp_all
   ·rw[qA C,if_neg];rintro rfl;exact z.o (rD l hy)
  refine⟨0,by rw[G],cS ⟨rfl,R1,P,_,M1,Tr.mk ⟨av page,false⟩ l',kY,al,⟨u,z.pre.trans U,by have:=z.few;omega,z.sm,w,⟨_,z.at_,rfl⟩,fun hs=>(z.keep hs).symm,z.cF,A,z.fV,z.same,(z.but.trans (aE.aF s (fun _=>False)) (fun _ _ f=>f.elim)).trans D (fun b hb hn=>cS fun hr=>hn (z.sub b hr)),z.sub,z.new,z.mb⟩⟩,W.cell (j:=0) rfl,u.ts.tree.cell (j:=0) rfl,Y.c2⟩
theorem RZ {k:Nat} (h:Tr.Hd) (l:List (Tr.Tx×Tr.E k)):Tr.cF (k+1) (Tr.mk h l)=h.page.toList++Tr.ed k l:=rfl
theorem GG (K:Kids E X0 R0 rt sb R ps pg M X sp k p t F n1 l' R1 ps1 h_ M1 kY al X1) (sR:n1.level=k) (C:n1.page=Cq (Tr.hd t).page) (q:n1.fresh=(Tr.hd t).fresh)
  (held:(Tr.hd t).fresh=false->∃page,(Tr.hd t).page=av page/\page<65536/\pg.getD page aK=av (Dk.full (cT k (ak k (Tr.its t))))/\ak k l'=ak k (Tr.its t))
  (d:(Tr.cF (k+1) t++sp).Nodup) (H:∀x∈Tr.cF (k+1) t++sp,(pg.getD x aK).isSome=true) (hq:ps.length+4*Tr.cnt (k+1) t<=80000000) (W:p∈F) (Ob:kY.length<=1000000):
  ∃f,X1.cell? ⟨p,7,aK⟩=av (ey f)/\(f=false->rE E X0 R0 rt sb R ps pg M X sp k p t F 0 X1)/\
  (f=true->∃Z:Int,X1.cell? ⟨p,2,aK⟩=av (bf ct Z)/\((Z=-1/\Calls prog 244 #[ptr sb] X1 fun e X'=>(∃page:Nat,e=c8 (ec #[bf ct page,bf ct 0])/\(∃v,X'.cell? ⟨p,2,aK⟩=av v)/\X'.frozen? ⟨p,2,aK⟩=false/\∃R2 P I M2 J O,Zn E X0 R0 rt sb R ps pg M X sp k p t F n1 l' page R2 P I M2 J O (X'.setCell ⟨p,2,aK⟩ (bf ct page)))\/(∃v c:Int,e=c8 (ec #[bf ct v,bf ct c])/\c≠0/\rE E X0 R0 rt sb R ps pg M X sp k p t F c X'))\/∃page:Nat,Z=page/\∃R2 P I M2 J O,Zn E X0 R0 rt sb R ps pg M X sp k p t F n1 l' page R2 P I M2 J O X1)):=by
 have hn:=K.sw.ts.mem.nd p _ K.at_;have aby:1<=Tr.cnt (k+1) t:=Nat.le_add_right 1 _;have n:∀x∈Tr.ed k l',x∈Tr.ed k (Tr.its t)\/x∈sp\/x∈al:=fun x L=>by
  have:=(K.cF.mem_iff (a:=x)).1 (ah.2 (cS L));rcases ah.1 this with h|h;·grind
  ·exact dc (dc h)
 rw[Tr.bE] at d H;refine⟨n1.fresh,hn.c7,fun hf=> ?_,fun hf=>⟨n1.page,hn.c2, ?_⟩⟩
 ·obtain⟨page,j,s,h3,h4⟩:=held (by rw[<-q];exact hf);rw[j] at d H;have N:page∉Tr.ed k l':=fun m=>by
   have hd:=(cA.1 (show (page::(Tr.ed k (Tr.its t)++sp)).Nodup from by simpa using d)).1;rcases n page m with h|h|h;·grind
   ·grind
   ·have:=(K.pg.free page h).1;rw[h3] at this;cases this
  have S:h_.getD page aK=pg.getD page none:=K.pg.same page N;refine cS ⟨rfl,R1,ps1,h_,M1,Tr.mk (Tr.hd t) l',kY,al,⟨K.sw,K.pre,zbg,K.sm,⟨⟨page,j,s, ?_⟩,q.symm.trans hf,K.st⟩,⟨n1,K.at_,C⟩,fun _=>rfl, ?_, ?_, ?_,K.same,K.but,K.sub,K.new,K.mb⟩⟩;·simp_all
  ·rw[RZ,Tr.bE,aD,aD,aD];refine List.Perm.append_left _ ?_;rw[<-aD];exact K.cF
  ·rw[RZ,j];exact K.pg.more (by rw[S,h3];rfl)
  ·rw[Tr.b7];have:=K.fV;omega
 ·cases hp:(Tr.hd t).page with
  |some page=>
   right;rw[hp] at C d H;refine⟨page,C,R1,ps1,h_,M1,kY,al,⟨K.sw,K.pre,zbg,K.sm,K.st, ?_,K.kvs,fun _=>hp, ?_,fun m=> ?_,K.pg.more ?_, ?_,K.same,K.but,K.sub,K.new,K.mb⟩⟩;·have e:({n1 with page:=(page:Int)}:NV)=n1:=(by have Y:n1.page=(page:Int):=C;cases n1;simp only at Y;subst Y;rfl);rw[e];exact K.at_
   ·rw[Tr.bE,hp];show (page::(Tr.ed k l'++kY)).Perm ((page::Tr.ed k (Tr.its t))++sp++al);rw[fQ,fQ];exact List.Perm.cons _ K.cF
   ·have hd:=(cA.1 (show (page::(Tr.ed k (Tr.its t)++sp)).Nodup from by simpa using d)).1;rcases n page m with h|h|h;·grind
    ·grind
    ·have:=(K.pg.free page h).1;have s:=H page ν;rw[this] at s;cases s
   ·exact K.pg.keeps (H page ν)
   ·rw[Tr.b7];have:=K.fV;omega
  |none=>
   left;rw[hp] at C;have hnw:Tr.fV (k+1) t=1+Tr.lS k (Tr.its t):=(by rw[Tr.b7,hp];rfl);refine⟨C, ?_⟩;cases kY with
   |cons x kY=>
    refine (SW.take (x:=(x:Int)) (l:=iF kY) K.sw (by unfold iF;rw[aL];simp only[a_] at Ob;omega)).mono ?_;rintro e X' ⟨rfl,g,T⟩;have i:=g.ts.mem.nd p _ K.at_;have u:x∉Tr.ed k l'/\(h_.getD x aK).isSome=true:=by
     have w:(Tr.ed k (Tr.its t)++sp++al).Nodup:=(by rw[hp] at d H;refine aP.2 ⟨by simpa using d,K.pg.nd,fun a ha b T e=> ?_⟩;subst e;have j:=H a (by simpa using ha);rw[(K.pg.free a T).1] at j;cases j);have kE:=(K.cF.nodup_iff).2 w;refine⟨fun m=>(aP.1 kE).2.2 x m x au rfl, ?_⟩;have:=(K.cF.mem_iff (a:=x)).1 (ah.2 (dc au));rw[hp] at H;rcases ah.1 this with h|h;·exact K.pg.keeps (H x zax)
     ·exact K.pg.lZ x (dc h)
    left;refine⟨x,rfl,⟨_,i.c2⟩,i.blk.frozen 2,R1,ps1,h_,upd M1 p {n1 with page:=(x:Int)},kY,al,⟨g.cell K.at_ {n1 with page:=(x:Int)} 2 _ rfl rfl rfl rfl rfl rfl,K.pre,zbg,K.sm,K.st,bF _ _ _,K.kvs,(fun h=>by rw[hp] at h;cases h), ?_,u.1,K.pg.more u.2,by have:=K.fV;omega,fun r hr=> ?_, ?_,K.sub,K.new,fun b A=> ?_⟩⟩;·rw[Tr.bE,hp];refine List.Perm.trans ?_ K.cF;exact List.perm_middle.symm
    ·rw[aX (fun e=>hr (by rw[e];exact W))];exact K.same r hr
    ·exact (K.but.trans T (fun b _ e=>dc (cS e))).trans ((aE.refl (fun b=>b=p) X').setCell _ _ fun _=>rfl) (fun b _ e=>by rw[e];exact dc (dc (K.mb p ⟨p,n1,K.at_,cS rfl⟩)))
    ·obtain⟨r,y,hr,B⟩:=A;rcases aO hr with⟨rfl,rfl⟩|⟨_,hr⟩;·exact K.mb b ⟨_,n1,K.at_,B⟩
     ·exact K.mb b ⟨r,y,hr,B⟩
   |nil=>
    obtain⟨a,cc,D,-,-⟩:=K.sw.sp;refine (J6 K.sw.ts D zbg).mono ?_;rintro e X' ⟨rfl,P,⟨hl2,LH⟩,U,A⟩;rcases Rm.pe h_ with Q|⟨x,Q,L,G⟩;·right;refine⟨(Rm.alloc h_).1,(Rm.alloc h_).2,rfl,by unfold Rm.alloc;rw[Q];decide,dc ⟨by unfold Rm.alloc;rw[Q],R1,M1,P,_,K.sw.ts.zZ U A,K.pre.trans LH,zbg, ?_⟩⟩;have j:=N_ Q;have s:=K.pg.used;have h3:=K.pg.len;have h4:=K.fV;omega
    ·left;obtain⟨vI,Xr⟩:=GD Q;rw[vI];rw[Xr] at U;have g:=K.sw.room U A;have i:=g.ts.mem.nd p _ K.at_;have o:=jB.one (pg:=h_) (t:=Dk.full []) L;rw[G,if_neg ξ] at o;have V:x∉Tr.ed k l':=fun m=>by have:=K.pg.lZ x (cS m);rw[G] at this;cases this
     refine⟨x,rfl,⟨_,i.c2⟩,i.blk.frozen 2,R1,P,_,upd M1 p {n1 with page:=(x:Int)},[],al++[x],⟨g.cell K.at_ {n1 with page:=(x:Int)} 2 _ rfl rfl rfl rfl rfl rfl,K.pre.trans LH,zbg,K.sm,fun y hy=>gw (K.st y hy) fun z hz=> ?_,bF _ _ _,K.kvs,(fun h=>by rw[hp] at h;cases h), ?_,V, ?_,by have:=K.fV;rw[aq];show al.length+1<=_;omega,fun r hr=> ?_, ?_,K.sub,K.new,fun b b8=> ?_⟩⟩;·grind [qA,rD]
     ·have j:=K.cF;rw[Tr.bE,hp];show ((x::Tr.ed k l')++[]).Perm (Tr.ed k (Tr.its t)++sp++(al++[x]));rw[bh,<-aD];rw[bh] at j;exact ((List.Perm.cons x j).trans (List.perm_append_singleton x _).symm)
     ·have h3:=K.pg.trans o;refine⟨h3.len,fun y hy=>h3.same y fun m=>hy ?_,fun y hy=>h3.lZ y (hy.imp_left fun m=> ?_),h3.free,h3.nd,h3.used⟩;·grind
      ·grind
     ·rw[aX (fun e=>hr (by rw[e];exact W))];exact K.same r hr
     ·exact (K.but.trans A (fun b _ hn=>cS fun hr=>hn (K.sub b hr))).trans ((aE.refl (fun b=>b=p) X').setCell _ _ fun _=>rfl) (fun b _ e=>by rw[e];exact dc (dc (K.mb p ⟨p,n1,K.at_,cS rfl⟩)))
     ·obtain⟨r,y,hr,B⟩:=b8;rcases aO hr with⟨rfl,rfl⟩|⟨_,hr⟩;·exact K.mb b ⟨_,n1,K.at_,B⟩
      ·exact K.mb b ⟨r,y,hr,B⟩
end
theorem vf:∀l:List (Tr.Tx×Tr.E 0),Tr.ed 0 l=[]
 |[]=>rfl
 |x::l=>by rw[Tr.gR,vf l];rfl
theorem yl {k:Nat} {lo:Tr.Tx} {h:Option Tr.Tx} {t:Tr.E (k+2)} (b:Tr.Ok (k+2) lo h t):∀x∈Tr.its t,∃lo h,Tr.Ok (k+1) lo h x.2:=by
 intro x H;obtain⟨_,_,_,hs⟩:=b;rw[Tr.dN] at hs;cases hi:Tr.its t with
 |nil=>rw[hi] at H;cases H
 |cons a l=>
  rw[hi] at H hs;rcases aM.1 H with rfl|H;·obtain⟨u,hu⟩:=Tr.dz.each hs (lo,x.2) au;exact⟨_,u,hu⟩
  ·obtain⟨u,hu⟩:=Tr.dz.each hs x (aH _ H);exact⟨_,u,hu⟩
theorem jB.abz {pg cy:Ξ} {RO al l:Δ} (h:jB pg cy RO al) (hl:∀x∈l,(cy.getD x aK).isSome=true):jB pg cy (RO++l) al:=
 ⟨h.len,fun y hy=>h.same y fun H=>hy (ah.2 (cS H)),fun y hy=>by
  rcases hy with hy|hy
  ·rcases ah.1 hy with hy|hy;·exact h.lZ y (cS hy)
   ·exact hl y hy
  ·exact h.lZ y (dc hy),h.free,h.nd,h.used⟩
theorem vg {α:Type} (f:α->Nat) (l:List α) (j:Nat) (h:j<l.length):((l.take (j+1)).map f).sum=((l.take j).map f).sum+f l[j]/\((l.take (j+1)).map f).sum<=(l.map f).sum:=by
 have H:l.take (j+1)=l.take j++[l[j]]:=cz h;refine⟨by rw[H,bM,List.sum_append];simp, ?_⟩;have a:l.map f=(l.take (j+1)).map f++(l.drop (j+1)).map f:=by rw[<-bM,b_]
 rw[a,List.sum_append];omega
section
variable {E:Ev} {X0 X X' X1 V:World} {R0 R R' R1 S:Φ} {ps ps' ps1:Γ} {pg cy h_:Ξ} {rt:Δ} {M M' M1:Nat->Option NV} {k p q sb:Nat} {n:NV} {sp kY al F:Δ} {t:Tr.E (k+1)}
def ym (k:Nat):Prop:=∀{E:Ev} {X0 X:World} {R0 R:Φ} {ps:Γ} {pg:Ξ} {rt:Δ} {M:Nat->Option NV} {p sb:Nat} {sp F:Δ} {t:Tr.E (k+1)},
 SW E X0 R0 R ps pg rt M X sb (iF sp)->dQ M pg k p t F->F.Nodup->(∃lo h,Tr.Ok (k+1) lo h t)->(Tr.cF (k+1) t++sp).Nodup->(∀x∈Tr.cF (k+1) t++sp,(pg.getD x aK).isSome=true)->pg.length<=65536->ps.length+4*Tr.cnt (k+1) t<=80000000->
 Calls prog 196 #[ptr sb,ptr p] X fun e X'=>∃c:Int,e=c8 (bf ct c)/\rE E X0 R0 rt sb R ps pg M X sp k p t F c X'
theorem fU:∀{n:Nat} {l:Δ},l.Nodup->(∀x∈l,x<n)->l.length<=n
 |0,[],_,_=>af _
 |0,a::_,_,h=>absurd (h a au) (Nat.not_lt_zero _)
 |n+1,l,hn,h=>by
  have b:=fU (n:=n) (l:=l.erase n) (hn.erase n) fun x H=>by
   have c:=h x (List.mem_of_mem_erase H);have h3:x≠n:=fun e=>by subst e;exact hn.not_mem_erase H
   omega
  by_cases d:n∈l;·grind
  ·grind
theorem Kids.still {n1:NV} {l':List (Tr.Tx×Tr.E k)} (K:Kids E X0 R0 rt sb R ps pg M X sp k p t F n1 l' R1 ps1 h_ M1 kY al X1) (H:Below X1.heap.size X1 V):Kids E X0 R0 rt sb R ps pg M X sp k p t F n1 l' R1 ps1 h_ M1 kY al V:=
 ⟨K.sw.still H (fun _ h=>h) (fun _ h=>cS h),K.pre,K.few,K.sm,K.st,K.at_,K.kvs,K.cF,K.pg,K.fV,K.same,K.but.trans (aE.aF H (fun _=>False)) (fun _ _ f=>f.elim),K.sub,K.new,K.mb⟩
theorem J_:ym 0:=by
 intro E X0 X R0 R ps pg rt M p sb sp F t hs hr hF d H a o e;obtain⟨n,hn,b,hi,rfl⟩:=hr;have A:1<=Tr.cnt (0+1) t:=Nat.le_add_right 1 _;have O:=hs.ts.mem.nd p n hn;have J:sp.length<=65536:=aN (fU (aP.1 H).2.1 fun x m=>cU (a x (ah.2 (dc m)))) o;have g:n.its.length=(Tr.its t).length:=by rw[hi];exact aL _
 have r:Kids E X0 R0 rt sb R ps pg M X sp 0 p t [p] n (Tr.its t) R ps pg M sp [] X:=⟨hs,List.prefix_refl _,κ,Tr.lU.refl (Tr.Sm.refl 0) _,fun _ _=>trivial,hn,by rw[hi],by rw[bh],by rw[vf];exact jB.refl pg,aA _,fun _ _=>rfl,aE.refl _ _,fun _ h=>h,fun _ h=>cS h,fun _ h=>h⟩;have f:Wrs sb p E.tb E.rb n.its.length n.rg n.ro n.cap (fun _ V=>Kids E X0 R0 rt sb R ps pg M X sp 0 p t [p] n (Tr.its t) R ps pg M sp [] V) (fun page V=>∃R2 P i M2 B l,Zn E X0 R0 rt sb R ps pg M X sp 0 p t [p] n (Tr.its t) page R2 P i M2 B l V) (fun c V=>rE E X0 R0 rt sb R ps pg M X sp 0 p t [p] c V):=by
  refine⟨fun j V k=>(k.sw.ts.mem.nd p n hn).c1,fun j V k s=>⟨n.its[j],Ad.of (k.sw.ts.mem.nd p n hn).row s,fun _ W f=>k.still f,fun q e=> ?_⟩,fun V k=> ?_,fun page V u=> ?_⟩;·simp_all[ak]
  ·refine GG k b.level b.page b.fresh (fun hf=> ?_) H a e au κ;obtain⟨page,v,w,h3,_⟩:=b.held hf;exact⟨page,v,w,h3,rfl⟩
  ·obtain⟨R2,P,i,M2,B,l,z⟩:=u;obtain⟨G,y,C,D,I⟩:=GF z d b.level (aA _) o e;exact⟨G,y,C,_,D,I⟩
 exact Ar f r O.small.len O.small.cap.1
structure pK (E:Ev) (X0:World) (R0:Φ) (rt:Δ) (sb:Nat) (R:Φ) (ps:Γ) (pg:Ξ) (M:Nat->Option NV) (X:World) (sp:Δ) (k p:Nat) (t:Tr.E (k+2)) (fs:List (Δ)) (n:NV) (j:Nat) (J:List It) (l':List (Tr.Tx×Tr.E (k+1))) (R1:Φ) (ps1:Γ) (h_:Ξ) (M1:Nat->Option NV) (kY al:Δ) (X1:World):Prop where
 sw:SW E X0 R0 R1 ps1 h_ rt M1 X1 sb (iF kY)
 pre:ps<+:ps1
 few:ps1.length<=ps.length+4*(((Tr.its t).take j).map fun p=>Tr.cnt (k+1) p.2).sum
 sm:Tr.lU (Tr.Sm (k+1)) ((Tr.its t).take j) l'
 st:∀x∈l',cZ h_ (k+1) x.2
 at_:M1 p=av {n with its:=J++n.its.drop j}
 jl:J.length=j
 le:j<=n.its.length
 kvs:J.map kv=(ak (k+1) l').map kv
 keep:(∀x∈(Tr.its t).take j,(Tr.hd x.2).page.isSome=true)->ak (k+1) l'=ak (k+1) ((Tr.its t).take j)
 cF:(Tr.ed (k+1) l'++kY).Perm (Tr.ed (k+1) ((Tr.its t).take j)++sp++al)
 pg:jB pg h_ (Tr.ed (k+1) l') al
 fV:al.length<=Tr.lS (k+1) ((Tr.its t).take j)
 same:∀r,r∉p::(fs.take j).flatten->M1 r=M r
 but:aE (fun b=>¬R b\/b=sb\/MB M b) X X1
 sub:∀b,R b->R1 b
 new:∀b,R1 b->R b\/X.heap.size<=b
 mb:∀b,MB M1 b->MB M b
theorem pK.still {t:Tr.E (k+2)} {fs:List (Δ)} {j:Nat} {J:List It} {l':List (Tr.Tx×Tr.E (k+1))} (K:pK E X0 R0 rt sb R ps pg M X sp k p t fs n j J l' R1 ps1 h_ M1 kY al X1) (H:Below X1.heap.size X1 V):pK E X0 R0 rt sb R ps pg M X sp k p t fs n j J l' R1 ps1 h_ M1 kY al V:=
 ⟨K.sw.still H (fun _ h=>h) (fun _ h=>cS h),K.pre,K.few,K.sm,K.st,K.at_,K.jl,K.le,K.kvs,K.keep,K.cF,K.pg,K.fV,K.same,K.but.trans (aE.aF H (fun _=>False)) (fun _ _ f=>f.elim),K.sub,K.new,K.mb⟩
theorem wP {t:Tr.E (k+2)} {fs:List (Δ)} {j:Nat} {J:List It} {l':List (Tr.Tx×Tr.E (k+1))} (K:pK E X0 R0 rt sb R ps pg M X sp k p t fs n j J l' R1 ps1 h_ M1 kY al X1) (w:j<(Tr.its t).length) (l:(Tr.cF (k+2) t++sp).Nodup) (m:∀x∈Tr.cF (k+2) t++sp,(pg.getD x aK).isSome=true):
  (∀x∈Tr.cF (k+1) ((Tr.its t)[j]).2,h_.getD x aK=pg.getD x aK/\x∉Tr.ed (k+1) l')/\(Tr.cF (k+1) ((Tr.its t)[j]).2++kY).Nodup/\(∀x∈Tr.cF (k+1) ((Tr.its t)[j]).2++kY,(h_.getD x aK).isSome=true):=by
 have f:∀x∈Tr.cF (k+1) ((Tr.its t)[j]).2,x∈Tr.ed (k+1) (Tr.its t):=fun x h=>rD (bp w) h;rw[Tr.bE,aD] at l m;have o:=(aP.1 l).2.1;have V:∀x∈Tr.ed (k+1) (Tr.its t)++sp,(pg.getD x aK).isSome=true:=fun x h=>m x (ah.2 (dc h));have d:Tr.its t=(Tr.its t).take j++(Tr.its t)[j]::(Tr.its t).drop (j+1):=by rw[mR,b_]
 have q:Tr.ed (k+1) (Tr.its t)=Tr.ed (k+1) ((Tr.its t).take j)++(Tr.cF (k+1) ((Tr.its t)[j]).2++Tr.ed (k+1) ((Tr.its t).drop (j+1))):=by
  conv=>lhs;rw[d]
  rw[Tr.bX,Tr.gR]
 have g:(Tr.ed (k+1) ((Tr.its t).take j)++sp++al).Nodup:=by
  refine aP.2 ⟨?_,K.pg.nd,fun a ha b r e=> ?_⟩;·rw[q,aD] at o;have H:=aP.1 o;have u:=aP.1 H.2.1;exact aP.2 ⟨H.1,u.2.1,fun a ha b r=>H.2.2 a ha b (ah.2 (dc r))⟩
  ·subst e
   have H:(pg.getD a aK).isSome=true:=V a (by
    rw[q];rcases ah.1 ha with ha|ha;·exact ah.2 (cS (ah.2 (cS ha)))
    ·exact ah.2 (dc ha))
   rw[(K.pg.free a r).1] at H;cases H
 have s:∀x∈Tr.cF (k+1) ((Tr.its t)[j]).2,x∉Tr.ed (k+1) ((Tr.its t).take j)++sp++al:=fun x h c=>by
  rw[q,aD,aD] at o;have H:=aP.1 o;have u:=aP.1 H.2.1;rcases ah.1 c with c|c
  ·rcases ah.1 c with c|c;·exact H.2.2 x c x (ah.2 (cS h)) rfl
   ·exact u.2.2 x h x (ah.2 (dc c)) rfl
  ·have h3:=V x (ah.2 (cS (f x h)));rw[(K.pg.free x c).1] at h3;cases h3
 have i:∀x∈Tr.cF (k+1) ((Tr.its t)[j]).2,x∉Tr.ed (k+1) l'/\x∉kY:=fun x h=>
  ⟨fun c=>s x h ((K.cF.mem_iff).1 (ah.2 (cS c))),fun c=>s x h ((K.cF.mem_iff).1 (ah.2 (dc c)))⟩
 have v:=(aP.1 ((K.cF.nodup_iff).2 g)).2.1;refine⟨fun x h=>⟨K.pg.same x (i x h).1,(i x h).1⟩,aP.2 ⟨?_,v,fun a ha b r e=>(i a ha).2 (by rw[e];exact r)⟩,fun x h=> ?_⟩;·rw[q,aD,aD] at o;exact (aP.1 (aP.1 o).2.1).1
 ·rcases ah.1 h with h|h;·exact K.pg.keeps (V x (ah.2 (cS (f x h))))
  ·have H:=(K.cF.mem_iff (a:=x)).1 (ah.2 (dc h));rcases ah.1 H with H|H
   ·refine K.pg.keeps (V x ?_);rw[q];rcases ah.1 H with H|H;·exact ah.2 (cS (ah.2 (cS H)))
    ·exact ah.2 (dc H)
   ·exact K.pg.lZ x (dc H)
end
end
end Go.Proofs.YtgfdijemhanfkaaGreatDoor
