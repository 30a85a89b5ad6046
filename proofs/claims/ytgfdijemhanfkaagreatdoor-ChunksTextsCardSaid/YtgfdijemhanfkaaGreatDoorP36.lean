/- Elder texts, cut down and merged (36). -/
import Derived.Test.YtgfdijemhanfkaaGreatDoorP34
import Derived.Test.YtgfdijemhanfkaaGreatDoorP35
import Derived.Test.YtgfdijemhanfkaaGreatDoorP25
import Derived.Test.YtgfdijemhanfkaaGreatDoorP7
import Derived.Test.YtgfdijemhanfkaaGreatDoorP8
import Derived.Test.YtgfdijemhanfkaaGreatDoorP5
import Derived.Test.YtgfdijemhanfkaaGreatDoorP23
import Derived.Test.YtgfdijemhanfkaaGreatDoorP15
import Derived.Test.YtgfdijemhanfkaaGreatDoorP16
import Derived.Sort.OwnSortedInts
import Derived.Test.YtgfdijemhanfkaaGreatDoorIter
import Derived.Deep.RegionHeldLaw
import Derived.Deep.CutBlock
import Derived.Deep.DeepCutAuto
import Derived.Test.YtgfdijemhanfkaaGreatDoorPTk
set_option linter.unusedSimpArgs false
set_option linter.unusedVariables false
set_option maxRecDepth 100000
set_option maxHeartbeats 8000000
namespace Go.Proofs.YtgfdijemhanfkaaGreatDoor
open _root_.Go.Proofs.Tryz
open Option renaming none→aK,some→av
open Value renaming int→bf,string→cu,slice→cx,tuple→ec,bool→ey,pointer→dr,agg→eU
open IntKind renaming i64→ct,u64→eZ
open Ending renaming returned→c8
open Obj renaming cells→dg
open Or renaming inl→cS,inr→dc
open List renaming mem_cons_of_mem->aH,map_append->bM,map_cons->bI,pairwise_cons->cC,pairwise_append->lD,mem_map->bY,mem_cons_self->au,mem_append->ah,length_pos_iff->d_,length_map->aL,getElem?_eq_getElem->aI,drop_eq_getElem_cons->cE,take_append_drop->b_,append_assoc->aD,nodup_append->aP,exists_cons_of_ne_nil->vV,length_append->aq,length_singleton->gi,replicate->aV,mem_append_right->fH,getD_eq_getElem?_getD->bC,getElem?_set_ne->lp,mem_append_left->jF,mem_singleton->bB,mem_cons->aM,nodup_cons->cA,length_cons->a_,append_nil->bh,filter_cons->c9,length_nil->gd,nil_append->cM,take_of_length_le->bD,mem_filter->dU,filter_sublist->sG,pairwise_iff_getElem->gh,getElem_mem->bp,setIfInBounds_toArray->aC,set_cons_succ->aB,set_cons_zero->ay,getLast?_concat->sJ,replicate_succ->k_,flatten_cons->dy,getElem?_append_right->gO,set_append_right->iP,length_take->aJ,length_replicate->dR,take_succ_eq_append_getElem->cz,getElem_map->gS
open Bool renaming and_eq_true->fk
open Nat renaming succ_ne_zero->dS,le_refl->af,zero_le->aA,le_trans->aN,lt_of_lt_of_le->bL,mod_eq_of_lt->gF,mod_lt->fG,zero_add->bG,sub_self->dm
open World renaming size_alloc->aY,alloc->dH
open UInt8 renaming ofNat->az,toNat_ofNat'->bR
open _root_.Array renaming length_toList->aU
open Int renaming toNat_natCast->cK
section
open Go.RowKit Lib
section
variable {lim:Int} {lo hi:Tr.Tx}
theorem AK:∀{l:Tr.eO},(∀p∈l,hasB lo hi p.1=false)->∀s,l.foldl (eN lim lo hi) s=s
 |[],_,_=>rfl
 |p::l,h,s=>by
  have e:eN lim lo hi s p=s:=by simp_all[eN]
  rw[List.foldl_cons,e];exact AK (fun x H=>h x (aH _ H)) s
theorem tD:∀{l s:Tr.eO},¬(s.length:Int)<lim->l.foldl (eN lim lo hi) s=s
 |[],_,_=>rfl
 |p::l,s,h=>by
  have e:eN lim lo hi s p=s:=by grind [eN]
  rw[List.foldl_cons,e];exact tD h
theorem AL (k:Nat) (p:Tr.Tx×Tr.E (k+1)) (l:List (Tr.Tx×Tr.E (k+1))):Tr.cH (k+1) (p::l)=Tr.cH k (Tr.its p.2)++Tr.cH (k+1) l:=by show (p::l).flatMap (fun p=>Tr.cH k (Tr.its p.2))=_;rw[List.flatMap_cons];rfl
theorem OA {k:Nat} {L:Tr.Tx} {m:Option Tr.Tx} {c:Tr.E (k+1+1)} (n:Tr.Ok (k+1+1) L m c) {A B:List (Tr.Tx×Tr.E (k+1))} {kc:Tr.Tx} {c':Tr.E (k+1)} (hc:Tr.its c=A++(kc,c')::B) (C:(!hi.isEmpty&& !Tr.lt kc hi)=true):∀x∈Tr.cH (k+1) ((kc,c')::B),hasB lo hi x.1=false:=by
 rw[fk,Bool.not_eq_true',Bool.not_eq_true'] at C;have g:∀x:Tr.Tx×Tr.Tx,Tr.le kc x.1->hasB lo hi x.1=false:=fun x d=>by have o:Tr.lt x.1 hi=false:=Tr.le_trans (show Tr.le hi kc from C.2) d;unfold hasB;rw[o,C.1];simp
 have h:=n.2.2;rw[hc] at h;have hA:A≠[]:=by
  intro e;have f:=h.1 (kc,c') zaF;rw[if_neg (dS k)] at f;have f:kc=[]:=f;rw[f] at C;cases hi with
  |nil=>cases C.1
  |cons a l=>cases C.2
 have H:=(jq h).1;rw[bM,bI] at H;have i:=cC.1 (lD.1 H).2.1;have hs:=Tr.vZ (key:=kc) h (Tr.le_refl _) fun b B' e=>i.1 b.1 (bY.2 ⟨b,zbc,rfl⟩);have h4:=h.2;rw[Tr.dN,Tr.nh,if_neg (by rw[List.isEmpty_iff];exact hA)] at h4;have j:=D6 h4;have w:=(Tr.vY j).low;intro x d;rw[AL] at d;rcases ah.1 d with d|d;·grind
 ·exact g x (Tr.le_of_lt (hs.2 x d))
theorem xJ {k:Nat} {v:Tr.E (k+1)->Tr.eO->Tr.eO×Bool}:∀{l:List (Tr.Tx×Tr.E (k+1))},(∀p∈l,∀s,(v p.2 s).1=(Tr.cH k (Tr.its p.2)).foldl (eN lim lo hi) s/\((v p.2 s).2=false->¬((v p.2 s).1.length:Int)<lim))->(∀A p B,l=A++p::B->(!hi.isEmpty&& !Tr.lt p.1 hi)=true->∀x∈Tr.cH (k+1) (p::B),hasB lo hi x.1=false)->∀s,(gZ v hi l s).1=(Tr.cH (k+1) l).foldl (eN lim lo hi) s/\((gZ v hi l s).2=false->¬((gZ v hi l s).1.length:Int)<lim)
 |[],_,_,s=>⟨rfl,fun h=>χ⟩
 |p::l,hv,hl,s=>by
  unfold gZ;by_cases hc:(!hi.isEmpty&& !Tr.lt p.1 hi)=true;·rw[if_pos hc,AK (hl [] p l rfl hc)];exact⟨rfl,fun h=>χ⟩
  ·rw[if_neg hc];obtain⟨H,c⟩:=hv p au s;rw[AL,List.foldl_append,<-H];by_cases a:(v p.2 s).2=true;·rw[if_pos a];exact xJ (fun x b=>hv x (aH _ b)) (fun A x B e=>hl (p::A) x B zaF) _
   ·simp_all[tD]
theorem SH:∀l:List (Tr.Tx×Tr.E 0),((ak 0 l).map fun i=>((i.key,i.val):Tr.Tx×Tr.Tx))=Tr.cH 0 l
 |[]=>rfl
 |p::l=>congrArg (fun r:Tr.eO=>((p.1,(p.2:Tr.Tx)):Tr.Tx×Tr.Tx)::r) (SH l)
theorem VG (k:Nat) (c:Tr.E (k+1+1)) (s:Tr.eO):fS lim lo hi (k+1) c s=(s,decide ((s.length:Int)<lim)):=by unfold fS;rw[if_neg (dS k)]
theorem AM:∀(k:Nat) (c:Tr.E (k+1)) {l:Tr.Tx} {o:Option Tr.Tx},Tr.Ok (k+1) l o c->∀s,(visit (fS lim lo hi) lo hi k c s).1=(Tr.cH k (Tr.its c)).foldl (eN lim lo hi) s/\((visit (fS lim lo hi) lo hi k c s).2=false->¬((visit (fS lim lo hi) lo hi k c s).1.length:Int)<lim)
 |0,c,_,_,_,s=>by
  have e:visit (fS lim lo hi) lo hi 0 c s=((Tr.cH 0 (Tr.its c)).foldl (eN lim lo hi) s,decide ((((Tr.cH 0 (Tr.its c)).foldl (eN lim lo hi) s).length:Int)<lim)):=by show fS lim lo hi 0 c s=_;unfold fS;rw[if_pos rfl,SH]
  rw[e];exact⟨rfl,fun h=>of_decide_eq_false h⟩
 |k+1,c,l,o,ho,s=>by
  by_cases q:(s.length:Int)<lim
  ·have i:0<(Tr.its c).length:=d_.2 ho.1;have hl:(ak (k+1) (Tr.its c)).length=(Tr.its c).length:=aL _;have U:∀j (h:j<(ak (k+1) (Tr.its c)).length),((ak (k+1) (Tr.its c))[j]).key=((Tr.its c)[j]' κ).1:=fun j h=>by have e:(ak (k+1) (Tr.its c))[j]?=av ⟨((Tr.its c)[j]' κ).1,eG (k+1) ((Tr.its c)[j]' κ).2,aK⟩:=(by grind [ak,aI]);rw[aI h] at e;rw[Option.some.inj e]
   have P:((ak (k+1) (Tr.its c))[0]' κ).key=[]:=(by have r:=ho.2.2.1 ((Tr.its c)[0]) (by rw[List.head?_eq_getElem?,aI i]);rw[if_neg (dS k)] at r;rw[U];exact r);obtain⟨a,w,ha,hle,m⟩:=Kk (Af (by rw[dB];exact (jq ho.2.2).1)) κ P lo;have hat:a<(Tr.its c).length:=κ;have Y:visit (fS lim lo hi) lo hi (k+1) c s=gZ (visit (fS lim lo hi) lo hi k) hi ((Tr.its c).drop a) s:=(by simp_all[visit,VG]);have t:(Tr.its c).drop a=((Tr.its c)[a].1,(Tr.its c)[a].2)::(Tr.its c).drop (a+1):=cE hat;have H:Tr.its c=(Tr.its c).take a++((Tr.its c)[a].1,(Tr.its c)[a].2)::(Tr.its c).drop (a+1):=(by rw[<-t,b_]);have d:=ho.2.2;rw[H] at d;have hs:=Tr.vZ (key:=lo) d (by have:=hle;rw[U] at this;exact this) fun b B' e=>by have u:a+1<(Tr.its c).length:=zaB;have h3:=m (a+1) κ κ;rw[U] at h3;have v:(Tr.its c).drop (a+1)=(Tr.its c)[a+1]::(Tr.its c).drop (a+1+1):=cE u;rw[v] at e;injection e with e4 e5;rw[<-e4];exact h3
   have f:(Tr.cH (k+1) ((Tr.its c).take a)).foldl (eN lim lo hi) s=s:=AK (fun p hp=>by
    unfold hasB;rw[hs.1 p hp];rfl) s
   have g:(Tr.cH (k+1) (Tr.its c)).foldl (eN lim lo hi) s=(Tr.cH (k+1) ((Tr.its c).drop a)).foldl (eN lim lo hi) s:=by
    conv=>lhs;rw[<-b_ a (Tr.its c)]
    rw[Tr.bW,List.foldl_append,f]
   rw[Y,g];refine xJ (fun p hp s=> ?_) (fun A p B e hc=> ?_) s;·obtain⟨L,h',n⟩:=yl ho p (List.mem_of_mem_drop hp);exact AM k p.2 n s
   ·exact OA (A:=(Tr.its c).take a++A) (kc:=p.1) (c':=p.2) ho (by rw[aD];conv=>lhs;rw[<-b_ a (Tr.its c),e]) hc
  ·simp_all[fS,G6,tD]
end
section
variable {E:Ev} {X0 X X' w:World} {R0 R R':Φ} {ps:Γ} {pg:Ξ} {rt:Δ} {l:List (Tr.Tx×Tr.Tx)} {pages:Δ} {lim:Int} {lo hi:Tr.Tx}
structure ab3 (E:Ev) (X0:World) (R0:Φ) (ps:Γ) (pg:Ξ) (rt:Δ) (l:Tr.eO) (v:Value) (w':World):Prop where
 row:qE 0 w' v l
 kept:∃R M,TS E X0 R0 R ps pg rt M w'/\∀b,v.ownBlock=av b->R b/\X0.heap.size<=b
theorem SI (h:TS E X0 R0 R ps pg rt (fun _=>aK) w) (p:jx pg (rt.getD E.place 0) l pages) (q:E.place<16):
  Calls prog 64 #[ptr E.tb,cu (bs lo),cu (bs hi),bf ct lim] w fun e w'=>∃v,e=c8 (ec #[v,bf ct 0])/\ab3 E X0 R0 ps pg rt (l.foldl (eN lim lo hi) []) v w':=by
 refine Ox fun W g=> ?_;obtain⟨W1,k⟩:=ξx (w.alloc (dg #[bf ct lim] 3));rw[<-k] at g;have r:Below w.heap.size w W1:=by rw[k];exact (Below.refl _ w).alloc (af _) _
 have f:W1.heap.size=w.heap.size+1:=by rw[k,aY]
 have L:aW W1 w.heap.size 3 [bf ct lim]:=by rw[k];exact aW.new w _ _
 obtain⟨W2,V⟩:=ξx (W1.alloc (dg #[cx aK 0 0] 136));rw[<-V] at g;have A:Below W1.heap.size W1 W2:=by rw[V];exact (Below.refl _ W1).alloc (af _) _
 have s:W2.heap.size=w.heap.size+2:=by rw[V,aY,f]
 have u:aW W2 (w.heap.size+1) 136 [cx aK 0 0]:=by rw[V,<-f];exact aW.new W1 _ _
 have B:Below W2.heap.size W2 W:=by rw[g];exact (Below.refl _ W2).alloc (af _) _
 have i:aW W (w.heap.size+2) 168 [cu (bs lo),cu (bs hi)]:=by rw[g,<-s];exact aW.new W2 _ _
 have d:Below w.heap.size w W:=(r.trans (A.mono κ)).trans (B.mono κ);have O:=(L.below A κ).below B κ;have t:=u.below B κ;have x:=h.but.size;have y:JS E X0 R0 ps pg rt (w.heap.size+1) w.heap.size (w.heap.size+2) lim lo hi [] (fun b=>R b\/b=w.heap.size+1) (fun _=>aK) W:=⟨h.still d (fun _ h=>cS h) (fun b d=>d.imp_right fun e=>by rw[e];exact⟨κ,t.lt⟩),⟨dc rfl,κ,fun ⟨_,_,e,_⟩=>zaH⟩,O.cell (j:=0) rfl,i,⟨κ,κ⟩,cx aK 0 0,t,Own.nil _ _ _ _,fun b d=>by cases d⟩;refine (SC (lo:=lo) (hi:=hi) SD y p q (aA _)).mono ?_;rintro e X ⟨rfl,hs⟩;have z:∃R' M',JS E X0 R0 ps pg rt (w.heap.size+1) w.heap.size (w.heap.size+2) lim lo hi (l.foldl (eN lim lo hi) []) R' M' X:=by
  rcases hs with⟨rfl,rfl,R',M',H,-⟩|⟨K,T,rfl,rfl,C,m,D,R',M',H,-⟩;·exact⟨R',M',H⟩
  ·rw[(AM K T m []).1] at H;exact⟨R',M',H⟩
 obtain⟨R',M',H⟩:=z;obtain⟨sv,n,o,Z⟩:=H.row;obtain⟨a,c,rfl,hc⟩:=Own.slice o;exact⟨rfl,a,_,c,n.cell (j:=0) rfl,o,R',M',H.ts,fun b d=>⟨(Z b d).1,(Z b d).2.1⟩⟩
end
section
variable {w X:World} {R:Φ} {ring g N lb xb rb tb place:Nat} {H:List Wl.Text} {ps:Γ} {pg:Ξ} {rt:Δ}
theorem AO (w:World) (rb:Nat) (place:Int):Calls prog 86 #[ptr rb,bf ct place] w fun e w'=>e=c8 (ptr w.heap.size)/\w'=w.alloc (dg #[ptr rb,bf ct place] 214):=by unfold ptr;go_enter func86,ntmps86;go_wp2_with fail;go_ret;exact⟨rfl,rfl⟩
theorem SJ (h:gM R ring g N lb xb rb H ps pg rt X) (a:aW X tb 214 [ptr rb,bf ct place]) (hr:R tb):TS ⟨ring,g,N,lb,xb,rb,tb,place,H⟩ X R R ps pg rt (fun _=>aK) X:=
 ⟨h,fun _ h=>h,fun _ h=>cS h,aE.refl _ _,a,hr,⟨fun _ _ e=>zaH,fun _ _ e=>zaH,fun _ _ _ _ e=>zaH,fun _ _ e=>zaH⟩,fun _ ⟨_,_,e,_⟩=>zaH,h.c.lt,h.rr⟩
end
theorem Ep {pg cy:Ξ} {pages pages' o:Δ} (h:Kh pg cy pages pages') (hn:(pages++o).Nodup) (f:∀x∈o,(pg.getD x aK).isSome=true) (hp:pages'.Nodup):(∀x∈o,cy.getD x aK=pg.getD x aK)/\(pages'++o).Nodup:=by
 have H:∀x∈o,x∉pages/\x∉pages':=fun x c=>by have d:x∉pages:=fun hp=>(aP.1 hn).2.2 x hp x c rfl;refine⟨d,fun g=> ?_⟩;have h3:=h.lZ x g d;have h4:=f x c;rw[h3] at h4;cases h4
 exact⟨fun x c=>h.same x (H x c).1 (H x c).2,aP.2 ⟨hp,(aP.1 hn).2.1,fun a ha b i e=>(H b i).2 (by rw[<-e];exact ha)⟩⟩
theorem Hg {pg:Ξ} {num:Nat} {l:List (Tr.Tx×Tr.Tx)} {pages:Δ} (h:jx pg num l pages):pages.Nodup:=by
 rcases h with⟨_,_,rfl⟩|⟨_,_,_,_,_,_,_,_,_,_,H⟩;·exact List.nodup_nil
 ·exact H
structure MS (ring g N lb xb rb:Nat) (H:List Wl.Text) (tb place:Nat) (o:Δ) (R:Φ) (ps:Γ) (pg:Ξ) (rt:Δ) (l:List (Tr.Tx×Tr.Tx)) (pages:Δ) (X:World):Prop where
 rm:gM R ring g N lb xb rb H ps pg rt X
 tr:aW X tb 214 [ptr rb,bf ct place]
 own:R tb
 O7:place<16
 ok:jx pg (rt.getD place 0) l pages
 nd:(pages++o).Nodup
 tk:∀x∈o,(pg.getD x aK).isSome=true
 us:Rm.used pg=pages.length+o.length
structure Mv (R R':Φ) (ps ps':Γ) (pg cy:Ξ) (rt rt':Δ) (place:Nat) (o:Δ) (X X':World):Prop where
 but:aE (fun k=>¬R k) X X'
 sub:∀k,R k->R' k
 new:∀k,R' k->R k\/X.heap.size<=k
 few:ps'.length<=ps.length+30000
 len:cy.length=pg.length
 same:∀x∈o,cy.getD x aK=pg.getD x aK
 tO:∃num,rt'=rt.set place num
section
variable {ring g N lb xb rb tb place:Nat} {H:List Wl.Text} {o pages pages':Δ} {R R':Φ} {ps ps':Γ} {pg cy:Ξ} {rt rt':Δ} {l l':List (Tr.Tx×Tr.Tx)} {X X':World} {key vl:List UInt8}
theorem MS.ts (h:MS ring g N lb xb rb H tb place o R ps pg rt l pages X):TS ⟨ring,g,N,lb,xb,rb,tb,place,H⟩ X R R ps pg rt (fun _=>aK) X:=SJ h.rm h.tr h.own
theorem MS.stored {tgt:List (Tr.Tx×Tr.Tx)} {c:Int} (h:MS ring g N lb xb rb H tb place o R ps pg rt l pages X) (s:mA ⟨ring,g,N,lb,xb,rb,tb,place,H⟩ X R ps pg rt tgt pages c X'):c=0/\∃R' ps' cy rt' pages',MS ring g N lb xb rb H tb place o R' ps' cy rt' tgt pages' X'/\Mv R R' ps ps' pg cy rt rt' place o X X':=by
 obtain⟨rfl,R',M',ps',cy,num,pages',a,hl,b,d⟩:=s;obtain⟨e,i⟩:=Ep d h.nd h.tk (Hg b);have E:place<rt.length:=by rw[h.rm.rep.tO];exact h.O7
 refine⟨rfl,R',ps',cy,rt.set place num,pages',⟨a.rm,a.tree,a.sub _ h.own,h.O7, ?_,i,fun x f=>by rw[e x f];exact h.tk x f, ?_⟩,⟨a.but.mono fun k _ hn j=>hn j,a.sub,a.new,hl,d.len,e,num,rfl⟩⟩;·grind
 ·have h3:=d.used;have h4:=h.us;omega
theorem MS.kept (h:MS ring g N lb xb rb H tb place o R ps pg rt l pages X) (s:xI ⟨ring,g,N,lb,xb,rb,tb,place,H⟩ X R ps pg rt X'):∃R',MS ring g N lb xb rb H tb place o R' ps pg rt l pages X'/\Mv R R' ps ps pg pg rt rt place o X X':=by
 obtain⟨R',M',a⟩:=s;have e:place<rt.length:=by rw[h.rm.rep.tO];exact h.O7
 exact⟨R',⟨a.rm,a.tree,a.sub _ h.own,h.O7,h.ok,h.nd,h.tk,h.us⟩,⟨a.but.mono fun k _ hn b=>hn b,a.sub,a.new,κ,rfl,fun _ _=>rfl,rt.getD place 0,(iJ rfl e).symm⟩⟩
theorem Y0 (h:MS ring g N lb xb rb H tb place o R ps pg rt l pages X) (a:key.length<=96) (b:vl.length<=56) (d:ps.length<=60000000):
  Calls prog 47 #[ptr tb,cu (bs key),cu (bs vl)] X fun e X'=>(e=c8 (bf ct 0)/\∃R' ps' cy rt' pages',MS ring g N lb xb rb H tb place o R' ps' cy rt' (Tr.put l key vl) pages' X'/\Mv R R' ps ps' pg cy rt rt' place o X X')\/
   (e=c8 (bf ct 4)/\pg.length<Rm.used pg+20/\∃R',MS ring g N lb xb rb H tb place o R' ps pg rt l pages X'/\Mv R R' ps ps pg pg rt rt place o X X'):=by
 refine (VB h.ts h.ok a b d h.O7).mono ?_
 rintro e X' ⟨c,rfl,s|⟨rfl,f,s⟩⟩
 ·obtain⟨rfl,hs⟩:=h.stored s;exact cS ⟨rfl,hs⟩
 ·exact dc ⟨rfl,f,h.kept s⟩
theorem Kq {l:List (Tr.Tx×Tr.Tx)} (h:Tr.got l key=aK):Tr.del l key=l:=by
 unfold Tr.del;refine List.filter_eq_self.2 fun p hp=> ?_;rw[bne_iff_ne];intro e;unfold Tr.got at h;have H:l.find? (fun p=>p.1==key)=none:=by simp_all;omega
 have:=List.find?_eq_none.1 H p hp;exact this (by rw[e];exact beq_self_eq_true key)
theorem Y3 (h:MS ring g N lb xb rb H tb place o R ps pg rt l pages X) (b:ps.length<=60000000):
  Calls prog 148 #[ptr tb,cu (bs key)] X fun e X'=>e=c8 (ec #[ey (Tr.got l key).isSome,bf ct 0])/\∃R' ps' cy rt' pages',MS ring g N lb xb rb H tb place o R' ps' cy rt' (Tr.del l key) pages' X'/\Mv R R' ps ps' pg cy rt rt' place o X X':=by
 refine (VF h.ts h.ok b h.O7).mono ?_;rintro e X' (⟨rfl,a,s⟩|⟨rfl,a,s⟩);·rw[a,Kq a];obtain⟨R',c,h3⟩:=h.kept s;exact⟨rfl,R',ps,pg,rt,pages,c,h3⟩
 ·rw[a];exact⟨rfl,(h.stored s).2⟩
theorem Y4 (h:MS ring g N lb xb rb H tb place o R ps pg rt l pages X):
  Calls prog 51 #[ptr tb,cu (bs key)] X fun e X'=>e=c8 (ec #[cu (bs ((Tr.got l key).getD [])),ey (Tr.got l key).isSome,bf ct 0])/\∃R',MS ring g N lb xb rb H tb place o R' ps pg rt l pages X'/\Mv R R' ps ps pg pg rt rt place o X X':=by
 refine (VD h.ts h.ok h.O7).mono ?_;rintro e X' ⟨rfl,s⟩;exact⟨rfl,h.kept s⟩
end
theorem SK:∀(k:Nat) (c:Tr.E (k+1)) {lo:Tr.Tx} {h:Option Tr.Tx},Tr.Ok (k+1) lo h c->0<(Tr.cH k (Tr.its c)).length
 |0,c,_,_,ho=>d_.2 ho.1
 |k+1,c,lo,h,ho=>by obtain⟨p,l,hp⟩:=vV ho.1;obtain⟨L,h',H⟩:=yl ho p (by rw[hp];exact au);have:=SK k p.2 H;rw[hp,AL,aq];omega
theorem OB {pg:Ξ} {num:Nat} {l:List (Tr.Tx×Tr.Tx)} {pages:Δ} (h:jx pg num l pages):pages.length<=2*l.length+16/\(pages.length=0↔l.length=0):=by
 rcases h with⟨_,rfl,rfl⟩|⟨K,T,page,_,hp,d,a,H,rfl,rfl,_⟩;·omega
 ·have b:=Tr.y6 (K+1) T;have c:Tr.fV (K+1) T=0:=oZ a;have h3:=SK K T H;have h4:0<(Tr.cF (K+1) T).length:=by rw[Tr.bE,hp,aq];show 0<([page]:Δ).length+_;rw[gi];omega
  refine⟨?_,⟨fun h=>κ,fun h=>κ⟩⟩
  match K,T,d,H,b,c,h3,h4 with
  |0,T,_,H,b,c,h3,h4=>
   have e:Tr.cnt 1 T=1:=Tr.y7 T;have f:Tr.cnt (0+1) T=Tr.cnt 1 T:=rfl;omega
  |k+1,T,d,H,b,c,h3,h4=>
   have e:=(Tr.oD k H.1 H.2.2).1;have f:Tr.cnt (k+1+1) T=Tr.cnt (k+2) T:=rfl;have g:1<=(Tr.its T).length:=d_.2 H.1;have i:3*2^k*1<=3*2^k*(Tr.its T).length:=Nat.mul_le_mul_left _ g;omega
section
variable {ring g N lb xb rb tb place:Nat} {H:List Wl.Text} {o pages pages':Δ} {R R' S:Φ} {ps ps':Γ} {pg cy:Ξ} {rt rt':Δ} {l l':List (Tr.Tx×Tr.Tx)} {X X':World} {key vl:List UInt8} {M:Nat->Option NV}
theorem MS.ab4 (h:MS ring g N lb xb rb H tb place o R ps pg rt l pages X) (a:TS ⟨ring,g,N,lb,xb,rb,tb,place,H⟩ X R R' ps pg rt M X'):MS ring g N lb xb rb H tb place o R' ps pg rt l pages X'/\Mv R R' ps ps pg pg rt rt place o X X':=by
 have e:place<rt.length:=by rw[h.rm.rep.tO];exact h.O7
 exact⟨⟨a.rm,a.tree,a.sub _ h.own,h.O7,h.ok,h.nd,h.tk,h.us⟩,⟨a.but.mono fun k _ hn b=>hn b,a.sub,a.new,κ,rfl,fun _ _=>rfl,rt.getD place 0,(iJ rfl e).symm⟩⟩
theorem VH (h:MS ring g N lb xb rb H tb place o R ps pg rt l pages X) (lo hi:List UInt8) (lim:Int):
  Calls prog 64 #[ptr tb,cu (bs lo),cu (bs hi),bf ct lim] X fun e X'=>∃v,e=c8 (ec #[v,bf ct 0])/\qE X.heap.size X' v (l.foldl (eN lim lo hi) [])/\∃R',MS ring g N lb xb rb H tb place o R' ps pg rt l pages X'/\Mv R R' ps ps pg pg rt rt place o X X'/\∀b,v.ownBlock=av b->R' b:=by
 refine (SI (lim:=lim) (lo:=lo) (hi:=hi) h.ts h.ok h.O7).mono ?_;rintro e X' ⟨v,rfl,hr⟩;obtain⟨R',M,a,c⟩:=hr.kept;obtain⟨f,i⟩:=h.ab4 a;have d:=hr.row;refine⟨v,rfl,⟨d.1,d.2.imp_right ?_⟩,R',f,i,fun b j=>(c b j).1⟩;rintro⟨g,cap,cur,E,m,k⟩;exact⟨g,cap,cur,E,(c g (by rw[E];rfl)).2,k⟩
end
theorem SL (n:Nat):Rm.used (aV n aK)=0:=by
 unfold Rm.used;rw[List.filter_eq_nil_iff.2];·rfl
 ·grind
def tE {α:Type} (f:Nat->α) (k:Nat) (a:α):Nat->α:=fun j=>if j=k then a else f j
theorem nI {α:Type} (f:Nat->α) (k:Nat) (a:α):tE f k a k=a:=if_pos rfl
theorem o8 {α:Type} (f:Nat->α) {k j:Nat} (a:α) (h:j≠k):tE f k a j=f j:=if_neg h
theorem LR {α:Type} (f:Nat->α) (k:Nat):tE f k (f k)=f:=by
 funext j;unfold tE;by_cases h:j=k;·rw[if_pos h,h]
 ·rw[if_neg h]
def kG (k:Nat):Nat:=if k=0 then 0 else 2*k+14
theorem AP {a b:Nat} (h:a<=b):kG a<=kG b:=by
 unfold kG
 split<;>split<;>omega
theorem LS {pg:Ξ} {num:Nat} {l:List (Tr.Tx×Tr.Tx)} {pages:Δ} (h:jx pg num l pages):pages.length<=kG l.length:=by
 have e:=OB h;unfold kG
 split
 ·omega
 rcases h with⟨_,rfl,rfl⟩|⟨K,T,page,_,_,d,a,H,rfl,rfl,_⟩;·exact aA _
 ·have b:=Tr.y6 (K+1) T;have c:Tr.fV (K+1) T=0:=oZ a;clear e
  match K,T,d,H,b,c with
  |0,T,_,H,b,c=>
   have f:Tr.cnt 1 T=1:=Tr.y7 T;have g:Tr.cnt (0+1) T=Tr.cnt 1 T:=rfl;omega
  |k+1,T,d,H,b,c=>
   have f:=(Tr.oD k H.1 H.2.2).1;have g:Tr.cnt (k+1+1) T=Tr.cnt (k+2) T:=rfl;have i:1<=(Tr.its T).length:=d_.2 H.1;have j:3*2^k*1<=3*2^k*(Tr.its T).length:=Nat.mul_le_mul_left _ i;omega
structure CM (ring g N lb xb rb:Nat) (H:List Wl.Text) (R:Φ) (ps:Γ) (pg:Ξ) (rt:Δ) (l:Nat->Tr.eO) (bl:List (Nat×Wl.Text)) (p:Nat->Δ) (X:World):Prop where
 rm:gM R ring g N lb xb rb H ps pg rt X
 ok:∀k,k<2->jx pg (rt.getD k 0) (l k) (p k)
 tx:∀c∈bl,Bl.iT pg 0xb0 [c.1] c.2
 nd:(p 0++(p 1++bl.map (·.1))).Nodup
 us:Rm.used pg=(p 0).length+(p 1).length+bl.length
section
variable {ring g N lb xb rb tb k:Nat} {H:List Wl.Text} {R R' S:Φ} {ps ps':Γ} {pg cy:Ξ} {rt rt' pages':Δ} {l:Nat->Tr.eO} {l':Tr.eO} {bl:List (Nat×Wl.Text)} {p:Nat->Δ} {X X':World}
theorem CM.fN (h:CM ring g N lb xb rb H R ps pg rt l bl p X) (b:aE S X X') (hS:∀k,k<X.heap.size->S k->R k) (hr:¬S rb) (E:∀k,R' k->R k\/(X.heap.size<=k/\k<X'.heap.size)) (a:R' rb):CM ring g N lb xb rb H R' ps pg rt l bl p X':=
 {h with rm:=h.rm.fN b hS hr E a}
theorem CM.still (h:CM ring g N lb xb rb H R ps pg rt l bl p X) (a:Below X.heap.size X X'):CM ring g N lb xb rb H R ps pg rt l bl p X':={h with rm:=h.rm.still a}
theorem CM.taken (h:CM ring g N lb xb rb H R ps pg rt l bl p X):∀x∈p 0++(p 1++bl.map (·.1)),(pg.getD x aK).isSome=true:=by
 intro x a;rcases ah.1 a with a|a;·exact ke (h.ok 0 ξ) x a
 ·rcases ah.1 a with a|a;·exact ke (h.ok 1 ξ) x a
  ·obtain⟨c,hc,rfl⟩:=bY.1 a;exact (h.tx c hc).taken _ au
theorem vu (h:k<2) (p:Nat->Δ) (b:Δ):(p k++(p (1-k)++b)).Perm (p 0++(p 1++b)):=by
 rcases (show k=0\/k=1 by omega) with rfl|rfl;·exact List.Perm.refl _
 ·exact List.perm_append_comm_assoc _ _ _
theorem CM.tree (h:CM ring g N lb xb rb H R ps pg rt l bl p X) (a:k<2):
  MS ring g N lb xb rb H X.heap.size k (p (1-k)++bl.map (·.1)) (fun i=>R i\/i=X.heap.size) ps pg rt (l k) (p k) (X.alloc (dg #[ptr rb,bf ct k] 214)):=by
 have b:=(Below.refl X.heap.size X).alloc (af _) (dg #[ptr rb,bf ct k] 214);have hs:(X.alloc (dg #[ptr rb,bf ct k] 214)).heap.size=X.heap.size+1:=aY _ _;refine⟨h.rm.fN (aE.aF b (fun _=>False)) (fun _ _ f=>f.elim) id (fun i hi=>hi.imp_right fun e=> ?_) (cS h.rm.rr),aW.new X #[ptr rb,bf ct k] 214,dc rfl,κ,h.ok k a,(vu a p _).nodup_iff.2 h.nd,fun x c=>h.taken x ((vu a p _).mem_iff.1 (fH _ c)), ?_⟩;·rw[e,hs];omega
 ·rw[h.us,aq,aL];rcases (show k=0\/k=1 by omega) with rfl|rfl;·show _=(p 0).length+((p 1).length+_);omega
  ·show _=(p 1).length+((p 0).length+_);omega
theorem CM.behind (h:CM ring g N lb xb rb H R ps pg rt l bl p X) (d:k<2) {X0:World} {R0:Φ} (a:MS ring g N lb xb rb H tb k (p (1-k)++bl.map (·.1)) R' ps' cy rt' l' pages' X') (m:Mv R0 R' ps ps' pg cy rt rt' k (p (1-k)++bl.map (·.1)) X0 X'):CM ring g N lb xb rb H R' ps' cy rt' (tE l k l') bl (tE p k pages') X':=by
 obtain⟨num,B⟩:=m.tO;have E:tE p k pages' (1-k)=p (1-k):=o8 _ _ κ;refine⟨a.rm,fun j f=> ?_,fun c hc=>(h.tx c hc).same fun x b=>m.same x ?_, ?_, ?_⟩
 ·by_cases e:j=k;·subst e;rw[nI,nI];exact a.ok
  ·obtain rfl:j=1-k:=by omega
   rw[o8 _ _ e,E,B,bC,lp (fun h=>e h.symm),<-bC];exact qD (h.ok _ f) fun x b=>m.same x (jF _ b)
 ·rw[bB.1 b];exact fH _ (bY.2 ⟨c,hc,rfl⟩)
 ·refine (vu d (tE p k pages') _).nodup_iff.1 ?_;rw[nI,E];exact a.nd
 ·have hu:=a.us;rw[aq,aL] at hu;rcases (show k=0\/k=1 by omega) with rfl|rfl;·rw[nI,o8 _ _ ξ];have:p (1-0)=p 1:=rfl;rw[this] at hu;omega
  ·rw[nI,o8 _ _ ξ];have:p (1-1)=p 0:=rfl;rw[this] at hu;omega
theorem CM.nY (h:CM ring g N lb xb rb H R ps pg rt l bl p X):Rm.used pg<=kG (l 0).length+kG (l 1).length+bl.length:=by have a:=LS (h.ok 0 ξ);have b:=LS (h.ok 1 ξ);have:=h.us;omega
theorem CM.Iv (h:CM ring g N lb xb rb H R ps pg rt l bl p X) {q:Δ} {s:Wl.Text} (hs:s.length<=506) (hp:Bl.Iu pg q s cy) (d:gM R' ring g N lb xb rb H ps' cy rt X'):∃a,q=[a]/\(∀c∈bl,c.1≠a)/\CM ring g N lb xb rb H R' ps' cy rt l ((a,s)::bl) p X':=by
 have hl:=hp.chain.length;rw[Bl.lB hs] at hl;obtain⟨a,rfl⟩:=List.length_eq_one_iff.1 hl;have hn:∀x∈p 0++(p 1++bl.map (·.1)),x≠a:=fun x b e=>by have j:=h.taken x b;rw[e,hp.was a au] at j;cases j
 have f:∀c∈bl,c.1≠a:=fun c hc=>hn _ (fH _ (fH _ (bY.2 ⟨c,hc,rfl⟩)));have B:∀x∈p 0++(p 1++bl.map (·.1)),cy.getD x aK=pg.getD x none:=fun x b=>hp.other x fun i=>hn x b (bB.1 i);refine⟨a,rfl,f,d,fun k m=>qD (h.ok k m) fun x b=>B x ((vu m p _).mem_iff.1 (jF _ b)),fun c hc=> ?_, ?_, ?_⟩
 ·rcases aM.1 hc with rfl|hc;·exact hp.chain
  ·exact (h.tx c hc).same fun x b=>by rw[bB.1 b];exact B _ (fH _ (fH _ (bY.2 ⟨c,hc,rfl⟩)))
 ·have A:(a::(p 0++(p 1++bl.map (·.1)))).Perm (p 0++(p 1++((a,s)::bl).map (·.1))):=by rw[bI,<-aD,<-aD];exact List.perm_middle.symm
  exact A.nodup_iff.1 (cA.2 ⟨fun i=>hn a i rfl,h.nd⟩)
 ·rw[hp.used,h.us,Bl.lB hs,a_];omega
end
structure KO (w:World) (fv:Value) (sb rb n:Nat) (B:Nat) (K:Φ) (Q:Ψ) (R:Φ) (ps:Γ) (pg:Ξ) (X:World):Prop where
 few:ps.length<=B
 len:pg.length=n-2
 held:∀k,k<w.heap.size\/K k->R k
 below:Below w.heap.size w X
 q:∀X',aE (fun k=>¬K k) X X'->Q X'
 kb:K sb
 st:aW X sb 60 [ptr rb,fv]
structure KH (w:World) (fv:Value) (sb rb n:Nat) (l:Nat->Tr.eO) (last:Nat) (bl:List (Nat×Wl.Text)) (B:Nat) (K:Φ) (Q:Ψ) (X:World):Prop where
 ms:∃(g b xb:Nat) (R:Φ) (ps:Γ) (pg:Ξ) (rt:Δ) (p:Nat->Δ),CM 200 g 1 b xb rb (Wl.dJ n) R ps pg rt l bl p X/\rt.getD 2 0=last/\KO w fv sb rb n B K Q R ps pg X
structure KT (w:World) (fv:Value) (sb rb tb k n:Nat) (l:Nat->Tr.eO) (last:Nat) (bl:List (Nat×Wl.Text)) (B:Nat) (K:Φ) (Q:Ψ) (X:World):Prop where
 ms:∃(g b xb:Nat) (R:Φ) (ps:Γ) (pg:Ξ) (rt:Δ) (p:Nat->Δ),CM 200 g 1 b xb rb (Wl.dJ n) R ps pg rt l bl p X/\rt.getD 2 0=last/\KO w fv sb rb n B K Q R ps pg X/\
  MS 200 g 1 b xb rb (Wl.dJ n) tb k (p (1-k)++bl.map (·.1)) R ps pg rt (l k) (p k) X
 lt:k<2
section
variable {w X X':World} {fv:Value} {sb rb tb k n B B' last:Nat} {l l':Nat->Tr.eO} {bl OV:List (Nat×Wl.Text)} {K K':Φ} {Q Q':Ψ} {R R' S:Φ} {ps ps':Γ} {pg cy:Ξ} {key vl:List UInt8}
theorem KO.on (h:KO w fv sb rb n B K Q R ps pg X) (a:aE (fun k=>¬R k) X X') (hs:∀k,R k->R' k) (hl:ps'.length<=B') (hp:cy.length=pg.length):KO w fv sb rb n B' K Q R' ps' cy X':=
 ⟨hl,hp.trans h.len,fun k H=>hs k (h.held k H),h.below.trans (a.below h.below.size fun k H hn=>hn (h.held k (cS H))),fun X2 A=>h.q X2 ((a.mono fun i _ hn H=>hn (h.held i (dc H))).trans A fun _ _ hn=>hn),h.kb,h.st.but a fun hn=>hn (h.held _ (dc h.kb))⟩
theorem KH.q (h:KH w fv sb rb n l last bl B K Q X):Q X:=by obtain⟨g,b,xb,R,ps,pg,rt,p,H,a,h3⟩:=h.ms;exact h3.q X (aE.refl _ _)
theorem KH.below (h:KH w fv sb rb n l last bl B K Q X):Below w.heap.size w X:=by obtain⟨g,b,xb,R,ps,pg,rt,p,H,a,h3⟩:=h.ms;exact h3.below
theorem KH.store (h:KH w fv sb rb n l last bl B K Q X):aW X sb 60 [ptr rb,fv]:=by obtain⟨g,b,xb,R,ps,pg,rt,p,H,a,h3⟩:=h.ms;exact h3.st
theorem KH.more (h:KH w fv sb rb n l last bl B K Q X) (H:B<=B'):KH w fv sb rb n l last bl B' K Q X:=by obtain⟨g,b,xb,R,ps,pg,rt,p,a,c,h3⟩:=h.ms;exact⟨g,b,xb,R,ps,pg,rt,p,a,c,{h3 with few:=aN h3.few H}⟩
theorem KH.imp (h:KH w fv sb rb n l last bl B K Q X) (H:∀X',Q X'->Q' X'):KH w fv sb rb n l last bl B K Q' X:=by obtain⟨g,b,xb,R,ps,pg,rt,p,a,c,h3⟩:=h.ms;exact⟨g,b,xb,R,ps,pg,rt,p,a,c,{h3 with q:=fun X' d=>H _ (h3.q X' d)}⟩
theorem KH.still (h:KH w fv sb rb n l last bl B K Q X) (H:Below X.heap.size X X'):KH w fv sb rb n l last bl B K Q X':=by obtain⟨g,b,xb,R,ps,pg,rt,p,a,c,h3⟩:=h.ms;exact⟨g,b,xb,R,ps,pg,rt,p,a.still H,c,h3.on (aE.aF H _) (fun _ h=>h) h3.few rfl⟩
theorem KH.Y5 (h:KH w fv sb rb n l last bl B K Q X):rb<X.heap.size/\(∀k,K k->k<X.heap.size)/\w.heap.size<=X.heap.size:=by obtain⟨g,b,xb,R,ps,pg,rt,p,H,d,h3⟩:=h.ms;exact⟨H.rm.blk.lt,fun k a=>H.rm.c.lt k (h3.held k (dc a)),h3.below.size⟩
theorem KH.hold (h:KH w fv sb rb n l last bl B K Q X) (a:Below X.heap.size X X') (d:∀k,K' k->K k\/(X.heap.size<=k/\k<X'.heap.size)) (hs:K' sb) (e:∀X2,Q X'->aE (fun k=>¬K' k) X' X2->Q' X2):KH w fv sb rb n l last bl B K' Q' X':=by
 obtain⟨g,b,xb,R,ps,pg,rt,p,c,i,h3⟩:=h.ms;refine⟨g,b,xb,fun k=>R k\/(X.heap.size<=k/\k<X'.heap.size),ps,pg,rt,p,c.fN (aE.aF a (fun _=>False)) (fun _ _ f=>f.elim) id (fun _ H=>H) (cS c.rm.rr),i,h3.few,h3.len,fun k H=> ?_,h3.below.trans (a.mono h3.below.size),fun X2 A=>e X2 (h3.q X' (aE.aF a _)) A,hs,h3.st.below a h3.st.lt⟩;rcases H with H|H;·exact cS (h3.held k (cS H))
 ·exact (d k H).imp_left fun H=>h3.held k (dc H)
theorem KH.fN (h:KH w fv sb rb n l last bl B K Q X) (a:aE S X X') (hS:∀k,S k->K k/\w.heap.size<=k/\k≠rb/\k≠sb) (d:∀X2,aE (fun k=>¬K k) X' X2->Q' X2):KH w fv sb rb n l last bl B K Q' X':=by obtain⟨g,b,xb,R,ps,pg,rt,p,c,e,h3⟩:=h.ms;exact⟨g,b,xb,R,ps,pg,rt,p,c.fN a (fun k _ H=>h3.held k (dc (hS k H).1)) (fun H=>(hS rb H).2.2.1 rfl) (fun _ H=>cS H) c.rm.rr,e,h3.few,h3.len,h3.held,h3.below.trans (a.below h3.below.size fun k H hn=>absurd (hS k hn).2.1 κ),d,h3.kb,h3.st.but a fun H=>(hS sb H).2.2.2 rfl⟩
def LU (K:Φ) (a b:Nat):Φ:=fun k=>K k\/(a<=k/\k<b)
def Ic (K:Φ) (Q P:Ψ):Ψ:=fun X=>(∀X',aE (fun k=>¬K k) X X'->Q X')/\P X
theorem KH.box {P:Ψ} (h:KH w fv sb rb n l last bl B K Q X) (a:Below X.heap.size X X') (d:∀X2,aE (fun k=>¬(X.heap.size<=k/\k<X'.heap.size)) X' X2->P X2):KH w fv sb rb n l last bl B (LU K X.heap.size X'.heap.size) (Ic K Q P) X':=by
 obtain⟨g,b,xb,R,ps,pg,rt,p,c,e,h3⟩:=h.ms;refine⟨g,b,xb,fun k=>R k\/(X.heap.size<=k/\k<X'.heap.size),ps,pg,rt,p,c.fN (aE.aF a (fun _=>False)) (fun _ _ f=>f.elim) id (fun _ H=>H) (cS c.rm.rr),e,h3.few,h3.len,fun k H=> ?_,h3.below.trans (a.mono h3.below.size),fun X2 A=>⟨fun X3 i=>h3.q X3 (((aE.aF a (fun k=>¬K k)).trans A fun _ _ hn H=>hn (cS H)).trans i fun _ _ hn=>hn),d X2 (A.mono fun _ _ hn H=>hn (dc H))⟩,cS h3.kb,h3.st.below a h3.st.lt⟩;rcases H with H|H|H;·exact cS (h3.held k (cS H))
 ·exact cS (h3.held k (dc H))
 ·exact dc H
theorem KH.unbox {P:Ψ} {a b:Nat} (hs:K sb) (h:KH w fv sb rb n l last bl B (LU K a b) (Ic K Q P) X):KH w fv sb rb n l last bl B K Q X:=by obtain⟨g,c,xb,R,ps,pg,rt,p,H,d,h3⟩:=h.ms;exact⟨g,c,xb,R,ps,pg,rt,p,H,d,h3.few,h3.len,fun k e=>h3.held k (e.imp_right cS),h3.below,(h3.q X (aE.refl _ _)).1,hs,h3.st⟩
theorem KH.kb (h:KH w fv sb rb n l last bl B K Q X):K sb:=by obtain⟨g,b,xb,R,ps,pg,rt,p,H,a,h3⟩:=h.ms;exact h3.kb
theorem KH.put {P P':Ψ} {a b m:Nat} (h:KH w fv sb rb n l last bl B (LU K a b) (Ic K Q P) X) (c:aE (fun k=>k=m) X X') (d:a<=m/\m<b) (ha:rb<a/\(∀k,K k->k<a)/\w.heap.size<=a) (hs:K sb) (e:∀X2,aE (fun k=>¬(a<=k/\k<b)) X' X2->P' X2):KH w fv sb rb n l last bl B (LU K a b) (Ic K Q P') X':=by obtain⟨g,o,xb,R,ps,pg,rt,p,r,s,h3⟩:=h.ms;have f:=ha.2.1 sb hs;refine h.fN c (fun k H=>⟨dc (by rw[H];exact d),κ,κ,κ⟩) fun X2 A=>⟨fun X3 i=> ?_,e X2 (A.mono fun _ _ hn H=>hn (dc H))⟩;refine (h3.q X (aE.refl _ _)).1 X3 (((c.mono fun k _ H j=> ?_).trans A fun _ _ hn H=>hn (cS H)).trans i fun _ _ hn=>hn);have:=ha.2.1 k j;omega
theorem KH.boxed (h:KH w fv sb rb n l last bl B K Q X) (cs:Array Value) (t:TypeId):∃(a:Φ) (q:Ψ),KH w fv sb rb n l last bl B a q (X.alloc (dg cs t))/\
  (∀l' last' OV B' Y y,KH w fv sb rb n l' last' OV B' a q Y->aE (fun k=>k=X.heap.size) Y y->KH w fv sb rb n l' last' OV B' K Q y)/\∀Y,q Y->aW Y X.heap.size t cs.toList:=by
 have hs:(X.alloc (dg cs t)).heap.size=X.heap.size+1:=aY _ _;have hl:=h.Y5;refine⟨_,_,h.box (P:=fun Y=>aW Y X.heap.size t cs.toList) ((Below.refl _ X).alloc (af _) (dg cs t)) fun X2 A=>(aW.new X cs t).but A fun hn=>hn ⟨af _,κ⟩,fun l' last' OV B' Y y H b=> ?_,fun Y H=>H.2⟩;exact (H.put (P':=fun _=>True) b ⟨af _,κ⟩ hl h.kb fun _ _=>trivial).unbox h.kb
theorem KH.tree (h:KH w fv sb rb n l last bl B K Q X) (H:k<2):KT w fv sb rb X.heap.size k n l last bl B K Q (X.alloc (dg #[ptr rb,bf ct k] 214)):=by obtain⟨g,b,xb,R,ps,pg,rt,p,a,d,h3⟩:=h.ms;have e:=(Below.refl X.heap.size X).alloc (af _) (dg #[ptr rb,bf ct k] 214);have c:=a.tree H;exact⟨⟨g,b,xb,_,ps,pg,rt,p,{a with rm:=c.rm},d,h3.on (aE.aF e _) (fun _ H=>cS H) h3.few rfl,c⟩,H⟩
theorem KT.still (h:KT w fv sb rb tb k n l last bl B K Q X) (H:Below X.heap.size X X'):KT w fv sb rb tb k n l last bl B K Q X':=by obtain⟨g,b,xb,R,ps,pg,rt,p,a,c,h3,h4⟩:=h.ms;exact⟨⟨g,b,xb,R,ps,pg,rt,p,a.still H,c,h3.on (aE.aF H _) (fun _ h=>h) h3.few rfl,{h4 with rm:=h4.rm.still H,tr:=h4.tr.below H h4.tr.lt}⟩,h.lt⟩
theorem rF {g b xb:Nat} {rt rt' pages':Δ} {p:Nat->Δ} {L:Tr.eO} (h:k<2) (H:CM 200 g 1 b xb rb (Wl.dJ n) R ps pg rt l bl p X) (a:rt.getD 2 0=last) (h3:KO w fv sb rb n B K Q R ps pg X)
  (c:MS 200 g 1 b xb rb (Wl.dJ n) tb k (p (1-k)++bl.map (·.1)) R' ps' cy rt' L pages' X') (m:Mv R R' ps ps' pg cy rt rt' k (p (1-k)++bl.map (·.1)) X X') (d:ps'.length<=B'):KH w fv sb rb n (tE l k L) last bl B' K Q X':=by
 refine⟨g,b,xb,R',ps',cy,rt',_,H.behind h c m, ?_,h3.on m.but m.sub d m.len⟩;obtain⟨num,e⟩:=m.tO;rw[e,bC,lp κ,<-bC];exact a
theorem SM (h:KT w fv sb rb tb k n l last bl B K Q X):
  Calls prog 51 #[ptr tb,cu (bs key)] X fun e X'=>e=c8 (ec #[cu (bs ((Tr.got (l k) key).getD [])),ey (Tr.got (l k) key).isSome,bf ct 0])/\KH w fv sb rb n l last bl B K Q X':=by
 obtain⟨g,b,xb,R,ps,pg,rt,p,H,a,h3,h4⟩:=h.ms;refine (Y4 h4).mono ?_;rintro e X' ⟨rfl,R',c,d⟩;have:=rF h.lt H a h3 c d h3.few;rw[LR] at this;exact⟨rfl,this⟩
theorem LV (h:KT w fv sb rb tb k n l last bl B K Q X) (lo hi:List UInt8) (lim:Int):
  Calls prog 64 #[ptr tb,cu (bs lo),cu (bs hi),bf ct lim] X fun e X'=>∃v,e=c8 (ec #[v,bf ct 0])/\qE X.heap.size X' v ((l k).foldl (eN lim lo hi) [])/\KH w fv sb rb n l last bl B K Q X':=by
 obtain⟨g,b,xb,R,ps,pg,rt,p,H,a,h3,h4⟩:=h.ms;refine (VH h4 lo hi lim).mono ?_;rintro e X' ⟨v,rfl,c,R',d,f,_⟩;have:=rF h.lt H a h3 d f h3.few;rw[LR] at this;exact⟨v,rfl,c,this⟩
theorem wV (h:KT w fv sb rb tb k n l last bl B K Q X) (d:key.length<=96) (f:vl.length<=56) (j:B<=60000000) (hn:kG (l 0).length+kG (l 1).length+bl.length+22<=n):
  Calls prog 47 #[ptr tb,cu (bs key),cu (bs vl)] X fun e X'=>e=c8 (bf ct 0)/\KH w fv sb rb n (tE l k (Tr.put (l k) key vl)) last bl (B+30000) K Q X':=by
 obtain⟨g,b,xb,R,ps,pg,rt,p,H,i,h3,h4⟩:=h.ms;refine (Y0 h4 d f zaW).mono ?_;rintro e X' (⟨rfl,R',ps',cy,rt',pages',c,a⟩|⟨rfl,k0,R',c,a⟩);·exact⟨rfl,rF h.lt H i h3 c a (by have:=a.few;have:=h3.few;omega)⟩
 ·have:=H.nY;have:=h3.len;omega
theorem Y6 (h:KT w fv sb rb tb k n l last bl B K Q X) (f:B<=60000000):
  Calls prog 148 #[ptr tb,cu (bs key)] X fun e X'=>e=c8 (ec #[ey (Tr.got (l k) key).isSome,bf ct 0])/\KH w fv sb rb n (tE l k (Tr.del (l k) key)) last bl (B+30000) K Q X':=by
 obtain⟨g,b,xb,R,ps,pg,rt,p,H,c,h3,h4⟩:=h.ms;refine (Y3 h4 zaW).mono ?_;rintro e X' ⟨rfl,R',ps',cy,rt',pages',d,a⟩;exact⟨rfl,rF h.lt H c h3 d a (by have:=a.few;have:=h3.few;omega)⟩
theorem LW (h:KH w fv sb rb n l last bl B K Q X) {k:Nat} (H:k<16):
  Calls prog 40 #[ptr rb,bf ct k] X fun e X'=>∃m:Nat,e=c8 (ec #[bf eZ m,bf ct 0])/\(k=2->m=last)/\Below X.heap.size X X':=by
 obtain⟨g,b,xb,R,ps,pg,rt,p,a,c,h3⟩:=h.ms;refine (rA a.rm k H).mono ?_;rintro e X' ⟨rfl,d⟩;exact⟨_,rfl,fun e=>by rw[e,c],d⟩
theorem AQ (h:KH w fv sb rb n l last bl B K Q X) {m:Nat} (c:m<18446744073709551616) (i:B<=60000000):
  Calls prog 55 #[ptr rb,bf ct 2,bf eZ m] X fun e X'=>e=c8 (bf ct 0)/\KH w fv sb rb n l m bl (B+30000) K Q X':=by
 obtain⟨g,b,xb,R,ps,pg,rt,p,H,j,h3⟩:=h.ms;refine (uS H.rm 2 m ξ c zaW).mono ?_;rintro e X' ⟨rfl,ps',⟨hl,_⟩,h4,d⟩;have a:2<rt.length:=by rw[H.rm.rep.tO];decide
 refine⟨rfl,g,b,xb,R,ps',pg,_,p,{H with rm:=h4,ok:=fun k f=> ?_}, ?_,h3.on d (fun _ h=>h) zaW rfl⟩;·rw[bC,lp κ,<-bC];exact H.ok k f
 ·rw[bC,List.getElem?_set_self a];rfl
theorem VI (h:KH w fv sb rb n l last bl B K Q X):
  Calls prog 81 #[ptr rb] X fun e X'=>∃m:Nat,e=c8 (bf ct m)/\X'=X:=by
 obtain⟨g,b,xb,R,ps,pg,rt,p,H,a,h3⟩:=h.ms;refine (Ck H.rm).mono ?_;rintro e X' ⟨rfl,rfl⟩;exact⟨_,rfl,rfl⟩
theorem VJ (h:KH w fv sb rb n l last bl B K Q X) {s:Wl.Text} (hs:s.length<=506) (o:B<=60000000) (hn:kG (l 0).length+kG (l 1).length+bl.length+22<=n):
  Calls prog 45 #[ptr rb,cu (bs s)] X fun e X'=>∃a:Nat,e=c8 (ec #[bf ct a,bf ct 0])/\(∀c∈bl,c.1≠a)/\a<n/\KH w fv sb rb n l last ((a,s)::bl) (B+30000) K Q X':=by
 obtain⟨g,b,xb,R,ps,pg,rt,p,H,i,h3⟩:=h.ms;have hu:=H.nY;have j:(bs s).size=s.length:=aG _;have d:Bl.need (bs s).size=1:=by rw[j];exact Bl.lB hs
 refine (Rp H.rm (bs s) ?_ zaW).mono ?_;·unfold Bl.refused;rw[if_neg κ,if_neg (by rw[d];have:=h3.len;omega)]
 rintro e X' ⟨q,cy,rfl,hp,ps',hl,h4,k⟩;rw[bJ] at hp;obtain⟨a,rfl,f,m⟩:=H.Iv hs hp h4;have ha:=Bl.fy (hp.chain.taken a au);refine⟨a,rfl,f, ?_,g,b,xb,R,ps',cy,rt,p,m,i,h3.on k (fun _ h=>h) zaW hp.len⟩;rw[hp.len,h3.len] at ha;omega
theorem VK (h:KH w fv sb rb n l last bl B K Q X) {a:Nat} {s:Wl.Text} (c:(a,s)∈bl) (hs:s.length<=506):
  Calls prog 79 #[ptr rb,bf ct a] X fun e X'=>e=c8 (ec #[cu (bs s),bf ct 0])/\Below X.heap.size X X':=by
 obtain⟨g,b,xb,R,ps,pg,rt,p,H,f,h3⟩:=h.ms;refine (Ru H.rm a [] (bs s) (by rw[bJ];exact H.tx _ c) zaS).mono ?_;rintro e X' ⟨rfl,d⟩;exact⟨rfl,d⟩
theorem KH.perm (h:KH w fv sb rb n l last bl B K Q X) (hp:bl.Perm OV):KH w fv sb rb n l last OV B K Q X:=by obtain⟨g,b,xb,R,ps,pg,rt,p,H,a,h3⟩:=h.ms;refine⟨g,b,xb,R,ps,pg,rt,p,{H with tx:=fun c hc=>H.tx c (hp.mem_iff.2 hc),nd:= ?_,us:=by rw[<-hp.length_eq];exact H.us},a,h3⟩;exact (List.Perm.append_left _ (List.Perm.append_left _ (hp.map _))).nodup_iff.1 H.nd
end
end
namespace Ch
open Tr (eO lt got)
def sB (F:Text->Text) (l:List C):Prop:=∀c∈l,∃k:UInt8,c.id=F c.text++[k]
def like (F:Text->Text) (l:List C) (p:Text):List C:=l.filter fun c=>decide (F c.text=p)
theorem qF {lim:Int} {lo hi:Text}:∀(l s:eO),(s.length+l.length:Int)<=lim->l.foldl (eN lim lo hi) s=s++l.filter fun p=>hasB lo hi p.1
 |[],s,_=>(bh s).symm
 |p::l,s,h=>by
  rw[a_] at h;rw[List.foldl_cons,c9];by_cases H:hasB lo hi p.1=true;·have e:eN lim lo hi s p=s++[p]:=(by unfold eN;rw[if_pos ⟨κ,H⟩]);rw[if_pos H,e,qF l (s++[p]) (by rw[aq,gi];omega),aD];rfl
  ·have e:eN lim lo hi s p=s:=(by unfold eN;rw[if_neg fun h=>H h.2]);rw[if_neg H,e,qF l s κ]
theorem VL (k:Text):hasB [] [] k=true:=by unfold hasB;rw[show lt k []=false by cases k<;>rfl];rfl
theorem rG {lim:Int}:∀(l s:eO),l.foldl (eN lim [] []) s=s++l.take (lim-s.length).toNat
 |[],s=>by rw[List.take_nil];exact (bh s).symm
 |p::l,s=>by
  rw[List.foldl_cons];by_cases h:(s.length:Int)<lim;·have e:eN lim [] [] s p=s++[p]:=(by unfold eN;rw[if_pos ⟨h,VL _⟩]);rw[e,rG l];obtain⟨m,H⟩:∃m,(lim-s.length).toNat=m+1:=⟨(lim-s.length).toNat-1,κ⟩;rw[H,List.take_succ_cons,aD,aq,gi,show (lim-((s.length+1:Nat):Int)).toNat=m by omega];rfl
  ·have e:eN lim [] [] s p=s:=(by unfold eN;rw[if_neg fun a=>h a.1]);rw[e,rG l,show (lim-(s.length:Int)).toNat=0 by omega];rw[List.take_zero,List.take_zero]
variable {F:Text->Text} {l:List C} {p:Text}
theorem OC (hF:∀t,(F t).length=32) (hn:sB F l) (hp:p.length=32) {lim:Int} (h:(l.length:Int)<=lim):(gT l).foldl (eN lim p (p++[255,0])) []=gT (like F l p):=by rw[qF _ _ (by rw[iO,gd];omega),cM];unfold like;refine sH _ _ fun c hc=> ?_;obtain⟨k,e⟩:=hn c hc;have H:=TY (a:=F c.text) (p:=p) k (by rw[hF,hp]);show hasB p (p++[255,0]) c.id=_;rw[<-H,e];unfold hasB;rw[show (p++[255,0]:Text).isEmpty=false by cases p<;>rfl];cases lt (F c.text++[k]) p<;>cases lt (F c.text++[k]) (p++[255,0])<;>rfl
theorem SN {lim:Int} (h:(l.length:Int)<=lim):(gT l).foldl (eN lim [] []) []=gT l:=by rw[rG,cM,bD (by rw[iO,gd];omega)]
theorem OD {lim:Int} (rs:List Rc):(cg rs).foldl (eN lim [] []) []=cg (rs.take lim.toNat):=by rw[rG,cM,gd];unfold cg;rw[List.map_take,show (lim-((0:Nat):Int)).toNat=lim.toNat by omega]
theorem VM (hn:sB F l) {c:C} (hc:c∈like F l p):c∈l/\∃k:UInt8,c.id=p++[k]:=by unfold like at hc;obtain⟨h,H⟩:=dU.1 hc;obtain⟨k,e⟩:=hn c h;exact⟨h,k,by rw[e,of_decide_eq_true H]⟩
theorem OE (hl:Up l) (hn:sB F l) {j:Nat} (A:j<=255) (r:∀i,i<j->∃c,(like F l p)[i]?=av c/\c.id=p++[az i]) (x:∀c,(like F l p)[j]?=av c->c.id≠p++[az j]):find l (p++[az j])=none:=by
 cases e:find l (p++[az j]) with
 |none=>rfl
 |some c=>
  exfalso;obtain⟨hc,h⟩:=nj e;obtain⟨k,y⟩:=hn c hc;have hF:F c.text=p/\k=az j:=by rw[y] at h;obtain⟨h3,h4⟩:=List.append_inj' h rfl;exact⟨h3,by injection h4⟩
  have z:c∈like F l p:=dU.2 ⟨hc,decide_eq_true hF.1⟩;obtain⟨i,hi,G⟩:=List.mem_iff_getElem.1 z;have N:Up (like F l p):=hl.sublist sG;rcases Nat.lt_trichotomy i j with b|rfl|f;·obtain⟨d,s,t⟩:=r i b;rw[aI hi,G] at s;cases s;rw[h] at t;have g:=(List.append_cancel_left t);injection g with g;have:=congrArg UInt8.toNat g;rw[bR,bR] at this;omega
  ·exact x c (by rw[aI hi,G]) h
  ·have H:j<(like F l p).length:=κ;have u:=gh.1 N j i H hi f;obtain⟨_,q,v⟩:=VM hn (bp H);rw[G,h,v,oF] at u;have w:q.toNat<j:=(by have:(decide (q<az j)||(q==az j&&lt [] []))=true:=u;rw[show lt [] []=false from rfl,Bool.and_false,Bool.or_false] at this;have:=of_decide_eq_true this;rw[UInt8.lt_iff_toNat_lt,bR] at this;omega);obtain⟨d,m,n⟩:=r q.toNat w;obtain⟨o,rfl⟩:=List.getElem?_eq_some_iff.1 m;have a:=gh.1 N q.toNat j o H w;rw[n,v,oF] at a;have:(decide (az q.toNat<q)||(az q.toNat==q&&lt [] []))=true:=a;rw[show lt [] []=false from rfl,Bool.and_false,Bool.or_false] at this;have:=of_decide_eq_true this;rw[UInt8.lt_iff_toNat_lt,bR] at this;have:=q.toNat_lt;omega
end Ch
section
open Go.RowKit Lib
def two (a b:Tr.eO):Nat->Tr.eO:=fun k=>if k=0 then a else if k=1 then b else []
theorem Hh (a b a':Tr.eO):tE (two a b) 0 a'=two a' b:=by
 funext k;unfold tE two
 split<;>rfl
theorem vw (a b B:Tr.eO):tE (two a b) 1 B=two a B:=by
 funext k;unfold tE two;by_cases h:k=0;·subst h;rfl
 ·rw[if_neg h,if_neg h];by_cases H:k=1;·rw[if_pos H,if_pos H]
  ·rw[if_neg H,if_neg H,if_neg H]
def qG (cs:List Ch.C):List (Nat×Wl.Text):=cs.map fun c=>(c.page,c.text)
abbrev KS (w:World) (fv:Value) (sb rb n:Nat) (cs:List Ch.C) (rs:List Ch.Rc) (last B:Nat) (K:Φ) (Q:Ψ) (X:World):Prop:=KH w fv sb rb n (two (Ch.gT cs) (Ch.cg rs)) last (qG cs) B K Q X
theorem mB {X:World} {sb rb:Nat} {fv:Value} (hs:aW X sb 60 [ptr rb,fv]):
  Calls prog 46 #[ptr sb] X fun e X'=>e=c8 (ptr X.heap.size)/\X'=X.alloc (dg #[ptr rb,bf ct 0] 214):=by
 have H:=aa (fun W=>AO W rb 0);have c0:=hs.cell (j:=0) rfl;clear hs;unfold ptr at H c0 |-;go_enter func46,ntmps46;go_wp2_with fail;refine (H.o _).mono ?_;rintro e w1 ⟨rfl,rfl⟩;go_wp2;go_ret;exact⟨rfl,rfl⟩
theorem qH {X:World} {sb rb:Nat} {fv:Value} (hs:aW X sb 60 [ptr rb,fv]):
  Calls prog 50 #[ptr sb] X fun e X'=>e=c8 (ptr X.heap.size)/\X'=X.alloc (dg #[ptr rb,bf ct 1] 214):=by
 have H:=aa (fun W=>AO W rb 1);have c0:=hs.cell (j:=0) rfl;clear hs;unfold ptr at H c0 |-;go_enter func50,ntmps50;go_wp2_with fail;refine (H.o _).mono ?_;rintro e w1 ⟨rfl,rfl⟩;go_wp2;go_ret;exact⟨rfl,rfl⟩
section
variable {w X:World} {fv:Value} {sb rb n B last:Nat} {l:Nat->Tr.eO} {bl:List (Nat×Wl.Text)} {K:Φ} {Q:Ψ} {cs:List Ch.C} {rs:List Ch.Rc}
theorem nJ (h:KH w fv sb rb n l last bl B K Q X):
  Calls prog 19 #[ptr sb] X fun e X'=>e=c8 (bf ct 0)/\Below X.heap.size X X':=by
 have c0:=h.store.cell (j:=0) rfl;have H:=aa (LW h (k:=0) ξ);clear h;unfold ptr at H c0 |-;go_enter func19,ntmps19;go_wp2_with fail;refine H.o.mono ?_;rintro e w1 ⟨m,rfl,_,a⟩;go_wp2;go_ret;exact⟨rfl,a⟩
theorem CO (h:KH w fv sb rb n l last bl B K Q X) {a:Nat} {s:Wl.Text} (H:(a,s)∈bl) (hs:s.length<=506):
  Calls prog 42 #[ptr sb,bf ct a] X fun e X'=>e=c8 (ec #[cu (bs s),bf ct 0])/\Below X.heap.size X X':=by
 have c0:=h.store.cell (j:=0) rfl;have b:=aa (VK h H hs);clear h H hs;unfold ptr at b c0 |-;generalize bs s=S at*;go_enter func42,ntmps42;go_wp2_with fail;refine b.o.mono ?_;rintro e w1 ⟨rfl,c⟩;go_wp2_with fail;refine (FU 0 _ ξ).mono ?_;rintro e W ⟨rfl,rfl⟩;go_wp2
 go_ret2
 exact⟨rfl,c⟩
theorem LX (h:KH w fv sb rb n l last bl B K Q X):
  Calls prog 44 #[ptr sb] X fun e X'=>∃m:Nat,e=c8 (bf ct m)/\X'=X:=by
 have c0:=h.store.cell (j:=0) rfl;have H:=aa (VI h);clear h;unfold ptr at H c0 |-;go_enter func44,ntmps44;go_wp2_with fail;refine H.o.mono ?_;rintro e w1 ⟨m,rfl,rfl⟩;go_wp2;go_ret;exact⟨m,rfl,rfl⟩
theorem LY (h:KS w fv sb rb n cs rs last B K Q X) {c:Ch.C} (hc:c∈cs) (b:Ch.One c):
  Calls prog 21 #[ptr sb,EA c] X fun e X'=>e=c8 (ec #[cu (bs c.text),bf ct 0])/\Below X.heap.size X X':=by
 have H:=(Below.refl _ X).alloc (af _) (dg #[cu (bs c.id),bf ct c.page,bf ct c.text.length,bf ct c.count] 73);have d:=aa H;have f:=aa (CO (h.still H) (bY.2 ⟨c,hc,rfl⟩) (by have:=b.high;omega));have W:=aa (aW.new X #[cu (bs c.id),bf ct c.page,bf ct c.text.length,bf ct c.count] 73);have i:((bs c.text).size:Int)=c.text.length:=by rw[aG]
 have a:X.heap.size<(X.alloc (dg #[cu (bs c.id),bf ct c.page,bf ct c.text.length,bf ct c.count] 73)).heap.size:=zbe
 have l:=aa a;clear h hc b H a;unfold EA;unfold ptr at f |-;generalize bs c.text=T at*;generalize c.text.length=t at*;generalize c.page=pg at*;generalize bs c.id=I at*;generalize c.count=m at*;go_enter func21,ntmps21;go_wp2_with fail;refine f.o.mono ?_;rintro e w1 ⟨rfl,g⟩;have x:=(W.o.below g W.o.lt).cell (j:=2) rfl;have k:(((T.size:Int)) !=(t:Int))=false:=by rw[i];exact bne_self_eq_false _
 go_wp2
 go_ret2
 exact⟨rfl,d.o.trans (g.mono d.o.size)⟩
end
structure KG (w:World) (fv:Value) (sb rb n:Nat) (l:Nat->Tr.eO) (last:Nat) (bl:List (Nat×Wl.Text)) (B:Nat) (K:Φ) (Q:Ψ) (a:Nat) (X:World):Prop where
 kh:KH w fv sb rb n l last bl B (LU K a X.heap.size) (Ic K Q fun _=>True) X
 low:rb<a/\(∀k,K k->k<a)/\w.heap.size<=a
 kb:K sb
 le:a<=X.heap.size
section
variable {w X X':World} {fv:Value} {sb rb tb k n B last a:Nat} {l:Nat->Tr.eO} {bl:List (Nat×Wl.Text)} {K:Φ} {Q:Ψ}
theorem KH.grow (h:KH w fv sb rb n l last bl B K Q X):KG w fv sb rb n l last bl B K Q X.heap.size X:=
 ⟨h.box (P:=fun _=>True) (Below.refl _ _) fun _ _=>trivial,h.Y5,h.kb,af _⟩
theorem KG.any (h:KG w fv sb rb n l last bl B K Q a X) (c:aE (fun k=>a<=k) X X'):KG w fv sb rb n l last bl B K Q a X':=by
 obtain⟨g,b,xb,R,ps,pg,rt,p,e,f,h3⟩:=h.kh.ms;obtain⟨o,L,r⟩:=h.low;have i:=L sb h.kb;refine⟨⟨g,b,xb,fun k=>R k\/(X.heap.size<=k/\k<X'.heap.size),ps,pg,rt,p,e.fN c (fun k H d=>h3.held k (dc (dc ⟨d,H⟩))) κ (fun _ H=>H) (cS e.rm.rr),f,h3.few,h3.len,fun k H=> ?_,h3.below.trans (c.below h3.below.size fun k H hn=>κ),fun X2 A=>⟨fun X3 j=> ?_,trivial⟩,cS h.kb,h3.st.but c κ⟩,h.low,h.kb,aN h.le c.size⟩
 ·rcases H with H|H|H;·exact cS (h3.held k (cS H))
  ·exact cS (h3.held k (dc (cS H)))
  ·by_cases hl:k<X.heap.size;·exact cS (h3.held k (dc (dc ⟨H.1,hl⟩)))
   ·exact dc ⟨κ,H.2⟩
 ·refine (h3.q X (aE.refl _ _)).1 X3 (((c.mono fun k _ H m=> ?_).trans A fun _ _ hn H=>hn (cS H)).trans j fun _ _ hn=>hn);have:=L k m;omega
theorem KG.still (h:KG w fv sb rb n l last bl B K Q a X) (H:Below X.heap.size X X'):KG w fv sb rb n l last bl B K Q a X':=h.any (aE.aF H _)
theorem KG.done (h:KG w fv sb rb n l last bl B K Q a X):KH w fv sb rb n l last bl B K Q X:=h.kh.unbox h.kb
theorem KG.look (h:KG w fv sb rb n l last bl B K Q a X) (d:k<2) (f:a<=tb) (e:aW X tb 214 [ptr rb,bf ct k]):KT w fv sb rb tb k n l last bl B (LU K a X.heap.size) (Ic K Q fun _=>True) X:=by obtain⟨g,b,xb,R,ps,pg,rt,p,c,i,h3⟩:=h.kh.ms;have H:=c.tree d;exact⟨⟨g,b,xb,R,ps,pg,rt,p,c,i,h3,{rm:=c.rm,tr:=e,own:=h3.held tb (dc (dc ⟨f,e.lt⟩)),O7:=H.O7,ok:=H.ok,nd:=H.nd,tk:=H.tk,us:=H.us}⟩,d⟩
end
section
variable {w X:World} {fv:Value} {sb rb n B last a:Nat} {l:Nat->Tr.eO} {bl:List (Nat×Wl.Text)} {K:Φ} {Q:Ψ} {cs:List Ch.C} {rs:List Ch.Rc}
theorem kP (h:KG w fv sb rb n l last bl B K Q a X) (pg:Nat) (fO:Int):bg gp (X.alloc (dg #[bf ct pg,bf ct fO] 81)) X.heap.size 0 [(pg,fO)]/\X.heap.size<(X.alloc (dg #[bf ct pg,bf ct fO] 81)).heap.size/\KG w fv sb rb n l last bl B K Q a (X.alloc (dg #[bf ct pg,bf ct fO] 81)):=
 ⟨bg.dZ (aW.new X #[bf ct pg,bf ct fO] 81) rfl,zbe,h.still ((Below.refl _ X).alloc (af _) _)⟩
theorem Kr (h:KG w fv sb rb n l last bl B K Q a X):Calls prog 50 #[dr (av ⟨sb,0,aK⟩)] X fun e X'=>∃tb,e=c8 (dr (av ⟨tb,0,aK⟩))/\a<=tb/\aW X' tb 214 [ptr rb,bf ct 1]/\KG w fv sb rb n l last bl B K Q a X'/\Below X.heap.size X X':=by refine (qH h.kh.store).mono ?_;rintro e X' ⟨rfl,rfl⟩;have H:=(Below.refl _ X).alloc (af _) (dg #[ptr rb,bf ct 1] 214);exact⟨_,rfl,h.le,aW.new X _ _,h.still H,H⟩
theorem zaj {G:Prop} (h:G:=by
 refine aR 9 f ?_
 refine wpAnyH_done η ?_ _
 try simp only[Act.put,aC,aB,ay]
 have c0:=v.o.store.cell (j:=0) rfl
 unfold ptr at c0
 go_wp2_with fail
 refine (Gz.o _ v.o).mono ?_
 rintro e wz ⟨rfl,hz⟩
 have HZ:=aa hz
 clear hz c0
 go_wp2
 go_ret
 exact⟨rfl,vA.o _ _ _ _ _ _ HZ.o (aE.refl _ _)⟩):G:=h
theorem SP (h:KS w fv sb rb n cs rs last B K Q X) (jR:Ch.dG rs last) (hl:last+1<4611686018427387904) {x:Nat×Int} (hx:Ch.oG x) (hB:B<=50000000) (hn:kG cs.length+kG rs.length+cs.length+23<=n):
  Calls prog 25 #[ptr sb,eU #[bf ct x.1,bf ct x.2]] X fun e X'=>e=c8 (bf ct 0)/\KS w fv sb rb n cs (Ch.enter rs last x).1 (Ch.enter rs last x).2 (B+60000) K Q X':=by
 have hl0:(two (Ch.gT cs) (Ch.cg rs) 0).length=cs.length:=Ch.iO;have lG:(two (Ch.gT cs) (Ch.cg rs) 1).length=rs.length:=Ch.j4;have pz:(qG cs).length=cs.length:=aL _;have HX:=aa hx;obtain⟨pg,fO⟩:=x;obtain⟨L,F,h0,hout,hq⟩:=h.boxed #[bf ct pg,bf ct fO] 81;have P:=aa h0;have vA:=aa hout;have J:=aa (show Ch.dG rs last/\True/\last+1<4611686018427387904/\B<=50000000/\kG (two (Ch.gT cs) (Ch.cg rs) 0).length+kG (two (Ch.gT cs) (Ch.cg rs) 1).length+(qG cs).length+22<=n from⟨jR,trivial,hl,hB,by rw[hl0,lG,pz];omega⟩);have T:=aa (show ∀Y,F Y->Y.cell? ⟨X.heap.size,0,aK⟩=av (bf ct pg)/\Y.cell? ⟨X.heap.size,1,aK⟩=av (bf ct fO) from fun Y hY=>⟨(hq Y hY).cell rfl,(hq Y hY).cell rfl⟩);have Jx:=aa (show ∀W,KS w fv sb rb n cs rs last B L F W->Calls prog 40 #[dr (av ⟨rb,0,aK⟩),bf ct 2] W fun e X'=>e=c8 (ec #[bf eZ last,bf ct 0])/\Below W.heap.size W X' from fun W O=>(LW O (k:=2) ξ).mono fun e X' ⟨m,he,hm,hb⟩=>⟨by rw[he,hm rfl],hb⟩);have Y7:=aa (fun W=>wD last W κ);have U:=aa (show ∀tb W,KT w fv sb rb tb 1 n (two (Ch.gT cs) (Ch.cg rs)) last (qG cs) B L F W->Calls prog 51 #[dr (av ⟨tb,0,aK⟩),cu (bs (Wl.enc 8 last))] W fun e X'=>e=c8 (ec #[cu (bs ((Tr.got (Ch.cg rs) (Wl.enc 8 last)).getD [])),ey (Tr.got (Ch.cg rs) (Wl.enc 8 last)).isSome,bf ct 0])/\KS w fv sb rb n cs rs last B L F X' from fun tb W ht=>SM (key:=Wl.enc 8 last) ht);have z:=aa (fun (a:Nat) (W:World) (O:KG w fv sb rb n (two (Ch.gT cs) (Ch.cg rs)) last (qG cs) B L F a W)=>Kr O);have hwr:IntKind.u64.wrap ((last:Int)+1)=(last:Int)+1:=zbs
 clear h h0 hout hq hl hx hB hn hl0 lG pz;unfold ptr;rcases Ch.oH rs with rfl|⟨A,r,rfl⟩
 ·rw[Ch.T3] at U;simp only[Option.getD_none,Option.isSome_none] at U;rw[show bs ([]:List UInt8)=⟨#[]⟩ from rfl] at U;clear jR;obtain⟨R,hRS⟩:∃R:List Ch.Rc,R=[]:=⟨_,rfl⟩;have hent:Ch.enter R last (pg,fO)=(R++[⟨last+1,[(pg,fO)]⟩],last+1):=by rw[hRS];rfl
  rw[<-hRS] at P J Jx U z |-;rw[hent];clear hRS hent;have M:=aa (show ∀(W:World) (g:Nat),bg gp W g 0 [(pg,fO)]->g<W.heap.size->Calls prog 54 #[cx (av ⟨g,0,aK⟩) 1 1] W fun e w'=>e=c8 (cu (bs (Ch.txt [(pg,fO)])))/\Below W.heap.size W w' from fun W g hl hg=>oT hl hg (fun y hy=>by rw[bB.1 hy];exact HX.o) 1 zbj);have Z:=aa (fun W=>wD (last+1) W (by have:=J.o.2.2.1;omega))
  have BD:=aa (show ∀(tb:Nat) (W:World) (K':Φ) (Q':Ψ),KT w fv sb rb tb 1 n (two (Ch.gT cs) (Ch.cg R)) last (qG cs) B K' Q' W->Calls prog 47 #[dr (av ⟨tb,0,aK⟩),cu (bs (Wl.enc 8 (last+1))),cu (bs (Ch.txt [(pg,fO)]))] W fun e X'=>e=c8 (bf ct 0)/\KS w fv sb rb n cs (R++[⟨last+1,[(pg,fO)]⟩]) last (B+30000) K' Q' X' from fun tb W K' Q' ht=>by
   have:=wV (key:=Wl.enc 8 (last+1)) (vl:=Ch.txt [(pg,fO)]) ht (by rw[Wl.bO];decide) (by rw[Ch.qV];show 3<=56;decide) zaX J.o.2.2.2.2;refine this.mono ?_;rintro e X' ⟨rfl,hk⟩;rw[vw,show two (Ch.gT cs) (Ch.cg R) 1=Ch.cg R from rfl,Ch.x_ J.o.1] at hk;exact⟨rfl,hk⟩)
  have Gz:=aa (show ∀W,KS w fv sb rb n cs (R++[⟨last+1,[(pg,fO)]⟩]) last (B+30000) L F W->Calls prog 55 #[dr (av ⟨rb,0,aK⟩),bf ct 2,bf eZ ((last:Int)+1)] W fun e X'=>e=c8 (bf ct 0)/\KS w fv sb rb n cs (R++[⟨last+1,[(pg,fO)]⟩]) (last+1) (B+60000) L F X' from fun W O=>by
   have:=AQ O (m:=last+1) (by have:=J.o.2.2.1;omega) zaX;exact this)
  go_enter func25,ntmps25;have c0:=P.o.store.cell (j:=0) rfl;unfold ptr at c0;go_wp2_with fail;generalize dH X _=X0 at*;generalize X.heap.size=eb at*;refine (Jx.o _ P.o).mono ?_;rintro e w1 ⟨rfl,u⟩;have H1:=aa (P.o.still u);clear u c0 P Jx;have AR:=aa (qH H1.o.store);unfold ptr at AR;go_wp2_with fail;refine AR.o.mono ?_;rintro e w2 ⟨rfl,jy⟩;have nO:=aa (show KT w fv sb rb w1.heap.size 1 n _ last _ B L F (w1.alloc (dg #[dr (av ⟨rb,0,aK⟩),bf ct 1] 214)) from H1.o.tree ξ);rw[<-jy] at nO;clear jy H1 AR;generalize w1.heap.size=tb0 at*;go_wp2_with fail;refine (Y7.o _).mono ?_;rintro e w3 ⟨rfl,b8⟩;have O8:=aa (nO.o.still b8);clear b8 nO;go_wp2_with fail;refine (U.o _ _ O8.o).mono ?_;rintro e C ⟨rfl,h4⟩;have W3:=aa h4.grow;clear h4 O8;have d:=aa (W3.o.still ((Below.refl _ C).drew));have Hi:=aa (z.o C.heap.size);have p:=aa (show ∀W,KG w fv sb rb n (two (Ch.gT cs) (Ch.cg R)) last (qG cs) B L F C.heap.size W->_ from fun W O=>T.o W O.done.q);clear W3 z;have z:=Hi;clear Hi U Y7;generalize C.heap.size=a at*;go_wp2_with fail;go_wp2_with (refine wp_region_held_drew (S:=(fun Y=>Y.cell? ⟨eb,0,aK⟩=av (bf ct pg)/\Y.cell? ⟨eb,1,aK⟩=av (bf ct fO))) η ?_ (fun f=> ?_);focus skip;rotate_left;refine Hid.o ?_);refine aa ?_;·exact p.o _ d.o
  refine aR 0 f ?_;refine aR 2 f ?_;refine aR 3 f ?_;refine aR 5 f ?_;try simp only[Act.put,aC,aB,ay]
  clear f;refine fL [1,6] (AllReadyH.cons rfl (fun K H=> ?_) (fM fun K H=> ?_))
  focus
   go_simp
   refine (z.o _ d.o).mono ?_
   rintro e w1 ⟨tb,rfl,V,u,I,s⟩
   have b:=aa (And.intro u V)
   try have E:=aa (And.intro (E.o.1.below s E.o.2) (bL E.o.2 s.size))
   try have i:=aa (Own.below i.o s (af _))
   have d:=aa I
   refine H.out _ _ (p.o _ I) (fun f=> ?_);clear H f V u I s
   refine fL [4,6] (AllReadyH.cons rfl (fun K H=> ?_) (fM fun K H=> ?_))
   focus
    go_simp
    refine (Z.o _).mono ?_
    rintro e w3 ⟨rfl,D⟩
    have b:=aa (And.intro (b.o.1.below D b.o.1.lt) b.o.2)
    try have E:=aa (And.intro (E.o.1.below D E.o.2) (bL E.o.2 D.size))
    try have i:=aa (Own.below i.o D (af _))
    have d:=aa (d.o.still D)
    refine H.out _ _ (p.o _ d.o) (fun f=> ?_);clear H f D
    refine fL [6] (fM fun K H=> ?_)
    go_simp
    have l:=kP d.o pg fO
    have E:=aa (And.intro l.1 l.2.1)
    try have b:=aa (And.intro (b.o.1.alloc (dg #[bf ct pg,bf ct fO] 81)) b.o.2)
    try have i:=aa (Own.alloc i.o (dg #[bf ct pg,bf ct fO] 81))
    have d:=aa l.2.2
    refine H.out _ _ (p.o _ l.2.2) (fun f=> ?_);clear H f l
    refine fL [7] (fM fun K H=> ?_)
    go_simp
    refine (M.o _ _ E.o.1 E.o.2).mono ?_
    rintro e w8 ⟨rfl,G⟩
    have b:=aa (And.intro (b.o.1.below G b.o.1.lt) b.o.2)
    have d:=aa (d.o.still G)
    refine H.out _ _ (p.o _ d.o) (fun f=> ?_);clear H f G E
    refine fL [8] (fM fun K H=> ?_)
    go_simp
    refine (BD.o _ _ _ _ (d.o.look ξ b.o.2 b.o.1)).mono ?_
    rintro e w9 ⟨rfl,t⟩
    have v:=aa (t.unbox d.o.kb)
    refine H.out _ _ (T.o _ v.o.q) (fun f=> ?_);clear H t
   rotate_left
   focus
    go_simp
    have l:=kP d.o pg fO
    have E:=aa (And.intro l.1 l.2.1)
    try have b:=aa (And.intro (b.o.1.alloc (dg #[bf ct pg,bf ct fO] 81)) b.o.2)
    try have i:=aa (Own.alloc i.o (dg #[bf ct pg,bf ct fO] 81))
    have d:=aa l.2.2
    refine H.out _ _ (p.o _ l.2.2) (fun f=> ?_);clear H f l
    refine fL [4] (fM fun K H=> ?_)
    go_simp
    refine (Z.o _).mono ?_
    rintro e w3 ⟨rfl,D⟩
    have b:=aa (And.intro (b.o.1.below D b.o.1.lt) b.o.2)
    try have E:=aa (And.intro (E.o.1.below D E.o.2) (bL E.o.2 D.size))
    try have i:=aa (Own.below i.o D (af _))
    have d:=aa (d.o.still D)
    refine H.out _ _ (p.o _ d.o) (fun f=> ?_);clear H f D
    refine fL [7] (fM fun K H=> ?_)
    go_simp
    refine (M.o _ _ E.o.1 E.o.2).mono ?_
    rintro e w8 ⟨rfl,G⟩
    have b:=aa (And.intro (b.o.1.below G b.o.1.lt) b.o.2)
    have d:=aa (d.o.still G)
    refine H.out _ _ (p.o _ d.o) (fun f=> ?_);clear H f G E
    refine fL [8] (fM fun K H=> ?_)
    go_simp
    refine (BD.o _ _ _ _ (d.o.look ξ b.o.2 b.o.1)).mono ?_
    rintro e w9 ⟨rfl,t⟩
    have v:=aa (t.unbox d.o.kb)
    refine H.out _ _ (T.o _ v.o.q) (fun f=> ?_);clear H t
  rotate_left 2
  focus
   go_simp
   have l:=kP d.o pg fO
   have E:=aa (And.intro l.1 l.2.1)
   try have b:=aa (And.intro (b.o.1.alloc (dg #[bf ct pg,bf ct fO] 81)) b.o.2)
   try have i:=aa (Own.alloc i.o (dg #[bf ct pg,bf ct fO] 81))
   have d:=aa l.2.2
   refine H.out _ _ (p.o _ l.2.2) (fun f=> ?_);clear H f l
   refine fL [1] (fM fun K H=> ?_)
   go_simp
   refine (z.o _ d.o).mono ?_
   rintro e w1 ⟨tb,rfl,V,u,I,s⟩
   have b:=aa (And.intro u V)
   try have E:=aa (And.intro (E.o.1.below s E.o.2) (bL E.o.2 s.size))
   try have i:=aa (Own.below i.o s (af _))
   have d:=aa I
   refine H.out _ _ (p.o _ I) (fun f=> ?_);clear H f V u I s
   refine fL [4] (fM fun K H=> ?_)
   go_simp
   refine (Z.o _).mono ?_
   rintro e w3 ⟨rfl,D⟩
   have b:=aa (And.intro (b.o.1.below D b.o.1.lt) b.o.2)
   try have E:=aa (And.intro (E.o.1.below D E.o.2) (bL E.o.2 D.size))
   try have i:=aa (Own.below i.o D (af _))
   have d:=aa (d.o.still D)
   refine H.out _ _ (p.o _ d.o) (fun f=> ?_);clear H f D
   refine fL [7] (fM fun K H=> ?_)
   go_simp
   refine (M.o _ _ E.o.1 E.o.2).mono ?_
   rintro e w8 ⟨rfl,G⟩
   have b:=aa (And.intro (b.o.1.below G b.o.1.lt) b.o.2)
   have d:=aa (d.o.still G)
   refine H.out _ _ (p.o _ d.o) (fun f=> ?_);clear H f G E
   refine fL [8] (fM fun K H=> ?_)
   go_simp
   refine (BD.o _ _ _ _ (d.o.look ξ b.o.2 b.o.1)).mono ?_
   rintro e w9 ⟨rfl,t⟩
   have v:=aa (t.unbox d.o.kb)
   refine H.out _ _ (T.o _ v.o.q) (fun f=> ?_);clear H t
  all_goals
   exact zaj
 ·obtain⟨hpa,hpb⟩:=Ch.parts (A:=A) (r:=r) (B:=[]) jR;have Qx:=jR.top r (sJ);have GL:=Ch.P5 (A:=A) (r:=r) (B:=[]) jR;rw[Qx] at GL;rw[GL] at U;simp only[Option.getD_some,Option.isSome_some] at U;have N:=jR.len r (fH _ au);have Ke:=jR.en r (fH _ au);have Ia:=aa (fun W=>sj r.en Ke κ N.1 W);have Ow:=aa (show 0<r.en.length from N.1);by_cases hf:r.en.length<18
  ·rw[Ch.oI last (pg,fO) hf];have pN:=aa (show r.en.length+1<=1000000000 by omega);have hfI:(r.en.length:Int)<18:=by omega
   have M:=aa (show ∀(a g c:Nat) (W:World),oS a W (cx (av ⟨g,0,aK⟩) (r.en.length+1) c) (r.en++[(pg,fO)])->Calls prog 54 #[cx (av ⟨g,0,aK⟩) (r.en.length+1) c] W fun e w'=>e=c8 (cu (bs (Ch.txt (r.en++[(pg,fO)]))))/\Below W.heap.size W w' from fun a g c W ho=>by
    have:=oT (Own.lies ho) (Own.block ho g rfl).2 (fun y hy=>by
     rcases ah.1 hy with hy|hy;·exact Ke y hy
     ·rw[bB.1 hy];exact HX.o) c (by rw[aq,gi];omega)
    rw[aq,gi] at this;exact this)
   have BD:=aa (show ∀(tb:Nat) (W:World) (K':Φ) (Q':Ψ),KT w fv sb rb tb 1 n (two (Ch.gT cs) (Ch.cg (A++[r]))) last (qG cs) B K' Q' W->Calls prog 47 #[dr (av ⟨tb,0,aK⟩),cu (bs (Wl.enc 8 last)),cu (bs (Ch.txt (r.en++[(pg,fO)])))] W fun e X'=>e=c8 (bf ct 0)/\KS w fv sb rb n cs (A++[⟨r.num,r.en++[(pg,fO)]⟩]) last (B+30000) K' Q' X' from fun tb W K' Q' ht=>by
    have:=wV (key:=Wl.enc 8 last) (vl:=Ch.txt (r.en++[(pg,fO)])) ht (by rw[Wl.bO];decide) (by rw[Ch.qV,aq,gi];omega) zaX J.o.2.2.2.2;refine this.mono ?_;rintro e X' ⟨rfl,hk⟩;have t:=Ch.P0 (A:=A) (r:=r) (B:=[]) jR (r.en++[(pg,fO)]);rw[Qx] at t;rw[vw,show two (Ch.gT cs) (Ch.cg (A++[r])) 1=Ch.cg (A++[r]) from rfl,t,<-Qx] at hk;refine⟨rfl, ?_⟩;rw[Qx] at hk |-;exact hk)
   have Cf:=aa (show r.en.length+1=(r.en++[(pg,fO)]).length by rw[aq];rfl);have Z:=Y7;clear jR GL Qx hpa hpb N Ke;generalize A++[⟨r.num,r.en++[(pg,fO)]⟩]=RN at*;generalize A++[r]=R at*;go_enter func25,ntmps25;have c0:=P.o.store.cell (j:=0) rfl;unfold ptr at c0;go_wp2_with fail;generalize dH X _=X0 at*;generalize X.heap.size=eb at*;refine (Jx.o _ P.o).mono ?_;rintro e w1 ⟨rfl,u⟩;have H1:=aa (P.o.still u);clear u c0 P Jx;have AR:=aa (qH H1.o.store);unfold ptr at AR;go_wp2_with fail;refine AR.o.mono ?_;rintro e w2 ⟨rfl,jy⟩;have nO:=aa (show KT w fv sb rb w1.heap.size 1 n _ last _ B L F (w1.alloc (dg #[dr (av ⟨rb,0,aK⟩),bf ct 1] 214)) from H1.o.tree ξ);rw[<-jy] at nO;clear jy H1 AR;generalize w1.heap.size=tb0 at*;go_wp2_with fail;refine (Y7.o _).mono ?_;rintro e w3 ⟨rfl,b8⟩;have O8:=aa (nO.o.still b8);clear b8 nO;go_wp2_with fail;refine (U.o _ _ O8.o).mono ?_;rintro e C ⟨rfl,h4⟩;have W3:=aa h4.grow;clear h4 O8;have HEE:=aa (Ia.o C);have Nf:((r.en.length:Int))<18:=hfI;go_wp2_with fail;refine HEE.o.mono ?_;rintro e w5 ⟨v5,rfl,pO,dW⟩;obtain⟨g0,c0,rfl,_,_,_⟩:=Own.form pO Ow.o;have i:=aa (show oS C.heap.size w5.drew _ r.en from pO);have d:=aa ((W3.o.still dW).still ((Below.refl _ w5).drew));have Hi:=aa (z.o C.heap.size);have ab5:=aa (M.o C.heap.size);have p:=aa (show ∀W,KG w fv sb rb n (two (Ch.gT cs) (Ch.cg R)) last (qG cs) B L F C.heap.size W->_ from fun W O=>T.o W O.done.q);clear W3 z M HEE Ia U Y7 pO dW;have z:=Hi;have M:=ab5;clear Hi ab5;generalize C.heap.size=a at*;go_wp2_with fail;go_wp2_with (refine wp_region_held_drew (S:=(fun Y=>Y.cell? ⟨eb,0,aK⟩=av (bf ct pg)/\Y.cell? ⟨eb,1,aK⟩=av (bf ct fO))) η ?_ (fun f=> ?_);focus skip;rotate_left;refine Hid.o ?_);refine aa ?_;·exact p.o _ d.o
   refine aR 0 f ?_;refine aR 2 f ?_;refine aR 4 f ?_;refine aR 5 f ?_;try simp only[Act.put,aC,aB,ay]
   clear f;refine fL [1,6] (AllReadyH.cons rfl (fun K H=> ?_) (fM fun K H=> ?_))
   focus
    go_simp
    refine (z.o _ d.o).mono ?_
    rintro e w1 ⟨tb,rfl,V,u,I,s⟩
    have b:=aa (And.intro u V)
    try have E:=aa (And.intro (E.o.1.below s E.o.2) (bL E.o.2 s.size))
    try have i:=aa (Own.below i.o s (af _))
    have d:=aa I
    refine H.out _ _ (p.o _ I) (fun f=> ?_);clear H f V u I s
    refine fL [3,6] (AllReadyH.cons rfl (fun K H=> ?_) (fM fun K H=> ?_))
    focus
     go_simp
     refine (Z.o _).mono ?_
     rintro e w3 ⟨rfl,D⟩
     have b:=aa (And.intro (b.o.1.below D b.o.1.lt) b.o.2)
     try have E:=aa (And.intro (E.o.1.below D E.o.2) (bL E.o.2 D.size))
     try have i:=aa (Own.below i.o D (af _))
     have d:=aa (d.o.still D)
     refine H.out _ _ (p.o _ d.o) (fun f=> ?_);clear H f D
     refine fL [6] (fM fun K H=> ?_)
     go_simp
     have l:=kP d.o pg fO
     have E:=aa (And.intro l.1 l.2.1)
     try have b:=aa (And.intro (b.o.1.alloc (dg #[bf ct pg,bf ct fO] 81)) b.o.2)
     try have i:=aa (Own.alloc i.o (dg #[bf ct pg,bf ct fO] 81))
     have d:=aa l.2.2
     refine H.out _ _ (p.o _ l.2.2) (fun f=> ?_);clear H f l
     refine fL [7] (fM fun K H=> ?_)
     rw[if_pos (by rfl)]
     refine yC (K:=gp) Ni _ _ rfl rfl i.o d.o.le _ 0 1 1 [(pg,fO)] rfl rfl E.o.1 pN.o ?_
     intro v5 w5 qI gX
     have d:=aa (d.o.any ((aE.dK gX).mono fun k _ e=>(Own.block i.o k e).1))
     try have b:=aa (And.intro (b.o.1.but (aE.dK gX) fun e=>Own.dh i.o b.o.1 ξ e) b.o.2)
     obtain⟨g5,c5,uM,_,hs5,_⟩:=Own.form qI (by rw[aq];exact Nat.le_add_left _ _)
     rw[<-Cf.o] at uM
     subst uM
     have i:=aa qI
     clear qI gX hs5 E
     refine H.out _ _ (p.o _ d.o) (fun f=> ?_);clear H f
     refine fL [8] (fM fun K H=> ?_)
     go_simp
     refine (M.o _ _ _ i.o).mono ?_
     rintro e w8 ⟨rfl,G⟩
     have b:=aa (And.intro (b.o.1.below G b.o.1.lt) b.o.2)
     have d:=aa (d.o.still G)
     refine H.out _ _ (p.o _ d.o) (fun f=> ?_);clear H f G i
     refine fL [9] (fM fun K H=> ?_)
     go_simp
     refine (BD.o _ _ _ _ (d.o.look ξ b.o.2 b.o.1)).mono ?_
     rintro e w9 ⟨rfl,t⟩
     have v:=aa (t.unbox d.o.kb)
     refine H.out _ _ (T.o _ v.o.q) (fun f=> ?_);clear H t
    rotate_left
    focus
     go_simp
     have l:=kP d.o pg fO
     have E:=aa (And.intro l.1 l.2.1)
     try have b:=aa (And.intro (b.o.1.alloc (dg #[bf ct pg,bf ct fO] 81)) b.o.2)
     try have i:=aa (Own.alloc i.o (dg #[bf ct pg,bf ct fO] 81))
     have d:=aa l.2.2
     refine H.out _ _ (p.o _ l.2.2) (fun f=> ?_);clear H f l
     refine fL [3] (fM fun K H=> ?_)
     go_simp
     refine (Z.o _).mono ?_
     rintro e w3 ⟨rfl,D⟩
     have b:=aa (And.intro (b.o.1.below D b.o.1.lt) b.o.2)
     try have E:=aa (And.intro (E.o.1.below D E.o.2) (bL E.o.2 D.size))
     try have i:=aa (Own.below i.o D (af _))
     have d:=aa (d.o.still D)
     refine H.out _ _ (p.o _ d.o) (fun f=> ?_);clear H f D
     refine fL [7] (fM fun K H=> ?_)
     rw[if_pos (by rfl)]
     refine yC (K:=gp) Ni _ _ rfl rfl i.o d.o.le _ 0 1 1 [(pg,fO)] rfl rfl E.o.1 pN.o ?_
     intro v5 w5 qI gX
     have d:=aa (d.o.any ((aE.dK gX).mono fun k _ e=>(Own.block i.o k e).1))
     try have b:=aa (And.intro (b.o.1.but (aE.dK gX) fun e=>Own.dh i.o b.o.1 ξ e) b.o.2)
     obtain⟨g5,c5,uM,_,hs5,_⟩:=Own.form qI (by rw[aq];exact Nat.le_add_left _ _)
     rw[<-Cf.o] at uM
     subst uM
     have i:=aa qI
     clear qI gX hs5 E
     refine H.out _ _ (p.o _ d.o) (fun f=> ?_);clear H f
     refine fL [8] (fM fun K H=> ?_)
     go_simp
     refine (M.o _ _ _ i.o).mono ?_
     rintro e w8 ⟨rfl,G⟩
     have b:=aa (And.intro (b.o.1.below G b.o.1.lt) b.o.2)
     have d:=aa (d.o.still G)
     refine H.out _ _ (p.o _ d.o) (fun f=> ?_);clear H f G i
     refine fL [9] (fM fun K H=> ?_)
     go_simp
     refine (BD.o _ _ _ _ (d.o.look ξ b.o.2 b.o.1)).mono ?_
     rintro e w9 ⟨rfl,t⟩
     have v:=aa (t.unbox d.o.kb)
     refine H.out _ _ (T.o _ v.o.q) (fun f=> ?_);clear H t
   rotate_left 2
   focus
    go_simp
    have l:=kP d.o pg fO
    have E:=aa (And.intro l.1 l.2.1)
    try have b:=aa (And.intro (b.o.1.alloc (dg #[bf ct pg,bf ct fO] 81)) b.o.2)
    try have i:=aa (Own.alloc i.o (dg #[bf ct pg,bf ct fO] 81))
    have d:=aa l.2.2
    refine H.out _ _ (p.o _ l.2.2) (fun f=> ?_);clear H f l
    refine fL [1] (fM fun K H=> ?_)
    go_simp
    refine (z.o _ d.o).mono ?_
    rintro e w1 ⟨tb,rfl,V,u,I,s⟩
    have b:=aa (And.intro u V)
    try have E:=aa (And.intro (E.o.1.below s E.o.2) (bL E.o.2 s.size))
    try have i:=aa (Own.below i.o s (af _))
    have d:=aa I
    refine H.out _ _ (p.o _ I) (fun f=> ?_);clear H f V u I s
    refine fL [3] (fM fun K H=> ?_)
    go_simp
    refine (Z.o _).mono ?_
    rintro e w3 ⟨rfl,D⟩
    have b:=aa (And.intro (b.o.1.below D b.o.1.lt) b.o.2)
    try have E:=aa (And.intro (E.o.1.below D E.o.2) (bL E.o.2 D.size))
    try have i:=aa (Own.below i.o D (af _))
    have d:=aa (d.o.still D)
    refine H.out _ _ (p.o _ d.o) (fun f=> ?_);clear H f D
    refine fL [7] (fM fun K H=> ?_)
    rw[if_pos (by rfl)]
    refine yC (K:=gp) Ni _ _ rfl rfl i.o d.o.le _ 0 1 1 [(pg,fO)] rfl rfl E.o.1 pN.o ?_
    intro v5 w5 qI gX
    have d:=aa (d.o.any ((aE.dK gX).mono fun k _ e=>(Own.block i.o k e).1))
    try have b:=aa (And.intro (b.o.1.but (aE.dK gX) fun e=>Own.dh i.o b.o.1 ξ e) b.o.2)
    obtain⟨g5,c5,uM,_,hs5,_⟩:=Own.form qI (by rw[aq];exact Nat.le_add_left _ _)
    rw[<-Cf.o] at uM
    subst uM
    have i:=aa qI
    clear qI gX hs5 E
    refine H.out _ _ (p.o _ d.o) (fun f=> ?_);clear H f
    refine fL [8] (fM fun K H=> ?_)
    go_simp
    refine (M.o _ _ _ i.o).mono ?_
    rintro e w8 ⟨rfl,G⟩
    have b:=aa (And.intro (b.o.1.below G b.o.1.lt) b.o.2)
    have d:=aa (d.o.still G)
    refine H.out _ _ (p.o _ d.o) (fun f=> ?_);clear H f G i
    refine fL [9] (fM fun K H=> ?_)
    go_simp
    refine (BD.o _ _ _ _ (d.o.look ξ b.o.2 b.o.1)).mono ?_
    rintro e w9 ⟨rfl,t⟩
    have v:=aa (t.unbox d.o.kb)
    refine H.out _ _ (T.o _ v.o.q) (fun f=> ?_);clear H t
   all_goals
    refine aR 10 f ?_
    refine wpAnyH_done η ?_ _
    try simp only[Act.put,aC,aB,ay]
    go_wp2_with fail
    go_ret
    exact⟨rfl,(vA.o _ _ _ _ _ _ v.o (aE.refl _ _)).more κ⟩
  ·rw[Ch.oJ last (pg,fO) hf];have hfI:¬(r.en.length:Int)<18:=κ;clear jR GL Qx hpa hpb N Ke;generalize A++[r]=R at*;have M:=aa (show ∀(W:World) (g:Nat),bg gp W g 0 [(pg,fO)]->g<W.heap.size->Calls prog 54 #[cx (av ⟨g,0,aK⟩) 1 1] W fun e w'=>e=c8 (cu (bs (Ch.txt [(pg,fO)])))/\Below W.heap.size W w' from fun W g hl hg=>oT hl hg (fun y hy=>by rw[bB.1 hy];exact HX.o) 1 zbj);have Z:=aa (fun W=>wD (last+1) W (by have:=J.o.2.2.1;omega))
   have BD:=aa (show ∀(tb:Nat) (W:World) (K':Φ) (Q':Ψ),KT w fv sb rb tb 1 n (two (Ch.gT cs) (Ch.cg R)) last (qG cs) B K' Q' W->Calls prog 47 #[dr (av ⟨tb,0,aK⟩),cu (bs (Wl.enc 8 (last+1))),cu (bs (Ch.txt [(pg,fO)]))] W fun e X'=>e=c8 (bf ct 0)/\KS w fv sb rb n cs (R++[⟨last+1,[(pg,fO)]⟩]) last (B+30000) K' Q' X' from fun tb W K' Q' ht=>by
    have:=wV (key:=Wl.enc 8 (last+1)) (vl:=Ch.txt [(pg,fO)]) ht (by rw[Wl.bO];decide) (by rw[Ch.qV];show 3<=56;decide) zaX J.o.2.2.2.2;refine this.mono ?_;rintro e X' ⟨rfl,hk⟩;rw[vw,show two (Ch.gT cs) (Ch.cg R) 1=Ch.cg R from rfl,Ch.x_ J.o.1] at hk;exact⟨rfl,hk⟩)
   have Gz:=aa (show ∀W,KS w fv sb rb n cs (R++[⟨last+1,[(pg,fO)]⟩]) last (B+30000) L F W->Calls prog 55 #[dr (av ⟨rb,0,aK⟩),bf ct 2,bf eZ ((last:Int)+1)] W fun e X'=>e=c8 (bf ct 0)/\KS w fv sb rb n cs (R++[⟨last+1,[(pg,fO)]⟩]) (last+1) (B+60000) L F X' from fun W O=>by
    have:=AQ O (m:=last+1) (by have:=J.o.2.2.1;omega) zaX;exact this)
   go_enter func25,ntmps25;have c0:=P.o.store.cell (j:=0) rfl;unfold ptr at c0;go_wp2_with fail;generalize dH X _=X0 at*;generalize X.heap.size=eb at*;refine (Jx.o _ P.o).mono ?_;rintro e w1 ⟨rfl,u⟩;have H1:=aa (P.o.still u);clear u c0 P Jx;have AR:=aa (qH H1.o.store);unfold ptr at AR;go_wp2_with fail;refine AR.o.mono ?_;rintro e w2 ⟨rfl,jy⟩;have nO:=aa (show KT w fv sb rb w1.heap.size 1 n _ last _ B L F (w1.alloc (dg #[dr (av ⟨rb,0,aK⟩),bf ct 1] 214)) from H1.o.tree ξ);rw[<-jy] at nO;clear jy H1 AR;generalize w1.heap.size=tb0 at*;go_wp2_with fail;refine (Y7.o _).mono ?_;rintro e w3 ⟨rfl,b8⟩;have O8:=aa (nO.o.still b8);clear b8 nO;go_wp2_with fail;refine (U.o _ _ O8.o).mono ?_;rintro e C ⟨rfl,h4⟩;have W3:=aa h4.grow;clear h4 O8;have HEE:=aa (Ia.o C);go_wp2_with fail;refine HEE.o.mono ?_;rintro e w5 ⟨v5,rfl,pO,dW⟩;obtain⟨g0,c0,rfl,_,_,_⟩:=Own.form pO Ow.o;have d:=aa ((W3.o.still dW).still ((Below.refl _ w5).drew));have Hi:=aa (z.o C.heap.size);have p:=aa (show ∀W,KG w fv sb rb n (two (Ch.gT cs) (Ch.cg R)) last (qG cs) B L F C.heap.size W->_ from fun W O=>T.o W O.done.q);clear W3 z HEE Ia pO dW;have z:=Hi;clear Hi U Y7;generalize C.heap.size=a at*;go_wp2_with fail;go_wp2_with (refine wp_region_held_drew (S:=(fun Y=>Y.cell? ⟨eb,0,aK⟩=av (bf ct pg)/\Y.cell? ⟨eb,1,aK⟩=av (bf ct fO))) η ?_ (fun f=> ?_);focus skip;rotate_left;refine Hid.o ?_);refine aa ?_;·exact p.o _ d.o
   refine aR 0 f ?_;refine aR 2 f ?_;refine aR 3 f ?_;refine aR 5 f ?_;try simp only[Act.put,aC,aB,ay]
   clear f;refine fL [1,6] (AllReadyH.cons rfl (fun K H=> ?_) (fM fun K H=> ?_))
   focus
    go_simp
    refine (z.o _ d.o).mono ?_
    rintro e w1 ⟨tb,rfl,V,u,I,s⟩
    have b:=aa (And.intro u V)
    try have E:=aa (And.intro (E.o.1.below s E.o.2) (bL E.o.2 s.size))
    try have i:=aa (Own.below i.o s (af _))
    have d:=aa I
    refine H.out _ _ (p.o _ I) (fun f=> ?_);clear H f V u I s
    refine fL [4,6] (AllReadyH.cons rfl (fun K H=> ?_) (fM fun K H=> ?_))
    focus
     go_simp
     refine (Z.o _).mono ?_
     rintro e w3 ⟨rfl,D⟩
     have b:=aa (And.intro (b.o.1.below D b.o.1.lt) b.o.2)
     try have E:=aa (And.intro (E.o.1.below D E.o.2) (bL E.o.2 D.size))
     try have i:=aa (Own.below i.o D (af _))
     have d:=aa (d.o.still D)
     refine H.out _ _ (p.o _ d.o) (fun f=> ?_);clear H f D
     refine fL [6] (fM fun K H=> ?_)
     go_simp
     have l:=kP d.o pg fO
     have E:=aa (And.intro l.1 l.2.1)
     try have b:=aa (And.intro (b.o.1.alloc (dg #[bf ct pg,bf ct fO] 81)) b.o.2)
     try have i:=aa (Own.alloc i.o (dg #[bf ct pg,bf ct fO] 81))
     have d:=aa l.2.2
     refine H.out _ _ (p.o _ l.2.2) (fun f=> ?_);clear H f l
     refine fL [7] (fM fun K H=> ?_)
     go_simp
     refine (M.o _ _ E.o.1 E.o.2).mono ?_
     rintro e w8 ⟨rfl,G⟩
     have b:=aa (And.intro (b.o.1.below G b.o.1.lt) b.o.2)
     have d:=aa (d.o.still G)
     refine H.out _ _ (p.o _ d.o) (fun f=> ?_);clear H f G E
     refine fL [8] (fM fun K H=> ?_)
     go_simp
     refine (BD.o _ _ _ _ (d.o.look ξ b.o.2 b.o.1)).mono ?_
     rintro e w9 ⟨rfl,t⟩
     have v:=aa (t.unbox d.o.kb)
     refine H.out _ _ (T.o _ v.o.q) (fun f=> ?_);clear H t
    rotate_left
    focus
     go_simp
     have l:=kP d.o pg fO
     have E:=aa (And.intro l.1 l.2.1)
     try have b:=aa (And.intro (b.o.1.alloc (dg #[bf ct pg,bf ct fO] 81)) b.o.2)
     try have i:=aa (Own.alloc i.o (dg #[bf ct pg,bf ct fO] 81))
     have d:=aa l.2.2
     refine H.out _ _ (p.o _ l.2.2) (fun f=> ?_);clear H f l
     refine fL [4] (fM fun K H=> ?_)
     go_simp
     refine (Z.o _).mono ?_
     rintro e w3 ⟨rfl,D⟩
     have b:=aa (And.intro (b.o.1.below D b.o.1.lt) b.o.2)
     try have E:=aa (And.intro (E.o.1.below D E.o.2) (bL E.o.2 D.size))
     try have i:=aa (Own.below i.o D (af _))
     have d:=aa (d.o.still D)
     refine H.out _ _ (p.o _ d.o) (fun f=> ?_);clear H f D
     refine fL [7] (fM fun K H=> ?_)
     go_simp
     refine (M.o _ _ E.o.1 E.o.2).mono ?_
     rintro e w8 ⟨rfl,G⟩
     have b:=aa (And.intro (b.o.1.below G b.o.1.lt) b.o.2)
     have d:=aa (d.o.still G)
     refine H.out _ _ (p.o _ d.o) (fun f=> ?_);clear H f G E
     refine fL [8] (fM fun K H=> ?_)
     go_simp
     refine (BD.o _ _ _ _ (d.o.look ξ b.o.2 b.o.1)).mono ?_
     rintro e w9 ⟨rfl,t⟩
     have v:=aa (t.unbox d.o.kb)
     refine H.out _ _ (T.o _ v.o.q) (fun f=> ?_);clear H t
   rotate_left 2
   focus
    go_simp
    have l:=kP d.o pg fO
    have E:=aa (And.intro l.1 l.2.1)
    try have b:=aa (And.intro (b.o.1.alloc (dg #[bf ct pg,bf ct fO] 81)) b.o.2)
    try have i:=aa (Own.alloc i.o (dg #[bf ct pg,bf ct fO] 81))
    have d:=aa l.2.2
    refine H.out _ _ (p.o _ l.2.2) (fun f=> ?_);clear H f l
    refine fL [1] (fM fun K H=> ?_)
    go_simp
    refine (z.o _ d.o).mono ?_
    rintro e w1 ⟨tb,rfl,V,u,I,s⟩
    have b:=aa (And.intro u V)
    try have E:=aa (And.intro (E.o.1.below s E.o.2) (bL E.o.2 s.size))
    try have i:=aa (Own.below i.o s (af _))
    have d:=aa I
    refine H.out _ _ (p.o _ I) (fun f=> ?_);clear H f V u I s
    refine fL [4] (fM fun K H=> ?_)
    go_simp
    refine (Z.o _).mono ?_
    rintro e w3 ⟨rfl,D⟩
    have b:=aa (And.intro (b.o.1.below D b.o.1.lt) b.o.2)
    try have E:=aa (And.intro (E.o.1.below D E.o.2) (bL E.o.2 D.size))
    try have i:=aa (Own.below i.o D (af _))
    have d:=aa (d.o.still D)
    refine H.out _ _ (p.o _ d.o) (fun f=> ?_);clear H f D
    refine fL [7] (fM fun K H=> ?_)
    go_simp
    refine (M.o _ _ E.o.1 E.o.2).mono ?_
    rintro e w8 ⟨rfl,G⟩
    have b:=aa (And.intro (b.o.1.below G b.o.1.lt) b.o.2)
    have d:=aa (d.o.still G)
    refine H.out _ _ (p.o _ d.o) (fun f=> ?_);clear H f G E
    refine fL [8] (fM fun K H=> ?_)
    go_simp
    refine (BD.o _ _ _ _ (d.o.look ξ b.o.2 b.o.1)).mono ?_
    rintro e w9 ⟨rfl,t⟩
    have v:=aa (t.unbox d.o.kb)
    refine H.out _ _ (T.o _ v.o.q) (fun f=> ?_);clear H t
   all_goals
    exact zaj
end
def dV:Elem Ch.C:=⟨fun c=>[cu (bs c.id),bf ct c.page,bf ct c.text.length,bf ct c.count],4,ξ,fun _=>rfl,fun c u hu=>by
 simp only[aM,List.not_mem_nil,or_false] at hu
 rcases hu with rfl|rfl|rfl|rfl<;>rfl⟩
theorem wW (z:Array Value) (b:0<z.size) (n:Nat):madeCells z (n*z.size)=(aV n z.toList).flatten.toArray:=by
 have key:∀(n k:Nat),k<n*z.size->((aV n z.toList).flatten)[k]?=z[k%z.size]?:=by
  intro n;induction n with
  |zero=>intro k H;omega
  |succ n i=>
   intro k H;rw[k_,dy];rw[Nat.add_mul,Nat.one_mul] at H;by_cases h:k<z.size;·rw[List.getElem?_append_left zax,gF h,Array.getElem?_toList]
   ·have hl:z.toList.length=z.size:=aU;rw[gO κ,hl,i (k-z.size) κ,<-Nat.mod_eq_sub_mod (show k≥z.size by omega)]
 have hl:((aV n z.toList).flatten).length=n*z.size:=ν
 apply Array.ext;·simp[madeCells]
 ·intro k c d;have H:k<n*z.size:=by simpa[madeCells] using c
  have e:=key n k H;have a:k%z.size<z.size:=fG _ b;rw[aI (by rw[hl];exact H),Array.getElem?_eq_getElem a] at e;injection e with e;simp only[madeCells,Array.getElem_map,Array.getElem_range,List.getElem_toArray,e];exact getElem!_pos z _ a
def Ch.c0:Ch.C:=⟨[],0,[],0⟩
theorem rH {α:Type} (K:Elem α) (a:α):∀n,(aV n (K.enc a)).flatten=K.cells (aV n a)
 |0=>rfl
 |n+1=>by rw[k_,k_,dy,K.bS,rH K a n]
theorem SR (w:World) (n:Nat) (hn:n<=100000):(Instr.makeSlice 69 (.int ct n) (.int ct n)).run prog w=.ok (.slice (av ⟨w.heap.size,0,aK⟩) n n) (w.alloc (dg (dV.cells (aV n Ch.c0)).toArray 73)):=by obtain⟨i,hi,h,hs,H⟩:=iL (P:=prog) (E:=73) (size:=4) (bytes:=40) (z:=.agg #[.string .empty,.int ct 0,.int ct 0,.int ct 0]) η;have:=run_make (P:=prog) w 69 73 i (.agg #[.string .empty,.int ct 0,.int ct 0,.int ct 0]) underlying69 hi h ct ct n n κ κ zaT κ;have e:=wW #[.string .empty,.int ct 0,.int ct 0,.int ct 0] ξ n;rw[this,hs,cK,show (Value.agg #[.string .empty,.int ct 0,.int ct 0,.int ct 0]).cells=#[.string .empty,.int ct 0,.int ct 0,.int ct 0] from rfl];rw[show (#[Value.string .empty,.int ct 0,.int ct 0,.int ct 0]:Array Value).size=4 from rfl] at e;rw[e,show (#[Value.string .empty,.int ct 0,.int ct 0,.int ct 0]:Array Value).toList=dV.enc Ch.c0 from rfl,rH]
theorem AU (c:Ch.C):∀(l:List Ch.C) (j:Nat),j<l.length->
  ((((dV.cells l).set (j*4) (cu (bs c.id))).set (j*4+1) (bf ct c.page)).set (j*4+2) (bf ct c.text.length)).set (j*4+3) (bf ct c.count)=dV.cells (l.set j c)
 |[],j,h=>absurd h (Nat.not_lt_zero j)
 |a::l,0,_=>by rw[ay,dV.bS,dV.bS];rfl
 |a::l,j+1,h=>by
  have i:=AU c l j zax;have hl:(dV.enc a).length=4:=rfl;have hs:∀(ys:List Value) (m:Nat) (v:Value),(dV.enc a++ys).set ((j+1)*4+m) v=dV.enc a++ys.set (j*4+m) v:=fun ys m v=>by rw[iP _ _ (by rw[hl];omega),hl,show (j+1)*4+m-4=j*4+m by omega]
  have H:∀(ys:List Value) (v:Value),(dV.enc a++ys).set ((j+1)*4) v=dV.enc a++ys.set (j*4) v:=fun ys v=>hs ys 0 v;rw[aB,dV.bS,dV.bS,H,hs,hs,hs,i]
theorem SU {w:World} {g:Nat} {l:List Ch.C} (h:aW w g 73 (dV.cells l)) (j:Nat) (H:j<l.length) (c:Ch.C):
  aW ((((w.setCell ⟨g,j*4,aK⟩ (cu (bs c.id))).setCell ⟨g,j*4+1,aK⟩ (bf ct c.page)).setCell ⟨g,j*4+2,aK⟩ (bf ct c.text.length)).setCell ⟨g,j*4+3,aK⟩ (bf ct c.count)) g 73 (dV.cells (l.set j c))/\
  aE (fun k=>k=g) w ((((w.setCell ⟨g,j*4,aK⟩ (cu (bs c.id))).setCell ⟨g,j*4+1,aK⟩ (bf ct c.page)).setCell ⟨g,j*4+2,aK⟩ (bf ct c.text.length)).setCell ⟨g,j*4+3,aK⟩ (bf ct c.count)):=by
 have c':∀(X:World) (j:Nat) (v:Value),aE (fun k=>k=g) w X->aE (fun k=>k=g) w (X.setCell ⟨g,j,aK⟩ v):=fun X j v a=>a.setCell _ _ fun _=>rfl;refine⟨?_,c' _ _ _ (c' _ _ _ (c' _ _ _ (c' _ _ _ (aE.refl _ w))))⟩;rw[<-AU c l j H];exact (((h.set _ _).set _ _).set _ _).set _ _
theorem nK {w:World} {g:Nat} {l:List Ch.C} (h:aW w g 73 (dV.cells l)) (j:Nat) (H:j<l.length):
  w.cell? ⟨g,j*4,aK⟩=av (cu (bs l[j].id))/\w.cell? ⟨g,j*4+1,aK⟩=av (bf ct l[j].page)/\w.cell? ⟨g,j*4+2,aK⟩=av (bf ct l[j].text.length)/\w.cell? ⟨g,j*4+3,aK⟩=av (bf ct l[j].count):=by
 have hl:bg dV w g 0 l:=bg.dZ h rfl;have a:=hl.at j 0 ξ H (cu (bs l[j].id)) rfl;have b:=hl.at j 1 ξ H (bf ct l[j].page) rfl;have c:=hl.at j 2 ξ H (bf ct l[j].text.length) rfl;have h3:=hl.at j 3 ξ H (bf ct l[j].count) rfl;rw[show dV.size=4 from rfl,bG] at a b c h3;exact⟨a,b,c,h3⟩
def mC (l:List Ch.C) (k:Nat):List Ch.C:=l.take k++aV (l.length-k) Ch.c0
theorem AV (l:List Ch.C):mC l 0=aV l.length Ch.c0:=rfl
theorem AW (l:List Ch.C):mC l l.length=l:=by unfold mC;rw[List.take_length,dm,List.replicate_zero,bh]
theorem CQ (l:List Ch.C) (k:Nat) (h:k<=l.length):(mC l k).length=l.length:=by unfold mC;rw[aq,aJ,dR];omega
theorem CR (l:List Ch.C) (k:Nat) (h:k<l.length):(mC l k).set k l[k]=mC l (k+1):=by unfold mC;rw[cz h,aD];rw[show l.length-k=(l.length-(k+1))+1 by omega,k_];rw[iP _ _ zaE,aJ,show k-min k l.length=0 by omega,ay];rfl
structure Re where
 key:List UInt8
 blk:Option Nat
 n:Nat
 cap:Nat
def Re.val (e:Re):Value:=cx (e.blk.map fun g=>⟨g,0,aK⟩) e.n e.cap
def Re.zero:Re:=⟨[],aK,0,0⟩
def fK:Elem Re:=⟨fun e=>[cu (bs e.key),e.val],2,ξ,fun _=>rfl,fun e u hu=>by
 simp only[aM,List.not_mem_nil,or_false] at hu
 rcases hu with rfl|rfl<;>rfl⟩
theorem SV (w:World) (n:Nat) (hn:n<=100000):(Instr.makeSlice 182 (.int ct n) (.int ct n)).run prog w=.ok (.slice (av ⟨w.heap.size,0,aK⟩) n n) (w.alloc (dg (fK.cells (aV n Re.zero)).toArray 186)):=by obtain⟨i,hi,h,hs,H⟩:=iL (P:=prog) (E:=186) (size:=2) (bytes:=40) (z:=.agg #[.string .empty,.slice aK 0 0]) η;have:=run_make (P:=prog) w 182 186 i (.agg #[.string .empty,.slice aK 0 0]) underlying182 hi h ct ct n n κ κ zaT κ;have e:=wW #[.string .empty,.slice aK 0 0] ξ n;rw[this,hs,cK,show (Value.agg #[.string .empty,.slice aK 0 0]).cells=#[.string .empty,.slice aK 0 0] from rfl];rw[show (#[Value.string .empty,.slice aK 0 0]:Array Value).size=2 from rfl] at e;rw[e,show (#[Value.string .empty,.slice aK 0 0]:Array Value).toList=fK.enc Re.zero from rfl,rH]
theorem LZ (c:Re):∀(l:List Re) (j:Nat),j<l.length->
  ((fK.cells l).set (j*2) (cu (bs c.key))).set (j*2+1) c.val=fK.cells (l.set j c)
 |[],j,h=>absurd h (Nat.not_lt_zero j)
 |a::l,0,_=>by rw[ay,fK.bS,fK.bS];rfl
 |a::l,j+1,h=>by
  have i:=LZ c l j zax;have hl:(fK.enc a).length=2:=rfl;have hs:∀(ys:List Value) (m:Nat) (v:Value),(fK.enc a++ys).set ((j+1)*2+m) v=fK.enc a++ys.set (j*2+m) v:=fun ys m v=>by rw[iP _ _ (by rw[hl];omega),hl,show (j+1)*2+m-2=j*2+m by omega]
  have H:∀(ys:List Value) (v:Value),(fK.enc a++ys).set ((j+1)*2) v=fK.enc a++ys.set (j*2) v:=fun ys v=>hs ys 0 v;rw[aB,fK.bS,fK.bS,H,hs,i]
theorem VN {w:World} {g:Nat} {l:List Re} (h:aW w g 186 (fK.cells l)) (j:Nat) (H:j<l.length) (c:Re):
  aW ((w.setCell ⟨g,j*2,aK⟩ (cu (bs c.key))).setCell ⟨g,j*2+1,aK⟩ c.val) g 186 (fK.cells (l.set j c))/\
  aE (fun k=>k=g) w ((w.setCell ⟨g,j*2,aK⟩ (cu (bs c.key))).setCell ⟨g,j*2+1,aK⟩ c.val):=by
 have c':∀(X:World) (j:Nat) (v:Value),aE (fun k=>k=g) w X->aE (fun k=>k=g) w (X.setCell ⟨g,j,aK⟩ v):=fun X j v a=>a.setCell _ _ fun _=>rfl;refine⟨?_,c' _ _ _ (c' _ _ _ (aE.refl _ w))⟩;rw[<-LZ c l j H];exact (h.set _ _).set _ _
theorem AX {w:World} {g:Nat} {l:List Re} (h:aW w g 186 (fK.cells l)) (j:Nat) (H:j<l.length):
  w.cell? ⟨g,j*2,aK⟩=av (cu (bs l[j].key))/\w.cell? ⟨g,j*2+1,aK⟩=av l[j].val:=by
 have hl:bg fK w g 0 l:=bg.dZ h rfl;have a:=hl.at j 0 ξ H (cu (bs l[j].key)) rfl;have b:=hl.at j 1 ξ H l[j].val rfl;rw[show fK.size=2 from rfl,bG] at a b;exact⟨a,b⟩
def SX (B:Nat) (Y:World) (e:Re) (r:Ch.Rc):Prop:=e.key=Wl.enc 8 r.num/\e.n=r.en.length/\∃ge,e.blk=av ge/\oS B Y (cx (av ⟨ge,0,aK⟩) e.n e.cap) r.en
theorem SX.but {B:Nat} {Y y:World} {e:Re} {r:Ch.Rc} {S:Φ} (h:SX B Y e r) (a:aE S Y y) (hS:∀k,B<=k->k<Y.heap.size->¬S k):SX B y e r:=by obtain⟨b,c,ge,h3,h4⟩:=h;exact⟨b,c,ge,h3,Own.but h4 a fun k H=>hS k (Own.block h4 k H).1 (Own.block h4 k H).2⟩
structure vB (Y:World) (g b:Nat) (es:List Re) (rs:List Ch.Rc):Prop where
 blk:aW Y g 186 (fK.cells es)
 len:es.length=rs.length
 lt:g<b
 all:∀(i:Nat) (e:Re) (r:Ch.Rc),es[i]?=av e->rs[i]?=av r->SX (g+1) Y e r/\∀ge,e.blk=av ge->ge<b
theorem vB.but {Y y:World} {g b:Nat} {es:List Re} {rs:List Ch.Rc} {S:Φ} (h:vB Y g b es rs) (H:aE S Y y) (hS:∀k,g<=k->k<b->¬S k):vB y g b es rs:=by refine⟨h.blk.but H (hS g (af _) h.lt),h.len,h.lt,fun i e r d f=> ?_⟩;obtain⟨⟨j,l,ge,a,A⟩,c⟩:=h.all i e r d f;refine⟨⟨j,l,ge,a,Own.but A H fun k m=> ?_⟩,c⟩;have E:av ge=av k:=m;injection E with E;subst E;exact hS ge (by have:=(Own.block A ge rfl).1;omega) (c ge a)
structure ZZ (w1:World) (rs:List Ch.Rc) (v:Value) (k:Nat) (X:World):Prop where
 below:Below w1.heap.size w1 X
 row:∃es,es.length=k/\aW X w1.heap.size 186 (fK.cells (es++aV (rs.length-k) Re.zero))/\∀(i:Nat) (e:Re) (r:Ch.Rc),es[i]?=av e->rs[i]?=av r->SX (w1.heap.size+1) X e r
 cH:qE 0 X v (Ch.cg rs)
theorem ZZ.later {w1 X X':World} {rs:List Ch.Rc} {v:Value} {k:Nat} (h:ZZ w1 rs v k X) (H:Below X.heap.size X X'):ZZ w1 rs v k X':=by obtain⟨es,b,a,h3⟩:=h.row;exact⟨h.below.trans (H.mono h.below.size),⟨es,b,a.below H a.lt,fun i e r c hr=>(h3 i e r c hr).but (aE.aF H (fun _=>False)) fun _ _ _=>id⟩,Own.below h.cH H (af _)⟩
section
variable {w X:World} {fv:Value} {sb rb n B last:Nat} {K:Φ} {Q:Ψ} {cs:List Ch.C} {rs:List Ch.Rc}
theorem L0 (l:List Ch.Rc) (k:Nat) (H:k<l.length) (h:k<(Ch.cg l).length):(Ch.cg l)[k]=(Wl.enc 8 l[k].num,Ch.txt l[k].en):=gS _
theorem Hj (h:KS w fv sb rb n cs rs last B K Q X) (U:Ch.dG rs last) (lim:Int) (hn:rs.length<=100000):
  Calls prog 96 #[ptr sb,bf ct lim] X fun e X'=>∃g b es,e=c8 (ec #[cx (av ⟨g,0,aK⟩) (rs.take lim.toNat).length (rs.take lim.toNat).length,bf ct 0])/\(g<b/\rb<g/\(∀k,K k->k<g)/\w.heap.size<=g)/\b<=X'.heap.size/\KS w fv sb rb n cs rs last B (LU K g b) (Ic K Q fun Y=>vB Y g b es (rs.take lim.toNat)) X':=by
 have pL:=aa h;have gU:=aa (show ∀W,KS w fv sb rb n cs rs last B K Q W->Calls prog 19 #[dr (av ⟨sb,0,aK⟩)] W fun e X'=>e=c8 (bf ct 0)/\Below W.heap.size W X' from fun W hW=>nJ hW);have AY:=aa (show ∀W,KS w fv sb rb n cs rs last B K Q W->Calls prog 50 #[dr (av ⟨sb,0,aK⟩)] W fun e X'=>e=c8 (dr (av ⟨W.heap.size,0,aK⟩))/\X'=W.alloc (dg #[dr (av ⟨rb,0,aK⟩),bf ct 1] 214) from fun W hW=>qH hW.store)
 have z:=aa (show ∀tb W,KT w fv sb rb tb 1 n (two (Ch.gT cs) (Ch.cg rs)) last (qG cs) B K Q W->Calls prog 64 #[dr (av ⟨tb,0,aK⟩),cu ⟨#[]⟩,cu ⟨#[]⟩,bf ct lim] W fun e X'=>∃v,e=c8 (ec #[v,bf ct 0])/\qE W.heap.size X' v (Ch.cg (rs.take lim.toNat))/\KS w fv sb rb n cs rs last B K Q X' from fun tb W ht=>by
  have:=LV ht [] [] lim;rw[show two (Ch.gT cs) (Ch.cg rs) 1=Ch.cg rs from rfl,Ch.OD] at this;exact this)
 have HF:=aa (show ∀r∈rs.take lim.toNat,(1<=r.en.length/\r.en.length<=18)/\∀x∈r.en,Ch.oG x from fun r hr=>⟨U.len r (List.mem_of_mem_take hr),U.en r (List.mem_of_mem_take hr)⟩);have q:(rs.take lim.toNat).length<=100000:=zaE
 clear h U;unfold ptr;generalize rs.take lim.toNat=l at*;clear hn;have hL:(Ch.cg l).length=l.length:=aL _;have A:=fun W=>SV W l.length q;obtain⟨L,M⟩:=ξx l.length;have J:=aa M;have HLm:=aa q;rw[<-M] at hL A |-;go_enter func96,ntmps96;go_wp2_with fail;refine (gU.o _ pL.o).mono ?_;rintro e v1 ⟨rfl,aT⟩;have HA:=aa (pL.o.still aT);clear aT pL gU;go_wp2_with fail;refine (AY.o _ HA.o).mono ?_;rintro e v2 ⟨rfl,jy⟩;have nO:=aa (show KT w fv sb rb v1.heap.size 1 n _ last _ B K Q (v1.alloc (dg #[dr (av ⟨rb,0,aK⟩),bf ct 1] 214)) from HA.o.tree ξ);rw[<-jy] at nO;clear jy HA AY;generalize v1.heap.size=tb at*;go_wp2_with fail;refine (z.o _ _ nO.o).mono ?_;rintro e w1 ⟨v,rfl,N,h1⟩;have H1:=aa h1;obtain⟨a,cap,rfl,hc⟩:=Own.slice N;rw[hL] at N |-;have UQ:=aa (Own.mono N (aA _));obtain⟨Z,hZ⟩:=ξx ((fK.cells (aV L Re.zero)).toArray)
 have W5:=aa (show ZZ w1 l (cx a L cap) 0 (w1.alloc (dg Z 186)) from⟨(Below.refl _ w1).alloc (af _) _,⟨[],rfl,by
  have:=aW.new w1 Z 186;rw[cM,Nat.sub_zero,<-M];rw[hZ] at this |-;exact this,fun i e r f _=>by cases f⟩,Own.alloc UQ.o _⟩)
 simp only[<-hZ] at A;clear h1 N hc hL M nO z q hZ;go_wp2_with fail;generalize dH w1 _=w2 at*;have zJ:(L:Int)<=100000:=by have:=HLm.o;have:=J.o;omega
 go_loopw [34] (fun iv wr=>∃k:Nat,k<=L/\iv=bf ct k/\Hid (ZZ w1 l (cx a L cap) k wr)) (fun iv _=>L-(RowKit.intOf iv).toNat)
 case atStart=>exact⟨0,aA _,rfl,W5⟩
 case round=>
  clear W5;obtain⟨k,hk,rfl,y⟩:=hrel;by_cases C:k<L
  ·have hI:(k:Int)<L:=κ;have O:=aa C;have HR:=y;have d:k<l.length:=(by rw[<-J.o];exact C);have m:k<(Ch.cg l).length:=(by rw[Ch.j4];exact d);obtain⟨g,cap',hv,_,hg,D⟩:=Own.form y.o.cH κ;injection hv with EB B9 Ti;subst EB Ti;clear B9;have s:bg kF wr g 0 (Ch.cg l):=Own.lies (cap:=cap) (n:=L) y.o.cH;have E:=s.at k 0 ξ m (cu (bs (Wl.enc 8 (l[k]'d).num))) (by rw[L0 l k d m];rfl);have p1:=s.at k 1 ξ m (cu (bs (Ch.txt (l[k]'d).en))) (by rw[L0 l k d m];rfl);rw[show kF.size=2 from rfl,bG] at E p1;rw[Nat.add_zero] at E;obtain⟨r,hr⟩:=ξx (l[k]'d);rw[<-hr] at E p1;have p:=HF.o r (by rw[hr];exact bp d);have VO:=aa (fun W=>sj r.en p.2 κ p.1.1 W);have F:=aa (show l[k]?=av r/\1<=r.en.length by exact⟨by rw[aI d,hr],p.1.1⟩);clear s d m D hg y hr p;have Z0:=aa (HR.o.later ((Below.refl _ wr).alloc (af _) (dg #[cu (bs (Wl.enc 8 r.num)),cu (bs (Ch.txt r.en))] 134)));have pP:=aa (aW.new wr #[cu (bs (Wl.enc 8 r.num)),cu (bs (Ch.txt r.en))] 134);have HV:=aa (fun g' h'=>(Own.block UQ.o g' h').2);generalize bs (Ch.txt r.en)=TX at*;obtain⟨R,Y8⟩:∃x,x=Wl.enc 8 r.num:=⟨_,rfl⟩;rw[<-Y8] at E Z0 pP;have HKY:=aa Y8;clear Y8;go_wp2_with fail;generalize dH wr _=wa at*;refine (VO.o _).mono ?_;rintro e w3 ⟨v3,rfl,Jz,b8⟩;have S:=aa (Z0.o.later b8);have y0:=(pP.o.below b8 pP.o.lt).cell (j:=0) rfl;obtain⟨ge,cp,rfl,t,Zz,Bn⟩:=Own.form Jz F.o.2;have G:=aa (Own.mono Jz (show w1.heap.size+1<=wa.heap.size by obtain⟨_,_,hb,_⟩:=Z0.o.row;exact hb.lt));obtain⟨es,V,H,c⟩:=S.o.row;have u:k<(es++aV (l.length-k) Re.zero).length:=(by rw[aq,dR,V];have:=J.o;have:=O.o;omega);have HES:=aa (And.intro V c);obtain⟨k0,v0,z1,z2⟩:∃(k0:ByteArray) (v0:Value),w3.cell? ⟨w1.heap.size,k*2,aK⟩=av (cu k0)/\w3.cell? ⟨w1.heap.size,k*2+1,aK⟩=av v0:=⟨_,_,AX H k u⟩;have f1:=H.frozen (k*2);have f2:=H.frozen (k*2+1);obtain⟨q1,I⟩:=VN H k u ⟨R,av ge,r.en.length,cp⟩;have jk:(es++aV (l.length-k) Re.zero).set k ⟨R,av ge,r.en.length,cp⟩=(es++[⟨R,av ge,r.en.length,cp⟩])++aV (l.length-(k+1)) Re.zero:=(by have h2:l.length-k=(l.length-(k+1))+1:=(by have:=J.o;have:=O.o;omega);rw[h2,k_,iP _ _ κ,V,dm,ay,aD];rfl);rw[jk] at q1
   have HE:=aa (show ZZ w1 l (cx (av ⟨g,0,aK⟩) L cap) (k+1) _ from⟨S.o.below.trans (I.below S.o.below.size fun i hi e=>κ),⟨es++[⟨R,av ge,r.en.length,cp⟩],by rw[aq,V];rfl,q1,fun i e r2 f nT=>by
    by_cases hi:i<k;·rw[List.getElem?_append_left κ] at f;exact (HES.o.2 i e r2 f nT).but I fun j T _ ej=>κ
    ·rw[gO κ,V] at f;obtain rfl:i=k:=by
      by_cases h0:i-k=0;·omega
      ·rw[List.getElem?_eq_none zay] at f;cases f
     rw[dm] at f;cases f;rw[F.o.1] at nT;cases nT;exact⟨HKY.o,rfl,ge,rfl,Own.but G.o I fun j T ej=>by have:=(Own.block G.o j T).1;omega⟩⟩,Own.but S.o.cH I fun i hi e=>by have:=HV.o i hi;omega⟩)
   clear u q1 I jk V c H Jz b8 t Zz Bn E p1;simp only[Re.val,Option.map_some] at HE;go_wp2_with fail;go_roundw
   case rel=>exact⟨k+1,O.o,ς,HE⟩
   case measure=>have:=O.o;simp[RowKit.intOf];omega
  ·obtain rfl:k=L:=by omega
   have hI:¬(k:Int)<k:=κ;obtain⟨es,V,H,c⟩:=y.o.row;rw[J.o,dm,List.replicate_zero,bh] at H
   have HX:=aa (show vB wr w1.heap.size wr.heap.size es l from⟨H,by rw[V,J.o],H.lt,fun i e r f hr=>⟨c i e r f hr,fun ge t=>by
    obtain⟨_,_,ge2,h3,h4⟩:=c i e r f hr;rw[t] at h3;cases h3;exact (Own.block h4 ge rfl).2⟩⟩)
   clear V H c;go_wp2
   go_ret2
   have V_:=H1.o.box (P:=fun Y=>vB Y w1.heap.size wr.heap.size es l) y.o.below (fun X2 aQ=>HX.o.but aQ fun j T hl hn=>hn ⟨T,hl⟩);exact⟨w1.heap.size,rfl,_,⟨HX.o.blk.lt,H1.o.Y5⟩,af _,es,V_⟩
end
theorem wX (l:List Ch.Rc) (r:Ch.Rc):Ch.aZ (l++[r])=Ch.aZ l++r.en:=by rw[Ch.nr];unfold Ch.aZ;simp
theorem vC {rs:List Ch.Rc} {last:Nat} (h:Ch.dG rs last):∀x∈Ch.aZ rs,Ch.oG x:=by intro x H;obtain⟨r,hr,H⟩:=List.mem_flatMap.1 H;exact h.en r hr x H
theorem CS (rs:List Ch.Rc) (k:Nat):(Ch.aZ (rs.take k)).length<=(Ch.aZ rs).length:=by
 have e:Ch.aZ rs=Ch.aZ (rs.take k)++Ch.aZ (rs.drop k):=by rw[<-Ch.nr,b_]
 rw[e,aq];omega
section
variable {w X:World} {fv:Value} {sb rb n B last:Nat} {K:Φ} {Q:Ψ} {cs:List Ch.C} {rs:List Ch.Rc}
theorem Ks (h:KS w fv sb rb n cs rs last B K Q X) (J:Ch.dG rs last) (hn:rs.length<=1000) (C:(Ch.aZ rs).length<=1000):
  Calls prog 63 #[ptr sb] X fun e X'=>∃v,e=c8 (ec #[v,bf ct 0])/\oS 0 X' v (Ch.aZ rs)/\KS w fv sb rb n cs rs last B K Q X':=by
 have p:=Hj h J 9223372036854775807 κ;rw[show rs.take (9223372036854775807:Int).toNat=rs from bD (by show rs.length<=9223372036854775807;omega)] at p;have s:=aa p;have T:=aa h.kb;obtain⟨L,t⟩:=ξx rs.length;rw[<-t] at s;have D:=aa t;have R:=aa C;have zJ:(L:Int)<=1000:=κ
 clear h J p t hn C;unfold ptr at s |-;go_enter func63,ntmps63;go_wp2_with fail;refine s.o.mono ?_;rintro e w1 ⟨g,b,es,rfl,u,_,x⟩;have S:=aa x;have W:=aa x.q.2;clear x u s;go_wp2
 go_loopw [6,16] (fun v I wr=>∃k:Nat,k<=L/\I=bf ct k/\Hid (oS w1.heap.size wr v (Ch.aZ (rs.take k))/\Below w1.heap.size w1 wr)) (fun _ I _=>L-(RowKit.intOf I).toNat)
 case atStart=>exact⟨0,aA _,rfl,aa ⟨zbr,Below.refl _ _⟩⟩
 case round=>
  obtain⟨k,hk,rfl,a⟩:=hrel;by_cases f:k<L
  ·have U:(k:Int)<L:=κ;have E:k<rs.length:=(by rw[<-D.o];exact f);have H:=W.o.but (aE.aF a.o.2 (fun _=>False)) (fun _ _ _=>id);have M:k<es.length:=(by rw[W.o.len];exact E);obtain⟨x0,y⟩:=AX H.blk k M;obtain⟨ge,j,c,d⟩:∃ge,(es[k]'M).blk=av ge/\(es[k]'M).n=(rs[k]'E).en.length/\oS (g+1) wr (cx (av ⟨ge,0,aK⟩) (es[k]'M).n (es[k]'M).cap) (rs[k]'E).en:=by obtain⟨⟨_,V,ge,h3,h4⟩,_⟩:=H.all k (es[k]'M) (rs[k]'E) (aI M) (aI E);exact⟨ge,h3,V,h4⟩
   rw[show (es[k]'M).val=cx (av ⟨ge,0,aK⟩) (es[k]'M).n (es[k]'M).cap by unfold Re.val;rw[j];rfl,c] at y;rw[c] at d;have F:=aa d;have G:=aa (show rs.take (k+1)=rs.take k++[rs[k]'E] from cz E);have hle:(Ch.aZ (rs.take k)).length+(rs[k]'E).en.length<=1000000000:=(by have Y:=CS rs (k+1);rw[G.o,wX,aq] at Y;have:=R.o;omega);have Z:=aa hle;generalize bs (es[k]'M).key=N at*;generalize (es[k]'M).cap=cp at*;generalize rs[k]'E=r at*;clear E H M j c d hle;obtain⟨m,z⟩:=ξx r.en.length;rw[<-z] at y;have O:=aa z;clear z;go_wp2_with (at_builtin;refine Hid.o ?_);refine aa ?_;have l:=a.o.2.size
   refine gP (K:=gp) Ni rfl _ _ rfl rfl (a.o.1.alloc _) zay ge 0 m cp r.en rfl O.o.symm (by
    have hl:=Own.lies F.o;exact hl.below ((Below.refl _ wr).alloc (af _) (dg #[cu N,cx (av ⟨ge,0,aK⟩) m cp] 186)) (Own.block F.o ge rfl).2) (by rw[O.o];exact Z.o) ?_
   intro v' w4 oP iE;rw[<-wX,<-G.o] at oP;have H4:=aa (And.intro oP ((a.o.2.alloc l (dg #[cu N,cx (av ⟨ge,0,aK⟩) m cp] 186)).trans ((aE.dK iE).below zay (fun i hi e=>by have:=(a.o.1.block i e).1;omega))));clear oP iE l x0 y;go_wp2;go_roundw
   case rel=>exact⟨k+1,f,ς,H4⟩
   case measure=>simp[RowKit.intOf];omega
  ·obtain rfl:k=L:=by omega
   have U:¬(k:Int)<k:=κ;have A:=a.o.1;rw[bD (by rw[D.o];exact af _)] at A;have P:=aa (And.intro (Own.mono A (aA _)) ((S.o.still a.o.2).unbox T.o));clear A a;go_wp2
   go_ret2
   exact⟨_,rfl,P.o.1,P.o.2⟩
theorem Kt (h:KS w fv sb rb n cs rs last B K Q X) (j:Ch.dG rs last) (hn:rs.length<=1000) (c:(Ch.aZ rs).length<=1000):
  Calls prog 29 #[ptr sb] X fun e X'=>∃b m,e=c8 (ec #[.map (av b),bf ct 0])/\SMap X' b m/\Ch.nv m (Ch.aZ rs)/\KS w fv sb rb n cs rs last B K Q X':=by
 have d:=aa (Ks h j hn c);have D:=aa (vC j);have i:=aa c;clear h j hn c;unfold ptr at d |-;go_enter func29,ntmps29;go_wp2_with fail;refine d.o.mono ?_;rintro e w1 ⟨v,rfl,H,k⟩;have s:=aa k;obtain⟨a,cap,rfl,hc⟩:=Own.slice H
 have l:=aa (show ∃g,Calls prog 57 #[cx a (Ch.aZ rs).length cap] w1 fun e w'=>∃m,e=c8 (.map (av w1.heap.size))/\SMap w' w1.heap.size m/\Ch.nv m (Ch.aZ rs)/\m.length<=(Ch.aZ rs).length/\Below w1.heap.size w1 w' by
  by_cases p:0<(Ch.aZ rs).length;·obtain⟨g,C,e,_,hg,_⟩:=Own.form H p;injection e with e1 _ e3;subst e1 e3;exact⟨g,oU (g:=g) (o:=0) _ _ (fun _=>⟨rfl,Own.lies H,hg⟩) D.o i.o⟩
  ·exact⟨0,oU (g:=0) (o:=0) _ _ (fun h=>absurd h p) D.o i.o⟩)
 clear H hc k d;generalize (Ch.aZ rs).length=t at*;obtain⟨G,hs⟩:=l.o;have L:=aa hs;clear hs l;go_wp2_with fail;refine L.o.mono ?_;rintro e W ⟨m,rfl,q,h3,h4,r⟩;have f:=aa (And.intro q (And.intro h3 (s.o.still r)));clear q h3 h4 r L;go_wp2
 go_ret2
 exact⟨_,m,rfl,f.o.1,f.o.2.1,f.o.2.2⟩
end
structure KW (w:World) (fv:Value) (sb rb n:Nat) (l:Nat->Tr.eO) (last:Nat) (bl:List (Nat×Wl.Text)) (B:Nat) (K:Φ) (Q:Ψ) (O:Φ) (P:Ψ) (X:World):Prop where
 kh:KH w fv sb rb n l last bl B (fun k=>K k\/O k) (Ic K Q P) X
 low:∀k,O k->w.heap.size<=k/\k≠rb/\¬K k
 kb:K sb
section
variable {w X X':World} {fv:Value} {sb rb tb k n B B' last last':Nat} {l l':Nat->Tr.eO} {bl OV:List (Nat×Wl.Text)} {K O O':Φ} {Q P P':Ψ}
theorem KH.own (h:KH w fv sb rb n l last bl B K Q X):KW w fv sb rb n l last bl B K Q (fun _=>False) (fun _=>True) X:=by obtain⟨g,b,xb,R,ps,pg,rt,p,a,c,h3⟩:=h.ms;exact⟨⟨g,b,xb,R,ps,pg,rt,p,a,c,h3.few,h3.len,fun k H=>h3.held k (H.imp_right fun h=>h.elim id False.elim),h3.below,fun X2 A=>⟨fun X3 d=>h3.q X3 ((A.mono fun _ _ hn H=>hn (cS H)).trans d fun _ _ h=>h),trivial⟩,cS h3.kb,h3.st⟩,fun _ h=>h.elim,h3.kb⟩
theorem KW.p (h:KW w fv sb rb n l last bl B K Q O P X):P X:=h.kh.q.2
theorem KW.on (h:KW w fv sb rb n l last bl B K Q O P X) (H:KH w fv sb rb n l' last' OV B' (fun k=>K k\/O k) (Ic K Q P) X'):KW w fv sb rb n l' last' OV B' K Q O P X':=⟨H,h.low,h.kb⟩
theorem KW.still (h:KW w fv sb rb n l last bl B K Q O P X) (H:Below X.heap.size X X'):KW w fv sb rb n l last bl B K Q O P X':=h.on (h.kh.still H)
theorem KW.fN (h:KW w fv sb rb n l last bl B K Q O P X) (c:aE O X X') (e:∀k,O' k->O k\/(X.heap.size<=k/\k<X'.heap.size)) (i:∀X2,aE (fun k=>¬O' k) X' X2->P' X2):KW w fv sb rb n l last bl B K Q O' P' X':=by
 obtain⟨g,b,xb,R,ps,pg,rt,p,f,j,h3⟩:=h.kh.ms;have a:=h.kh.Y5;refine⟨⟨g,b,xb,fun k=>R k\/(X.heap.size<=k/\k<X'.heap.size),ps,pg,rt,p,f.fN c (fun k _ H=>h3.held k (dc (dc H))) (fun H=>(h.low rb H).2.1 rfl) (fun _ H=>H) (cS f.rm.rr),j,h3.few,h3.len,fun k H=> ?_,h3.below.trans (c.below h3.below.size fun k H hn=>by have:=(h.low k hn).1;omega),fun X2 A=>⟨fun X3 m=> ?_,i X2 (A.mono fun _ _ hn H=>hn (dc H))⟩,cS h.kb,h3.st.but c fun H=>(h.low sb H).2.2 h.kb⟩,fun k H=> ?_,h.kb⟩
 ·rcases H with H|H|H;·exact cS (h3.held k (cS H))
  ·exact cS (h3.held k (dc (cS H)))
  ·exact (e k H).imp_left fun H=>h3.held k (dc (dc H))
 ·exact (h3.q X (aE.refl _ _)).1 X3 (((c.mono fun k _ H d=>(h.low k H).2.2 d).trans A fun _ _ hn H=>hn (cS H)).trans m fun _ _ hn=>hn)
 ·rcases e k H with H|H;·exact h.low k H
  ·refine⟨by have:=a.2.2;omega,by have:=a.1;omega,fun d=> ?_⟩;have:=a.2.1 k (cS d);omega
theorem KW.done (h:KW w fv sb rb n l last bl B K Q O P X):KH w fv sb rb n l last bl B K Q X:=by obtain⟨g,b,xb,R,ps,pg,rt,p,H,a,h3⟩:=h.kh.ms;exact⟨g,b,xb,R,ps,pg,rt,p,H,a,h3.few,h3.len,fun k c=>h3.held k (c.imp_right cS),h3.below,(h3.q X (aE.refl _ _)).1,h.kb,h3.st⟩
theorem KH.owned {g b:Nat} (h:KH w fv sb rb n l last bl B (LU K g b) (Ic K Q P) X) (hl:rb<g/\(∀k,K k->k<g)/\w.heap.size<=g) (hs:K sb):KW w fv sb rb n l last bl B K Q (fun k=>g<=k/\k<b) P X:=
 ⟨h,fun k a=>⟨κ,κ,fun H=>by have:=hl.2.1 k H;omega⟩,hs⟩
end
structure Z2 (w1:World) (l:List Ch.C) (v:Value) (k:Nat) (X:World):Prop where
 below:Below w1.heap.size w1 X
 row:aW X w1.heap.size 73 (dV.cells (mC l k))
 cH:qE 0 X v (Ch.gT l)
theorem Z2.later {w1 X X':World} {l:List Ch.C} {v:Value} {k:Nat} (h:Z2 w1 l v k X) (H:Below X.heap.size X X'):Z2 w1 l v k X':=
 ⟨h.below.trans (H.mono h.below.size),h.row.below H h.row.lt,Own.below h.cH H (af _)⟩
section
variable {w X:World} {fv:Value} {sb rb n B last:Nat} {K:Φ} {Q:Ψ} {cs:List Ch.C} {rs:List Ch.Rc}
theorem SY (l:List Ch.C) (k:Nat) (H:k<l.length) (h:k<(Ch.gT l).length):(Ch.gT l)[k]=(l[k].id,Ch.val l[k]):=gS _
theorem L2 (h:KS w fv sb rb n cs rs last B K Q X) (lo hi:List UInt8) {l:List Ch.C} (hl:(Ch.gT cs).foldl (eN 9223372036854775807 lo hi) []=Ch.gT l) (f:∀c∈l,Ch.One c) (hn:l.length<=100000):
  Calls prog 30 #[ptr sb,cu (bs lo),cu (bs hi)] X fun e X'=>∃g b,e=c8 (ec #[cx (av ⟨g,0,aK⟩) l.length l.length,bf ct 0])/\g<b/\KS w fv sb rb n cs rs last B (LU K g b) (Ic K Q fun Y=>aW Y g 73 (dV.cells l)) X':=by
 have A:=aa h;have T:=aa (show ∀W,KS w fv sb rb n cs rs last B K Q W->Calls prog 19 #[dr (av ⟨sb,0,aK⟩)] W fun e X'=>e=c8 (bf ct 0)/\Below W.heap.size W X' from fun W D=>nJ D);have U:=aa (show ∀W,KS w fv sb rb n cs rs last B K Q W->Calls prog 46 #[dr (av ⟨sb,0,aK⟩)] W fun e X'=>e=c8 (dr (av ⟨W.heap.size,0,aK⟩))/\X'=W.alloc (dg #[dr (av ⟨rb,0,aK⟩),bf ct 0] 214) from fun W D=>mB D.store)
 have q:=aa (show ∀tb W,KT w fv sb rb tb 0 n (two (Ch.gT cs) (Ch.cg rs)) last (qG cs) B K Q W->Calls prog 64 #[dr (av ⟨tb,0,aK⟩),cu (bs lo),cu (bs hi),bf ct 9223372036854775807] W fun e X'=>∃v,e=c8 (ec #[v,bf ct 0])/\qE W.heap.size X' v (Ch.gT l)/\KS w fv sb rb n cs rs last B K Q X' from fun tb W ht=>by
  have:=LV ht lo hi 9223372036854775807;rw[show two (Ch.gT cs) (Ch.cg rs) 0=Ch.gT cs from rfl,hl] at this;exact this)
 have HF:=aa f;have E:(Ch.gT l).length=l.length:=aL _;have r:=fun W=>SR W l.length hn;unfold ptr;clear h f hl;obtain⟨L,u⟩:=ξx l.length;have J:=aa u;have F:=aa hn;rw[<-u] at E r |-;generalize bs lo=LO at*;generalize bs hi=HI at*;go_enter func30,ntmps30;go_wp2_with fail;refine (T.o _ A.o).mono ?_;rintro e v1 ⟨rfl,aT⟩;have G:=aa (A.o.still aT);clear aT A T;go_wp2_with fail;refine (U.o _ G.o).mono ?_;rintro e v2 ⟨rfl,jy⟩;have N:=aa (show KT w fv sb rb v1.heap.size 0 n _ last _ B K Q (v1.alloc (dg #[dr (av ⟨rb,0,aK⟩),bf ct 0] 214)) from G.o.tree ξ);rw[<-jy] at N;clear jy G U;generalize v1.heap.size=tb at*;go_wp2_with fail;refine (q.o _ _ N.o).mono ?_;rintro e w1 ⟨v,rfl,x,h1⟩;have H1:=aa h1;obtain⟨a,cap,rfl,hc⟩:=Own.slice x;rw[E] at x |-;have UQ:=aa (Own.mono x (aA _));obtain⟨Z,I⟩:=ξx ((dV.cells (aV L Ch.c0)).toArray)
 have W5:=aa (show Z2 w1 l (cx a L cap) 0 (w1.alloc (dg Z 73)) from⟨(Below.refl _ w1).alloc (af _) _,by
  have:=aW.new w1 Z 73;rw[AV,<-u];rw[I] at this |-;exact this,Own.alloc UQ.o _⟩)
 simp only[<-I] at r;clear h1 x hc E u N q hn I;go_wp2_with fail;generalize dH w1 _=w2 at*;have zJ:(L:Int)<=100000:=by have:=F.o;have:=J.o;omega
 go_loopw [37] (fun M wr=>∃k:Nat,k<=L/\M=bf ct k/\Hid (Z2 w1 l (cx a L cap) k wr)) (fun M _=>L-(RowKit.intOf M).toNat)
 case atStart=>exact⟨0,aA _,rfl,W5⟩
 case round=>
  clear W5;obtain⟨k,hk,rfl,p⟩:=hrel;by_cases s:k<L
  ·have hI:(k:Int)<L:=κ;have y:=aa s;have HR:=p;have H:k<l.length:=(by rw[<-J.o];exact s);have d:k<(Ch.gT l).length:=(by rw[Ch.iO];exact H);obtain⟨g,cap',hv,_,hg,t⟩:=Own.form p.o.cH κ;injection hv with EB B9 Ti;subst EB Ti;clear B9;have j:bg kF wr g 0 (Ch.gT l):=Own.lies (cap:=cap) (n:=L) p.o.cH;have O:=j.at k 0 ξ d (cu (bs l[k].id)) (by rw[SY l k H d];rfl);have p1:=j.at k 1 ξ d (cu (bs (Ch.val l[k]))) (by rw[SY l k H d];rfl);rw[show kF.size=2 from rfl,bG] at O p1;rw[Nat.add_zero] at O;have VO:=aa (fun W=>zK l[k] (HF.o l[k] (bp H)) W);have HS:=aa (CR l k H);have HC:=aa (show ∃c:Ch.C,c=l[k] from⟨_,rfl⟩);unfold EA at VO;generalize l[k]=c at*;clear j H d t hg p HC;have Z0:=aa (HR.o.later ((Below.refl _ wr).alloc (af _) (dg #[cu (bs c.id),cu (bs (Ch.val c))] 134)));have HV:=aa (fun g' h'=>(Own.block UQ.o g' h').2);go_wp2_with fail;refine (VO.o _).mono ?_;rintro e w3 ⟨rfl,b8⟩;have V:=aa ((Z0.o.later b8).later ((Below.refl _ w3).alloc (af _) (dg #[cu (bs c.id),bf ct c.page,bf ct c.text.length,bf ct c.count] 73)));have F_:=aa (aW.new w3 #[cu (bs c.id),bf ct c.page,bf ct c.text.length,bf ct c.count] 73);clear b8 Z0 O p1;go_upto_if 48 with fail;generalize dH w3 _=w4 at*;generalize w3.heap.size=gb at*;obtain⟨x0,x1,x2,x3,_,_,_,_⟩:=four F_.o;have m:k<(mC l k).length:=(by rw[CQ l k (by rw[<-J.o];exact Nat.le_of_lt y.o),<-J.o];exact y.o);obtain⟨y0,y1,y2,y3⟩:=nK V.o.row k m;have z0:=V.o.row.frozen (k*4);have z1:=V.o.row.frozen (k*4+1);have z2:=V.o.row.frozen (k*4+2);have z3:=V.o.row.frozen (k*4+3);obtain⟨R,S⟩:=SU V.o.row k m c;rw[HS.o] at R;have HE:=aa (show Z2 w1 l (cx (av ⟨g,0,aK⟩) L cap) (k+1) _ from⟨V.o.below.trans (S.below V.o.below.size fun i hi e=>κ),R,Own.but V.o.cH S fun i hi e=>by have:=HV.o i hi;omega⟩);generalize (mC l k)[k]=u0 at*;clear m F_ R S;go_wp2_with fail;go_roundw
   case rel=>exact⟨k+1,y.o,ς,HE⟩
   case measure=>have:=y.o;simp[RowKit.intOf];omega
  ·obtain rfl:k=L:=by omega
   have hI:¬(k:Int)<k:=κ;go_wp2
   go_ret2
   have z:=p.o.row;rw[J.o,AW] at z;have V_:=H1.o.box (P:=fun Y=>aW Y w1.heap.size 73 (dV.cells l)) p.o.below (fun X2 aQ=>z.but aQ fun hn=>hn ⟨af _,z.lt⟩);exact⟨w1.heap.size,rfl,_,z.lt,V_⟩
end
end
end Go.Proofs.YtgfdijemhanfkaaGreatDoor
