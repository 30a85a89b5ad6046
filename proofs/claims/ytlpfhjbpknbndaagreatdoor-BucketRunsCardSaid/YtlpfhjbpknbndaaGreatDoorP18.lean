/- Elder texts, cut down and merged (18). -/
import Derived.Test.YtlpfhjbpknbndaaGreatDoorP17
import Derived.Test.YtlpfhjbpknbndaaGreatDoorP7
import Derived.Test.YtlpfhjbpknbndaaGreatDoorP16
import Derived.Test.YtlpfhjbpknbndaaGreatDoorP2
import Derived.Test.YtlpfhjbpknbndaaGreatDoorP1
import Derived.Sort.OwnSortedInts
import Derived.Test.YtlpfhjbpknbndaaGreatDoorIter
import Derived.Lib.Hide
import Derived.Laws.ResultCell
import Derived.Laws.Rows
import Derived.Lib.AppendStr
import Derived.Lib.Strings
import Derived.Lib.Walk
import Derived.Lib.BufferWrite
import Derived.Lib.UnsafeStr
import Derived.Laws.MakeOwn
import Derived.Test.YtlpfhjbpknbndaaGreatDoorPTk
set_option maxRecDepth 100000
set_option maxHeartbeats 8000000
namespace Go.Proofs.YtlpfhjbpknbndaaGreatDoor
open Option renaming none→av,some→aD
open Value renaming int→bf,string→bR,slice→cx,tuple→gu,bool→eX,agg→iK
open IntKind renaming i64→cu,u64→dg,u8→gx
open Ending renaming returned→eb
open Obj renaming cells→ey
open Or renaming inl→dc,inr→dn
open List renaming mem_cons_self->aE,mem_cons_of_mem->aI,map_append->bQ,map_cons->bM,pairwise_cons->cF,mem_append->aj,length_pos_iff->eL,length_map->aT,getElem?_eq_getElem->aK,drop_eq_getElem_cons->cw,take_append_drop->cP,append_assoc->aF,nodup_append->aR,exists_cons_of_ne_nil->sS,length_append->au,length_singleton->ew,replicate->bB,length_replicate->dZ,append_nil->bA,length_nil->ef,take_left->fX,length_drop->aZ,length_cons->a_,cons_append->gJ,mem_singleton->cQ,mem_filter->dz,mem_cons->aX,filter_sublist->qy,filter_cons->cW,nil_append->dI,map_congr_left->mS,getElem_mem->bI,drop_of_length_le->oO,length_take->aO,take_of_length_le->cg
open Bool renaming and_eq_true->eH,eq_iff_iff->jf,false_eq_true->jo
open Nat renaming succ_ne_zero->dy,le_refl->ah,zero_le->aB,le_trans->aH,min_eq_left->ct
open World renaming size_alloc->aS
open UInt8 renaming lt_iff_toNat_lt->tD,ofNat->bz
open _root_.Array renaming length_toList->bk
section
open Go.RowKit Lib
section
variable {lim:Int} {lo hi:Tr.Tx}
theorem rW:∀{l:Tr.fB},(∀p∈l,hasB lo hi p.1=false)->∀s,l.foldl (fo lim lo hi) s=s
 |[],_,_=>rfl
 |p::l,h,s=>by
  have e:fo lim lo hi s p=s:=by simp_all[fo]
  rw[List.foldl_cons,e];exact rW (fun x H=>h x (aI _ H)) s
theorem qA:∀{l s:Tr.fB},¬(s.length:Int)<lim->l.foldl (fo lim lo hi) s=s
 |[],_,_=>rfl
 |p::l,s,h=>by
  have e:fo lim lo hi s p=s:=by grind [fo]
  rw[List.foldl_cons,e];exact qA h
theorem xd (k:Nat) (p:Tr.Tx×Tr.E (k+1)) (l:List (Tr.Tx×Tr.E (k+1))):Tr.cB (k+1) (p::l)=Tr.cB k (Tr.its p.2)++Tr.cB (k+1) l:=by show (p::l).flatMap (fun p=>Tr.cB k (Tr.its p.2))=_;rw[List.flatMap_cons];rfl
theorem JP {k:Nat} {Y:Tr.Tx} {m:Option Tr.Tx} {c:Tr.E (k+1+1)} (n:Tr.Ok (k+1+1) Y m c) {A B:List (Tr.Tx×Tr.E (k+1))} {kc:Tr.Tx} {c':Tr.E (k+1)} (hc:Tr.its c=A++(kc,c')::B) (z:(!hi.isEmpty&& !Tr.lt kc hi)=true):∀x∈Tr.cB (k+1) ((kc,c')::B),hasB lo hi x.1=false:=by
 rw[eH,Bool.not_eq_true',Bool.not_eq_true'] at z;have g:∀x:Tr.Tx×Tr.Tx,Tr.le kc x.1->hasB lo hi x.1=false:=fun x d=>by have o:Tr.lt x.1 hi=false:=Tr.le_trans (show Tr.le hi kc from z.2) d;unfold hasB;rw[o,z.1];simp
 have h:=n.2.2;rw[hc] at h;have hA:A≠[]:=by
  intro e;have f:=h.1 (kc,c') (by rw[e];rfl);rw[if_neg (dy k)] at f;have f:kc=[]:=f;rw[f] at z;cases hi with
  |nil=>cases z.1
  |cons a l=>cases z.2
 have H:=(iI h).1;rw[bQ,bM] at H;have i:=cF.1 (List.pairwise_append.1 H).2.1;have hs:=Tr.tg (key:=kc) h (Tr.le_refl _) fun b B' e=>i.1 b.1 (List.mem_map.2 ⟨b,by rw[e];exact aE,rfl⟩);have h4:=h.2;rw[Tr.dN,Tr.mC,if_neg (by rw[List.isEmpty_iff];exact hA)] at h4;have j:=Aw h4;have y:=(Tr.td j).low;intro x d;rw[xd] at d;rcases aj.1 d with d|d;·grind
 ·exact g x (Tr.le_of_lt (hs.2 x d))
theorem uk {k:Nat} {v:Tr.E (k+1)->Tr.fB->Tr.fB×Bool}:∀{l:List (Tr.Tx×Tr.E (k+1))},(∀p∈l,∀s,(v p.2 s).1=(Tr.cB k (Tr.its p.2)).foldl (fo lim lo hi) s/\((v p.2 s).2=false->¬((v p.2 s).1.length:Int)<lim))->(∀A p B,l=A++p::B->(!hi.isEmpty&& !Tr.lt p.1 hi)=true->∀x∈Tr.cB (k+1) (p::B),hasB lo hi x.1=false)->∀s,(gj v hi l s).1=(Tr.cB (k+1) l).foldl (fo lim lo hi) s/\((gj v hi l s).2=false->¬((gj v hi l s).1.length:Int)<lim)
 |[],_,_,s=>⟨rfl,fun h=>(by cases h)⟩
 |p::l,hv,hl,s=>by
  unfold gj;by_cases hc:(!hi.isEmpty&& !Tr.lt p.1 hi)=true;·rw[if_pos hc,rW (hl [] p l rfl hc)];exact⟨rfl,fun h=>(by cases h)⟩
  ·rw[if_neg hc];obtain⟨H,c⟩:=hv p aE s;rw[xd,List.foldl_append,<-H];by_cases a:(v p.2 s).2=true;·rw[if_pos a];exact uk (fun x b=>hv x (aI _ b)) (fun A x B e=>hl (p::A) x B (by rw[e];rfl)) _
   ·simp_all[qA]
theorem MZ:∀l:List (Tr.Tx×Tr.E 0),((aq 0 l).map fun i=>((i.key,i.val):Tr.Tx×Tr.Tx))=Tr.cB 0 l
 |[]=>rfl
 |p::l=>congrArg (fun r:Tr.fB=>((p.1,(p.2:Tr.Tx)):Tr.Tx×Tr.Tx)::r) (MZ l)
theorem G7 (k:Nat) (c:Tr.E (k+1+1)) (s:Tr.fB):fS lim lo hi (k+1) c s=(s,decide ((s.length:Int)<lim)):=by unfold fS;rw[if_neg (dy k)]
theorem xe:∀(k:Nat) (c:Tr.E (k+1)) {Y:Tr.Tx} {n:Option Tr.Tx},Tr.Ok (k+1) Y n c->∀s,(visit (fS lim lo hi) lo hi k c s).1=(Tr.cB k (Tr.its c)).foldl (fo lim lo hi) s/\((visit (fS lim lo hi) lo hi k c s).2=false->¬((visit (fS lim lo hi) lo hi k c s).1.length:Int)<lim)
 |0,c,_,_,_,s=>by
  have e:visit (fS lim lo hi) lo hi 0 c s=((Tr.cB 0 (Tr.its c)).foldl (fo lim lo hi) s,decide ((((Tr.cB 0 (Tr.its c)).foldl (fo lim lo hi) s).length:Int)<lim)):=by show fS lim lo hi 0 c s=_;unfold fS;rw[if_pos rfl,MZ]
  rw[e];exact⟨rfl,fun h=>of_decide_eq_false h⟩
 |k+1,c,Y,n,ho,s=>by
  by_cases o:(s.length:Int)<lim
  ·have i:0<(Tr.its c).length:=eL.2 ho.1;have hl:(aq (k+1) (Tr.its c)).length=(Tr.its c).length:=aT _;have S:∀j (h:j<(aq (k+1) (Tr.its c)).length),((aq (k+1) (Tr.its c))[j]).key=((Tr.its c)[j]'(by omega)).1:=fun j h=>by have e:(aq (k+1) (Tr.its c))[j]?=aD ⟨((Tr.its c)[j]'(by omega)).1,ej (k+1) ((Tr.its c)[j]'(by omega)).2,av⟩:=(by grind [aq,aK]);rw[aK h] at e;rw[Option.some.inj e]
   have P:((aq (k+1) (Tr.its c))[0]'(by omega)).key=[]:=(by have q:=ho.2.2.1 ((Tr.its c)[0]) (by rw[List.head?_eq_getElem?,aK i]);rw[if_neg (dy k)] at q;rw[S];exact q);obtain⟨a,v,ha,hle,l⟩:=Fv (wu (by rw[dJ];exact (iI ho.2.2).1)) (by omega) P lo;have hat:a<(Tr.its c).length:=(by omega);have r:visit (fS lim lo hi) lo hi (k+1) c s=gj (visit (fS lim lo hi) lo hi k) hi ((Tr.its c).drop a) s:=(by simp_all[visit,G7]);have w:(Tr.its c).drop a=((Tr.its c)[a].1,(Tr.its c)[a].2)::(Tr.its c).drop (a+1):=cw hat;have H:Tr.its c=(Tr.its c).take a++((Tr.its c)[a].1,(Tr.its c)[a].2)::(Tr.its c).drop (a+1):=(by rw[<-w,cP]);have d:=ho.2.2;rw[H] at d;have hs:=Tr.tg (key:=lo) d (by have:=hle;rw[S] at this;exact this) fun b B' e=>by have t:a+1<(Tr.its c).length:=(by grind);have h3:=l (a+1) (by omega) (by omega);rw[S] at h3;have u:(Tr.its c).drop (a+1)=(Tr.its c)[a+1]::(Tr.its c).drop (a+1+1):=cw t;rw[u] at e;injection e with e4 e5;rw[<-e4];exact h3
   have f:(Tr.cB (k+1) ((Tr.its c).take a)).foldl (fo lim lo hi) s=s:=rW (fun p hp=>by
    unfold hasB;rw[hs.1 p hp];rfl) s
   have g:(Tr.cB (k+1) (Tr.its c)).foldl (fo lim lo hi) s=(Tr.cB (k+1) ((Tr.its c).drop a)).foldl (fo lim lo hi) s:=by
    conv=>lhs;rw[<-cP a (Tr.its c)]
    rw[Tr.bT,List.foldl_append,f]
   rw[r,g];refine uk (fun p hp s=> ?_) (fun A p B e hc=> ?_) s;·obtain⟨L,h',m⟩:=uP ho p (List.mem_of_mem_drop hp);exact xe k p.2 m s
   ·exact JP (A:=(Tr.its c).take a++A) (kc:=p.1) (c':=p.2) ho (by rw[aF];conv=>lhs;rw[<-cP a (Tr.its c),e]) hc
  ·simp_all[fS,C9,qA]
end
section
variable {E:Ev} {X0 X X' w:World} {R0 R R':Nat->Prop} {ps:List (Nat×List UInt8)} {pg:List (Option Wl.Text)} {rt:List Nat} {l:List (Tr.Tx×Tr.Tx)} {pages:List Nat} {lim:Int} {lo hi:Tr.Tx}
structure Xa (E:Ev) (X0:World) (R0:Nat->Prop) (ps:List (Nat×List UInt8)) (pg:List (Option Wl.Text)) (rt:List Nat) (l:Tr.fB) (v:Value) (w':World):Prop where
 row:rU 0 w' v l
 kept:∃R M,TS E X0 R0 R ps pg rt M w'/\∀b,v.ownBlock=aD b->R b/\X0.heap.size<=b
theorem M0 (h:TS E X0 R0 R ps pg rt (fun _=>av) w) (p:iU pg (rt.getD E.place 0) l pages) (D:E.place<16):
  Calls Tryz.prog 58 #[ptr E.tb,bR (bs lo),bR (bs hi),bf cu lim] w fun e w'=>∃v,e=eb (gu #[v,bf cu 0])/\Xa E X0 R0 ps pg rt (l.foldl (fo lim lo hi) []) v w':=by
 refine JK fun W g=> ?_;obtain⟨W1,k⟩:∃W1,W1=w.alloc (ey #[bf cu lim] 3):=⟨_,rfl⟩;rw[<-k] at g;have q:Below w.heap.size w W1:=by rw[k];exact (Below.refl _ w).alloc (ah _) _
 have f:W1.heap.size=w.heap.size+1:=by rw[k,aS]
 have y:aU W1 w.heap.size 3 [bf cu lim]:=by rw[k];exact aU.new w _ _
 obtain⟨W2,s⟩:∃W2,W2=W1.alloc (ey #[cx av 0 0] 95):=⟨_,rfl⟩;rw[<-s] at g;have A:Below W1.heap.size W1 W2:=by rw[s];exact (Below.refl _ W1).alloc (ah _) _
 have r:W2.heap.size=w.heap.size+2:=by rw[s,aS,f]
 have i:aU W2 (w.heap.size+1) 95 [cx av 0 0]:=by rw[s,<-f];exact aU.new W1 _ _
 have B:Below W2.heap.size W2 W:=by rw[g];exact (Below.refl _ W2).alloc (ah _) _
 have Z:aU W (w.heap.size+2) 125 [bR (bs lo),bR (bs hi)]:=by rw[g,<-r];exact aU.new W2 _ _
 have d:Below w.heap.size w W:=(q.trans (A.mono (by omega))).trans (B.mono (by omega));have u:=(y.below A (by omega)).below B (by omega);have N:=i.below B (by omega);have x:=h.but.size;have z:JS E X0 R0 ps pg rt (w.heap.size+1) w.heap.size (w.heap.size+2) lim lo hi [] (fun b=>R b\/b=w.heap.size+1) (fun _=>av) W:=⟨h.still d (fun _ h=>dc h) (fun b d=>d.imp_right fun e=>by rw[e];exact⟨by omega,N.lt⟩),⟨dn rfl,by omega,fun ⟨_,_,e,_⟩=>by cases e⟩,u.cell (j:=0) rfl,Z,⟨by omega,by omega⟩,cx av 0 0,N,Own.nil _ _ _ _,fun b d=>by cases d⟩;refine (MQ (lo:=lo) (hi:=hi) MR z p D (aB _)).mono ?_;rintro e X ⟨rfl,hs⟩;have C:∃R' M',JS E X0 R0 ps pg rt (w.heap.size+1) w.heap.size (w.heap.size+2) lim lo hi (l.foldl (fo lim lo hi) []) R' M' X:=by
  rcases hs with⟨rfl,rfl,R',M',H,-⟩|⟨K,T,rfl,rfl,F,m,G,R',M',H,-⟩;·exact⟨R',M',H⟩
  ·rw[(xe K T m []).1] at H;exact⟨R',M',H⟩
 obtain⟨R',M',H⟩:=C;obtain⟨sv,n,o,t⟩:=H.row;obtain⟨a,c,rfl,hc⟩:=Own.slice o;exact⟨rfl,a,_,c,n.cell (j:=0) rfl,o,R',M',H.ts,fun b d=>⟨(t b d).1,(t b d).2.1⟩⟩
end
section
variable {w X:World} {R:Nat->Prop} {ring g N lb xb rb tb place:Nat} {H:List Wl.Text} {ps:List (Nat×List UInt8)} {pg:List (Option Wl.Text)} {rt:List Nat}
theorem FB (w:World) (rb:Nat) (place:Int):Calls Tryz.prog 50 #[ptr rb,bf cu place] w fun e w'=>e=eb (ptr w.heap.size)/\w'=w.alloc (ey #[ptr rb,bf cu place] 157):=by unfold ptr;go_enter Tryz.func50,Tryz.ntmps50;go_wp2_with fail;go_ret;exact⟨rfl,rfl⟩
theorem M7 (h:jE R ring g N lb xb rb H ps pg rt X) (a:aU X tb 157 [ptr rb,bf cu place]) (hr:R tb):TS ⟨ring,g,N,lb,xb,rb,tb,place,H⟩ X R R ps pg rt (fun _=>av) X:=
 ⟨h,fun _ h=>h,fun _ h=>dc h,aG.refl _ _,a,hr,⟨fun _ _ e=>(by cases e),fun _ _ e=>(by cases e),fun _ _ _ _ e=>(by cases e),fun _ _ e=>(by cases e)⟩,fun _ ⟨_,_,e,_⟩=>(by cases e),h.c.lt,h.rr⟩
end
theorem A3 {pg dh:List (Option Wl.Text)} {pages pages' o:List Nat} (h:Fm pg dh pages pages') (hn:(pages++o).Nodup) (f:∀x∈o,(pg.getD x av).isSome=true) (hp:pages'.Nodup):(∀x∈o,dh.getD x av=pg.getD x av)/\(pages'++o).Nodup:=by
 have H:∀x∈o,x∉pages/\x∉pages':=fun x c=>by have d:x∉pages:=fun hp=>(aR.1 hn).2.2 x hp x c rfl;refine⟨d,fun g=> ?_⟩;have h3:=h.kT x g d;have h4:=f x c;rw[h3] at h4;cases h4
 exact⟨fun x c=>h.same x (H x c).1 (H x c).2,aR.2 ⟨hp,(aR.1 hn).2.1,fun a ha b i e=>(H b i).2 (by rw[<-e];exact ha)⟩⟩
theorem um {pg:List (Option Wl.Text)} {num:Nat} {l:List (Tr.Tx×Tr.Tx)} {pages:List Nat} (h:iU pg num l pages):pages.Nodup:=by
 rcases h with⟨_,_,rfl⟩|⟨_,_,_,_,_,_,_,_,_,_,H⟩;·exact List.nodup_nil
 ·exact H
structure MS (ring g N lb xb rb:Nat) (H:List Wl.Text) (tb place:Nat) (o:List Nat) (R:Nat->Prop) (ps:List (Nat×List UInt8)) (pg:List (Option Wl.Text)) (rt:List Nat) (l:List (Tr.Tx×Tr.Tx)) (pages:List Nat) (X:World):Prop where
 rm:jE R ring g N lb xb rb H ps pg rt X
 tr:aU X tb 157 [ptr rb,bf cu place]
 own:R tb
 FC:place<16
 ok:iU pg (rt.getD place 0) l pages
 nd:(pages++o).Nodup
 tk:∀x∈o,(pg.getD x av).isSome=true
 us:Rm.used pg=pages.length+o.length
structure Mv (R R':Nat->Prop) (ps ps':List (Nat×List UInt8)) (pg dh:List (Option Wl.Text)) (rt rt':List Nat) (place:Nat) (o:List Nat) (X X':World):Prop where
 but:aG (fun k=>¬R k) X X'
 sub:∀k,R k->R' k
 new:∀k,R' k->R k\/X.heap.size<=k
 few:ps'.length<=ps.length+30000
 len:dh.length=pg.length
 same:∀x∈o,dh.getD x av=pg.getD x av
 vw:∃num,rt'=rt.set place num
section
variable {ring g N lb xb rb tb place:Nat} {H:List Wl.Text} {o pages pages':List Nat} {R R':Nat->Prop} {ps ps':List (Nat×List UInt8)} {pg dh:List (Option Wl.Text)} {rt rt':List Nat} {l l':List (Tr.Tx×Tr.Tx)} {X X':World} {key vl:List UInt8}
theorem MS.ts (h:MS ring g N lb xb rb H tb place o R ps pg rt l pages X):TS ⟨ring,g,N,lb,xb,rb,tb,place,H⟩ X R R ps pg rt (fun _=>av) X:=M7 h.rm h.tr h.own
theorem MS.stored {tgt:List (Tr.Tx×Tr.Tx)} {c:Int} (h:MS ring g N lb xb rb H tb place o R ps pg rt l pages X) (s:lD ⟨ring,g,N,lb,xb,rb,tb,place,H⟩ X R ps pg rt tgt pages c X'):c=0/\∃R' ps' dh rt' pages',MS ring g N lb xb rb H tb place o R' ps' dh rt' tgt pages' X'/\Mv R R' ps ps' pg dh rt rt' place o X X':=by
 obtain⟨rfl,R',M',ps',dh,num,pages',a,hl,b,d⟩:=s;obtain⟨e,i⟩:=A3 d h.nd h.tk (um b);have D:place<rt.length:=by rw[h.rm.rep.vw];exact h.FC
 refine⟨rfl,R',ps',dh,rt.set place num,pages',⟨a.rm,a.tree,a.sub _ h.own,h.FC, ?_,i,fun x f=>by rw[e x f];exact h.tk x f, ?_⟩,⟨a.but.mono fun k _ hn j=>hn j,a.sub,a.new,hl,d.len,e,num,rfl⟩⟩;·grind
 ·have h3:=d.used;have h4:=h.us;omega
theorem MS.kept (h:MS ring g N lb xb rb H tb place o R ps pg rt l pages X) (s:uj ⟨ring,g,N,lb,xb,rb,tb,place,H⟩ X R ps pg rt X'):∃R',MS ring g N lb xb rb H tb place o R' ps pg rt l pages X'/\Mv R R' ps ps pg pg rt rt place o X X':=by
 obtain⟨R',M',a⟩:=s;have d:place<rt.length:=by rw[h.rm.rep.vw];exact h.FC
 exact⟨R',⟨a.rm,a.tree,a.sub _ h.own,h.FC,h.ok,h.nd,h.tk,h.us⟩,⟨a.but.mono fun k _ hn b=>hn b,a.sub,a.new,by omega,rfl,fun _ _=>rfl,rt.getD place 0,(gQ rfl d).symm⟩⟩
theorem Te (h:MS ring g N lb xb rb H tb place o R ps pg rt l pages X) (a:key.length<=96) (b:vl.length<=56) (d:ps.length<=60000000):
  Calls Tryz.prog 45 #[ptr tb,bR (bs key),bR (bs vl)] X fun e X'=>(e=eb (bf cu 0)/\∃R' ps' dh rt' pages',MS ring g N lb xb rb H tb place o R' ps' dh rt' (Tr.put l key vl) pages' X'/\Mv R R' ps ps' pg dh rt rt' place o X X')\/
   (e=eb (bf cu 4)/\pg.length<Rm.used pg+20/\∃R',MS ring g N lb xb rb H tb place o R' ps pg rt l pages X'/\Mv R R' ps ps pg pg rt rt place o X X'):=by
 refine (P8 h.ts h.ok a b d h.FC).mono ?_
 rintro e X' ⟨c,rfl,s|⟨rfl,f,s⟩⟩
 ·obtain⟨rfl,hs⟩:=h.stored s;exact dc ⟨rfl,hs⟩
 ·exact dn ⟨rfl,f,h.kept s⟩
theorem FE {l:List (Tr.Tx×Tr.Tx)} (h:Tr.got l key=av):Tr.del l key=l:=by
 unfold Tr.del;refine List.filter_eq_self.2 fun p hp=> ?_;rw[bne_iff_ne];intro e;unfold Tr.got at h;have H:l.find? (fun p=>p.1==key)=none:=by simp_all;omega
 have:=List.find?_eq_none.1 H p hp;exact this (by rw[e];exact beq_self_eq_true key)
theorem Tf (h:MS ring g N lb xb rb H tb place o R ps pg rt l pages X) (b:ps.length<=60000000):
  Calls Tryz.prog 36 #[ptr tb,bR (bs key)] X fun e X'=>e=eb (gu #[eX (Tr.got l key).isSome,bf cu 0])/\∃R' ps' dh rt' pages',MS ring g N lb xb rb H tb place o R' ps' dh rt' (Tr.del l key) pages' X'/\Mv R R' ps ps' pg dh rt rt' place o X X':=by
 refine (Qb h.ts h.ok b h.FC).mono ?_;rintro e X' (⟨rfl,a,s⟩|⟨rfl,a,s⟩);·rw[a,FE a];obtain⟨R',c,h3⟩:=h.kept s;exact⟨rfl,R',ps,pg,rt,pages,c,h3⟩
 ·rw[a];exact⟨rfl,(h.stored s).2⟩
theorem Tg (h:MS ring g N lb xb rb H tb place o R ps pg rt l pages X):
  Calls Tryz.prog 32 #[ptr tb,bR (bs key)] X fun e X'=>e=eb (gu #[bR (bs ((Tr.got l key).getD [])),eX (Tr.got l key).isSome,bf cu 0])/\∃R',MS ring g N lb xb rb H tb place o R' ps pg rt l pages X'/\Mv R R' ps ps pg pg rt rt place o X X':=by
 refine (P_ h.ts h.ok h.FC).mono ?_;rintro e X' ⟨rfl,s⟩;exact⟨rfl,h.kept s⟩
end
theorem M8:∀(k:Nat) (c:Tr.E (k+1)) {lo:Tr.Tx} {h:Option Tr.Tx},Tr.Ok (k+1) lo h c->0<(Tr.cB k (Tr.its c)).length
 |0,c,_,_,ho=>eL.2 ho.1
 |k+1,c,lo,h,ho=>by obtain⟨p,l,hp⟩:=sS ho.1;obtain⟨L,h',H⟩:=uP ho p (by rw[hp];exact aE);have:=M8 k p.2 H;rw[hp,xd,au];omega
theorem JQ {pg:List (Option Wl.Text)} {num:Nat} {l:List (Tr.Tx×Tr.Tx)} {pages:List Nat} (h:iU pg num l pages):pages.length<=2*l.length+16/\(pages.length=0↔l.length=0):=by
 rcases h with⟨_,rfl,rfl⟩|⟨K,T,page,_,hp,d,a,H,rfl,rfl,_⟩;·omega
 ·have b:=Tr.AX (K+1) T;have c:Tr.fy (K+1) T=0:=qw a;have h3:=M8 K T H;have h4:0<(Tr.ck (K+1) T).length:=by rw[Tr.bC,hp,au];show 0<([page]:List Nat).length+_;rw[ew];omega
  refine⟨?_,⟨fun h=>by omega,fun h=>by omega⟩⟩
  match K,T,d,H,b,c,h3,h4 with
  |0,T,_,H,b,c,h3,h4=>
   have e:Tr.cnt 1 T=1:=Tr.C3 T;have f:Tr.cnt (0+1) T=Tr.cnt 1 T:=rfl;omega
  |k+1,T,d,H,b,c,h3,h4=>
   have e:=(Tr.qx k H.1 H.2.2).1;have f:Tr.cnt (k+1+1) T=Tr.cnt (k+2) T:=rfl;have g:1<=(Tr.its T).length:=eL.2 H.1;have i:3*2^k*1<=3*2^k*(Tr.its T).length:=Nat.mul_le_mul_left _ g;omega
section
variable {ring g N lb xb rb tb place:Nat} {H:List Wl.Text} {o pages pages':List Nat} {R R' S:Nat->Prop} {ps ps':List (Nat×List UInt8)} {pg dh:List (Option Wl.Text)} {rt rt':List Nat} {l l':List (Tr.Tx×Tr.Tx)} {X X':World} {key vl:List UInt8} {M:Nat->Option NV}
theorem MS.Xc (h:MS ring g N lb xb rb H tb place o R ps pg rt l pages X) (a:TS ⟨ring,g,N,lb,xb,rb,tb,place,H⟩ X R R' ps pg rt M X'):MS ring g N lb xb rb H tb place o R' ps pg rt l pages X'/\Mv R R' ps ps pg pg rt rt place o X X':=by
 have d:place<rt.length:=by rw[h.rm.rep.vw];exact h.FC
 exact⟨⟨a.rm,a.tree,a.sub _ h.own,h.FC,h.ok,h.nd,h.tk,h.us⟩,⟨a.but.mono fun k _ hn b=>hn b,a.sub,a.new,by omega,rfl,fun _ _=>rfl,rt.getD place 0,(gQ rfl d).symm⟩⟩
theorem Qc (h:MS ring g N lb xb rb H tb place o R ps pg rt l pages X) (lo hi:List UInt8) (lim:Int):
  Calls Tryz.prog 58 #[ptr tb,bR (bs lo),bR (bs hi),bf cu lim] X fun e X'=>∃v,e=eb (gu #[v,bf cu 0])/\rU X.heap.size X' v (l.foldl (fo lim lo hi) [])/\∃R',MS ring g N lb xb rb H tb place o R' ps pg rt l pages X'/\Mv R R' ps ps pg pg rt rt place o X X'/\∀b,v.ownBlock=aD b->R' b:=by
 refine (M0 (lim:=lim) (lo:=lo) (hi:=hi) h.ts h.ok h.FC).mono ?_;rintro e X' ⟨v,rfl,hr⟩;obtain⟨R',M,a,c⟩:=hr.kept;obtain⟨f,i⟩:=h.Xc a;have d:=hr.row;refine⟨v,rfl,⟨d.1,d.2.imp_right ?_⟩,R',f,i,fun b j=>(c b j).1⟩;rintro⟨g,cap,cur,E,m,k⟩;exact⟨g,cap,cur,E,(c g (by rw[E];rfl)).2,k⟩
end
theorem Dh (w:World) (n:Nat) (d:4<=n) (f:n<=4098):
  Calls Tryz.prog 6 #[bf cu n] w fun e w'=>∃g b,e=eb (gu #[ptr g,ptr b])/\Kept (fun x=>x<w.heap.size) 200 w' b g 1 (Wl.dQ n)/\Below w.heap.size w w':=by
 have l:max (n:Int) 4=n:=by omega
 have m:(n:Int)<=4098:=by omega
 obtain⟨z,i⟩:∃z:Nat,z=201+n:=⟨_,rfl⟩;have k:201+(n:Int)=z:=by omega
 have H:=aa (show z=201+n/\4<=n/\n<=4098 from⟨i,d,f⟩);clear i d f;go_enter Tryz.func6,Tryz.ntmps6;go_wp2_with fail;refine (Oi z w (by have:=H.o;omega) (by have:=H.o;omega)).mono ?_;rintro e w1 ⟨g,FD,rfl,u,hF,B⟩;have a:=aa (And.intro u (And.intro hF B));clear u hF B;go_wp2_with fail;refine (Ew (A:=fun x=>x<w.heap.size) (ring:=200) (size:=z) a.o.1 (fun x c hn=>by have:=a.o.2.1 x c;omega) (fun x c=>by have:=a.o.2.2.size;omega) (by decide) (by decide) (by have:=H.o;omega) (by have:=H.o;omega)).mono ?_;rintro e W ⟨b,rfl,h,F⟩
 have j:=aa (show Kept (fun x=>x<w.heap.size) 200 W b g 1 (Wl.dQ n)/\Below w.heap.size w W by
  rw[show z-1-200=n by have:=H.o;omega] at h;exact⟨h,a.o.2.2.trans (UM.below F (fun x c=>c) a.o.2.2.size)⟩)
 clear h F;go_wp2
 go_ret2
 exact⟨g,b,rfl,j.o.1,j.o.2⟩
theorem G8 (X:World) (tb:Nat):
  Calls Tryz.prog 7 #[ptr tb] X fun e X'=>e=eb (ptr X.heap.size)/\X'=X.alloc (ey #[ptr tb] 74):=by
 go_enter Tryz.func7,Tryz.ntmps7;unfold ptr;go_wp2;go_ret;exact⟨rfl,rfl⟩
theorem FF {A:Nat->Prop} {X:World} {ring g N lb tb n:Nat} (h:C1 A ring g N lb tb (Wl.dQ n) [] X) (b:3<=n) (H:n<=4098):
  jE (fun k=>A k\/k=X.heap.size) ring g N lb tb X.heap.size (Wl.dQ n) [] (bB (n-2) av) (bB 16 0) (X.alloc (ey #[ptr tb] 74)):=by
 refine⟨h.ij (aG.aJ ((Below.refl _ X).alloc (ah _) _) (fun _=>False)) (fun _ _ h=>h.elim) (fun k a=>a.imp_right fun e=> ?_),aU.new X #[ptr tb] 74,dn rfl,Rm.Ov n (by omega) H,fun p hp=>(by cases hp),(by rw[dZ];omega)⟩;rw[e,aS];omega
theorem M9 (n:Nat):Rm.used (bB n av)=0:=by
 unfold Rm.used;rw[List.filter_eq_nil_iff.2];·rfl
 ·grind
structure RM (ring g N lb xb rb:Nat) (H:List Wl.Text) (place:Nat) (R:Nat->Prop) (ps:List (Nat×List UInt8)) (pg:List (Option Wl.Text)) (rt:List Nat) (l:List (Tr.Tx×Tr.Tx)) (pages:List Nat) (X:World):Prop where
 rm:jE R ring g N lb xb rb H ps pg rt X
 FC:place<16
 ok:iU pg (rt.getD place 0) l pages
 us:Rm.used pg=pages.length
structure Mw (c:Nat) (R R':Nat->Prop) (ps ps':List (Nat×List UInt8)) (pg dh:List (Option Wl.Text)) (X X':World):Prop where
 but:aG (fun k=>¬R k) X X'
 sub:∀k,R k->R' k
 new:∀k,R' k->R k\/X.heap.size<=k
 few:ps'.length<=ps.length+c
 len:dh.length=pg.length
section
variable {ring g N lb xb rb tb place c d:Nat} {H:List Wl.Text} {pages pages':List Nat} {R R' R'':Nat->Prop} {ps ps' abG:List (Nat×List UInt8)} {pg dh abH:List (Option Wl.Text)} {rt rt':List Nat} {l l':List (Tr.Tx×Tr.Tx)} {X X' gL:World}
theorem RM.tree (h:RM ring g N lb xb rb H place R ps pg rt l pages X):
  MS ring g N lb xb rb H X.heap.size place [] (fun k=>R k\/k=X.heap.size) ps pg rt l pages (X.alloc (ey #[ptr rb,bf cu place] 157))/\
  Mw 0 R (fun k=>R k\/k=X.heap.size) ps ps pg pg X (X.alloc (ey #[ptr rb,bf cu place] 157)):=by
 have b:=(Below.refl X.heap.size X).alloc (ah _) (ey #[ptr rb,bf cu place] 157);have hs:(X.alloc (ey #[ptr rb,bf cu place] 157)).heap.size=X.heap.size+1:=aS _ _;refine⟨⟨h.rm.ij (aG.aJ b (fun _=>False)) (fun _ _ f=>f.elim) id (fun k a=>a.imp_right fun e=> ?_) (dc h.rm.rr),aU.new X #[ptr rb,bf cu place] 157,dn rfl,h.FC,h.ok, ?_,fun x c=>(by cases c), ?_⟩,aG.aJ b _,fun _ a=>dc a,fun k a=>a.imp_right fun e=>by rw[e];exact ah _,by omega,rfl⟩;·rw[e,hs];omega
 ·rw[bA];exact um h.ok
 ·rw[h.us];rfl
theorem MS.room (h:MS ring g N lb xb rb H tb place [] R ps pg rt l pages X):RM ring g N lb xb rb H place R ps pg rt l pages X:=⟨h.rm,h.FC,h.ok,h.us⟩
theorem RM.still (h:RM ring g N lb xb rb H place R ps pg rt l pages X) (a:Below X.heap.size X X'):RM ring g N lb xb rb H place R ps pg rt l pages X':=⟨h.rm.still a,h.FC,h.ok,h.us⟩
end
section
variable {ring g N lb xb rb place:Nat} {H:List Wl.Text} {pages:List Nat} {R R' S:Nat->Prop} {ps:List (Nat×List UInt8)} {pg:List (Option Wl.Text)} {rt:List Nat} {l:List (Tr.Tx×Tr.Tx)} {X X':World}
theorem RM.ij (h:RM ring g N lb xb rb H place R ps pg rt l pages X) (b:aG S X X') (hS:∀k,k<X.heap.size->S k->R k) (hr:¬S rb) (D:∀k,R' k->R k\/(X.heap.size<=k/\k<X'.heap.size)) (a:R' rb):RM ring g N lb xb rb H place R' ps pg rt l pages X':=
 ⟨h.rm.ij b hS hr D a,h.FC,h.ok,h.us⟩
end
structure RH (w:World) (rb place n:Nat) (l:Tr.fB) (B:Nat) (K:Nat->Prop) (Q:World->Prop) (X:World):Prop where
 ms:∃(g b xb:Nat) (R:Nat->Prop) (ps:List (Nat×List UInt8)) (pg:List (Option Wl.Text)) (rt pages:List Nat),RM 200 g 1 b xb rb (Wl.dQ n) place R ps pg rt l pages X/\ps.length<=B/\pg.length=n-2/\
  (∀k,k<w.heap.size\/K k->R k)/\Below w.heap.size w X/\∀X',aG (fun k=>¬K k) X X'->Q X'
section
variable {w X X':World} {rb place n B B' c:Nat} {l l':Tr.fB} {K K':Nat->Prop} {Q Q':World->Prop}
theorem RH.q (h:RH w rb place n l B K Q X):Q X:=by obtain⟨g,b,xb,R,ps,pg,rt,pages,a,c,h3,h4,d,H⟩:=h.ms;exact H X (aG.refl _ _)
theorem RH.below (h:RH w rb place n l B K Q X):Below w.heap.size w X:=by obtain⟨g,b,xb,R,ps,pg,rt,pages,a,c,h3,h4,H,d⟩:=h.ms;exact H
theorem RH.more (h:RH w rb place n l B K Q X) (H:B<=B'):RH w rb place n l B' K Q X:=by obtain⟨g,b,xb,R,ps,pg,rt,pages,a,c,h3⟩:=h.ms;exact⟨g,b,xb,R,ps,pg,rt,pages,a,aH c H,h3⟩
theorem RH.still (h:RH w rb place n l B K Q X) (H:Below X.heap.size X X'):RH w rb place n l B K Q X':=by obtain⟨g,b,xb,R,ps,pg,rt,pages,c,d,h3,h4,a,e⟩:=h.ms;exact⟨g,b,xb,R,ps,pg,rt,pages,c.still H,d,h3,h4,a.trans (H.mono a.size),fun X2 A=>e X2 ((aG.aJ H _).trans A fun _ _ hn=>hn)⟩
theorem RH.hold (h:RH w rb place n l B K Q X) (a:Below X.heap.size X X') (e:∀k,K' k->K k\/(X.heap.size<=k/\k<X'.heap.size)) (i:∀X2,Q X'->aG (fun k=>¬K' k) X' X2->Q' X2):RH w rb place n l B K' Q' X':=by
 obtain⟨g,b,xb,R,ps,pg,rt,pages,c,j,h3,h4,d,m⟩:=h.ms;refine⟨g,b,xb,fun k=>R k\/(X.heap.size<=k/\k<X'.heap.size),ps,pg,rt,pages,c.ij (aG.aJ a (fun _=>False)) (fun _ _ f=>f.elim) id (fun _ H=>H) (dc c.rm.rr),j,h3,fun k H=> ?_,d.trans (a.mono d.size),fun X2 A=>i X2 (m X' (aG.aJ a _)) A⟩;rcases H with H|H;·exact dc (h4 k (dc H))
 ·exact (e k H).imp_left fun H=>h4 k (dn H)
theorem RH.ij {S:Nat->Prop} (h:RH w rb place n l B K Q X) (a:aG S X X') (hS:∀k,S k->K k/\w.heap.size<=k/\k≠rb) (e:∀X2,aG (fun k=>¬K k) X' X2->Q' X2):RH w rb place n l B K Q' X':=by obtain⟨g,b,xb,R,ps,pg,rt,pages,c,f,h3,h4,d,i⟩:=h.ms;exact⟨g,b,xb,R,ps,pg,rt,pages,c.ij a (fun k _ H=>h4 k (dn (hS k H).1)) (fun H=>(hS rb H).2.2 rfl) (fun _ H=>dc H) c.rm.rr,f,h3,h4,d.trans (a.below d.size fun k H hn=>absurd (hS k hn).2.1 (by omega)),e⟩
theorem M_ {A:Nat->Prop} {g b xb:Nat} (h:C1 A 200 g 1 b xb (Wl.dQ n) [] X) (hA:∀k,k<w.heap.size->A k) (H:Below w.heap.size w X) (a:3<=n) (c:n<=4098) (hp:place<16):
  RH w X.heap.size place n [] 0 (fun _=>False) (fun _=>True) (X.alloc (ey #[ptr xb] 74)):=by
 have hr:=FF h a c;refine⟨⟨g,b,xb,_,[],_,_,[],⟨hr,hp,dc ⟨?_,rfl,rfl⟩,M9 _⟩,ah _,dZ,fun k d=>dc (hA k (d.resolve_right id)),H.alloc H.size _,fun _ _=>trivial⟩⟩;grind
end
structure RT (w:World) (rb tb place n:Nat) (l:Tr.fB) (B:Nat) (K:Nat->Prop) (Q:World->Prop) (X:World):Prop where
 ms:∃(g b xb:Nat) (R:Nat->Prop) (ps:List (Nat×List UInt8)) (pg:List (Option Wl.Text)) (rt pages:List Nat),MS 200 g 1 b xb rb (Wl.dQ n) tb place [] R ps pg rt l pages X/\ps.length<=B/\pg.length=n-2/\
  (∀k,k<w.heap.size\/K k->R k)/\Below w.heap.size w X/\∀X',aG (fun k=>¬K k) X X'->Q X'
section
variable {w X X':World} {rb tb place n B B' c:Nat} {l l':Tr.fB} {K:Nat->Prop} {Q Q':World->Prop} {key vl:List UInt8}
theorem RH.tree (h:RH w rb place n l B K Q X):RT w rb X.heap.size place n l B K Q (X.alloc (ey #[ptr rb,bf cu place] 157)):=by obtain⟨g,b,xb,R,ps,pg,rt,pages,c,d,h3,h4,a,e⟩:=h.ms;obtain⟨f,j⟩:=c.tree;exact⟨g,b,xb,_,ps,pg,rt,pages,f,d,h3,fun k H=>dc (h4 k H),a.alloc a.size _,fun X2 A=>e X2 ((j.but.mono fun i _ hn H=>hn (h4 i (dn H))).trans A fun _ _ hn=>hn)⟩
theorem RT.still (h:RT w rb tb place n l B K Q X) (H:Below X.heap.size X X'):RT w rb tb place n l B K Q X':=by obtain⟨g,b,xb,R,ps,pg,rt,pages,a,d,h3,h4,c,e⟩:=h.ms;exact⟨g,b,xb,R,ps,pg,rt,pages,{a with rm:=a.rm.still H,tr:=a.tr.below H a.tr.lt},d,h3,h4,c.trans (H.mono c.size),fun X2 A=>e X2 ((aG.aJ H _).trans A fun _ _ hn=>hn)⟩
theorem uS {R R':Nat->Prop} {ps ps':List (Nat×List UInt8)} {pg dh:List (Option Wl.Text)} {rt rt' pages':List Nat} {g b xb:Nat} (e:ps.length<=B) (h3:pg.length=n-2) (h4:∀k,k<w.heap.size\/K k->R k) (H:Below w.heap.size w X) (c:∀X',aG (fun k=>¬K k) X X'->Q X')
  (d:MS 200 g 1 b xb rb (Wl.dQ n) tb place [] R' ps' dh rt' l' pages' X') (a:Mv R R' ps ps' pg dh rt rt' place [] X X'):RH w rb place n l' (B+30000) K Q X':=
 ⟨g,b,xb,R',ps',dh,rt',pages',d.room,by have:=a.few;omega,by rw[a.len,h3],fun k h=>a.sub k (h4 k h),H.trans (a.but.below H.size fun k h hn=>hn (h4 k (dc h))),fun X2 A=>c X2 ((a.but.mono fun i _ hn h=>hn (h4 i (dn h))).trans A fun _ _ hn=>hn)⟩
theorem Qd (h:RH w rb place n l B K Q X) {k:Nat} (H:k<16):
  Calls Tryz.prog 47 #[ptr rb,bf cu k] X fun e X'=>∃m:Nat,e=eb (gu #[bf dg m,bf cu 0])/\RH w rb place n l B K Q X':=by
 obtain⟨g,b,xb,R,ps,pg,rt,pages,a,_⟩:=h.ms;refine (o_ a.rm k H).mono ?_;rintro e X' ⟨rfl,c⟩;exact⟨_,rfl,h.still c⟩
theorem Na (h:RT w rb tb place n l B K Q X):
  Calls Tryz.prog 32 #[ptr tb,bR (bs key)] X fun e X'=>e=eb (gu #[bR (bs ((Tr.got l key).getD [])),eX (Tr.got l key).isSome,bf cu 0])/\RH w rb place n l (B+30000) K Q X':=by
 obtain⟨g,b,xb,R,ps,pg,rt,pages,H,a,h3,h4,c,d⟩:=h.ms;refine (Tg H).mono ?_;rintro e X' ⟨rfl,R',k,f⟩;exact⟨rfl,uS a h3 h4 c d k f⟩
theorem Th (h:RT w rb tb place n l B K Q X) (c:key.length<=96) (d:vl.length<=56) (m:B<=60000000) (hn:2*l.length+38<=n):
  Calls Tryz.prog 45 #[ptr tb,bR (bs key),bR (bs vl)] X fun e X'=>e=eb (bf cu 0)/\RH w rb place n (Tr.put l key vl) (B+30000) K Q X':=by
 obtain⟨g,b,xb,R,ps,pg,rt,pages,H,f,h3,h4,i,j⟩:=h.ms;refine (Te H c d (by omega)).mono ?_;rintro e X' (⟨rfl,R',ps',dh,rt',pages',k,a⟩|⟨rfl,k0,R',k,a⟩);·exact⟨rfl,uS f h3 h4 i j k a⟩
 ·have hu:=H.us;have hp:=(JQ H.ok).1;simp only[ef] at hu;omega
theorem Ti (h:RT w rb tb place n l B K Q X) (i:B<=60000000):
  Calls Tryz.prog 36 #[ptr tb,bR (bs key)] X fun e X'=>e=eb (gu #[eX (Tr.got l key).isSome,bf cu 0])/\RH w rb place n (Tr.del l key) (B+30000) K Q X':=by
 obtain⟨g,b,xb,R,ps,pg,rt,pages,H,a,h3,h4,c,d⟩:=h.ms;refine (Tf H (by omega)).mono ?_;rintro e X' ⟨rfl,R',ps',dh,rt',pages',k,f⟩;exact⟨rfl,uS a h3 h4 c d k f⟩
theorem Qe (h:RT w rb tb place n l B K Q X) (lo hi:List UInt8) (lim:Int):
  Calls Tryz.prog 58 #[ptr tb,bR (bs lo),bR (bs hi),bf cu lim] X fun e X'=>∃v,e=eb (gu #[v,bf cu 0])/\rU X.heap.size X' v (l.foldl (fo lim lo hi) [])/\RH w rb place n l (B+30000) K Q X':=by
 obtain⟨g,b,xb,R,ps,pg,rt,pages,H,a,h3,h4,c,d⟩:=h.ms;refine (Qc H lo hi lim).mono ?_;rintro e X' ⟨v,rfl,f,R',k,i,_⟩;exact⟨v,rfl,f,uS a h3 h4 c d k i⟩
def Kx (K:Nat->Prop) (a b:Nat):Nat->Prop:=fun k=>K k\/(a<=k/\k<b)
def Qx (K:Nat->Prop) (Q P:World->Prop):World->Prop:=fun X=>(∀X',aG (fun k=>¬K k) X X'->Q X')/\P X
theorem RH.T9 (h:RH w rb place n l B K Q X):rb<X.heap.size/\(∀k,K k->k<X.heap.size)/\w.heap.size<=X.heap.size:=by obtain⟨g,b,xb,R,ps,pg,rt,pages,H,e,h3,h4,a,f⟩:=h.ms;exact⟨H.rm.blk.lt,fun k d=>H.rm.c.lt k (h4 k (dn d)),a.size⟩
theorem RH.box {P:World->Prop} (h:RH w rb place n l B K Q X) (a:Below X.heap.size X X') (e:∀X2,aG (fun k=>¬(X.heap.size<=k/\k<X'.heap.size)) X' X2->P X2):RH w rb place n l B (Kx K X.heap.size X'.heap.size) (Qx K Q P) X':=by
 obtain⟨g,b,xb,R,ps,pg,rt,pages,c,i,h3,h4,d,j⟩:=h.ms;refine⟨g,b,xb,fun k=>R k\/(X.heap.size<=k/\k<X'.heap.size),ps,pg,rt,pages,c.ij (aG.aJ a (fun _=>False)) (fun _ _ f=>f.elim) id (fun _ H=>H) (dc c.rm.rr),i,h3,fun k H=> ?_,d.trans (a.mono d.size),fun X2 A=>⟨fun X3 m=>j X3 (((aG.aJ a (fun k=>¬K k)).trans A fun _ _ hn H=>hn (dc H)).trans m fun _ _ hn=>hn),e X2 (A.mono fun _ _ hn H=>hn (dn H))⟩⟩;rcases H with H|H|H;·exact dc (h4 k (dc H))
 ·exact dc (h4 k (dn H))
 ·exact dn H
theorem RH.unbox {P:World->Prop} {a b:Nat} (h:RH w rb place n l B (Kx K a b) (Qx K Q P) X):RH w rb place n l B K Q X:=by obtain⟨g,b,xb,R,ps,pg,rt,pages,H,c,h3,h4,d,e⟩:=h.ms;exact⟨g,b,xb,R,ps,pg,rt,pages,H,c,h3,fun k f=>h4 k (f.imp_right dc),d,(e X (aG.refl _ _)).1⟩
theorem RH.store {P P':World->Prop} {a b m:Nat} (h:RH w rb place n l B (Kx K a b) (Qx K Q P) X) (c:aG (fun k=>k=m) X X') (d:a<=m/\m<b) (ha:rb<a/\(∀k,K k->k<a)/\w.heap.size<=a) (e:∀X2,aG (fun k=>¬(a<=k/\k<b)) X' X2->P' X2):RH w rb place n l B (Kx K a b) (Qx K Q P') X':=by obtain⟨_,_,_,_,_,_,_,_,_,_,_,_,_,f⟩:=h.ms;refine h.ij c (fun k H=>⟨dn (by rw[H];exact d),by omega,by omega⟩) fun X2 A=>⟨fun X3 g=> ?_,e X2 (A.mono fun _ _ hn H=>hn (dn H))⟩;refine (f X (aG.refl _ _)).1 X3 (((c.mono fun k _ H i=> ?_).trans A fun _ _ hn H=>hn (dc H)).trans g fun _ _ hn=>hn);have:=ha.2.1 k i;omega
theorem RH.boxed (h:RH w rb place n l B K Q X) (cs:Array Value) (t:TypeId):∃(a:Nat->Prop) (q:World->Prop),RH w rb place n l B a q (X.alloc (ey cs t))/\
  (∀l' B' Y y,RH w rb place n l' B' a q Y->aG (fun k=>k=X.heap.size) Y y->RH w rb place n l' B' K Q y)/\∀Y,q Y->aU Y X.heap.size t cs.toList:=by
 have hs:(X.alloc (ey cs t)).heap.size=X.heap.size+1:=aS _ _;have hl:=h.T9;refine⟨_,_,h.box (P:=fun Y=>aU Y X.heap.size t cs.toList) ((Below.refl _ X).alloc (ah _) (ey cs t)) fun X2 A=>(aU.new X cs t).but A fun hn=>hn ⟨ah _,by omega⟩,fun l' B' Y y H b=> ?_,fun Y H=>H.2⟩;exact (H.store (P':=fun _=>True) b ⟨ah _,by omega⟩ hl fun _ _=>trivial).unbox
end
end
namespace Pk
open Wl (enc dec cE qM mU)
abbrev Text:=List UInt8
def lt:Text->Text->Bool
 |_,[]=>false
 |[],_::_=>true
 |a::x,b::y=>a<b||(a==b&&lt x y)
def width (c:UInt8):Nat:=if c=110 then 8 else if c=104 then 4 else if c=98 then 1 else 0
theorem rX (c:UInt8):width c<=8:=by unfold width;split<;>(try split)<;>(try split)<;>omega
def letter (c:UInt8) (last:Bool):Bool:=decide (width c≠0)||decide (c=116)||(decide (c=114)&&last)
def right:Text->Bool
 |[]=>true
 |c::r=>letter c r.isEmpty&&right r
structure Fd where
 n:Nat
 s:Text
deriving DecidableEq
instance:Inhabited Fd:=⟨⟨0,[]⟩⟩
def ff (c:UInt8) (f:Fd):Option Text:=
 if width c≠0 then (if f.s=[]/\f.n<256^width c then aD (enc (width c) f.n) else av)
 else if f.n≠0 then av
 else if c=114 then aD f.s
 else if f.s.length>65535 then av else aD (enc 2 f.s.length++f.s)
def Di:Text->Text->List Fd->Option Text
 |acc,[],[]=>aD acc
 |acc,c::k,f::l=>match ff c f with
  |none=>av
  |some a=>Di (acc++a) k l
 |_,_,_=>av
def write (k:Text) (l:List Fd):Option Text:=if right k=true/\k.length=l.length then Di [] k l else av
def dw (c:UInt8) (s:Text):Option (Fd×Text):=
 if c=114 then aD (⟨0,s⟩,[])
 else if c=116 then (if s.length<2 then av else if (s.drop 2).length<dec (s.take 2) then av else aD (⟨0,(s.drop 2).take (dec (s.take 2))⟩,(s.drop 2).drop (dec (s.take 2))))
 else if s.length<width c then av else aD (⟨dec (s.take (width c)),[]⟩,s.drop (width c))
def Bu:List Fd->Text->Text->Option (List Fd)
 |acc,[],s=>if s=[] then aD acc else av
 |acc,c::k,s=>match dw c s with
  |none=>av
  |some (f,s')=>Bu (acc++[f]) k s'
def read (k s:Text):Option (List Fd):=if right k=true then Bu [] k s else av
theorem rY {c:UInt8} {b:Bool} (h:letter c b=true):(width c≠0/\c≠114/\c≠116)\/(c=116/\width c=0)\/(c=114/\width c=0/\b=true):=by
 unfold letter at h;simp only[Bool.or_eq_true,decide_eq_true_eq,eH] at h;rcases h with (h|rfl)|⟨rfl,h⟩;·refine dc ⟨h, ?_, ?_⟩<;>(rintro rfl;exact h (by decide))
 ·exact dn (dc ⟨rfl,by decide⟩)
 ·exact dn (dn ⟨rfl,by decide,h⟩)
theorem yy {c:UInt8} {b:Bool} {f:Fd} {a t:Text} (hc:letter c b=true) (e:b=true->t=[]) (h:ff c f=aD a):dw c (a++t)=aD (f,t):=by
 obtain⟨n,s⟩:=f;rcases rY hc with⟨H,d,g⟩|⟨rfl,H⟩|⟨rfl,H,d⟩
 ·unfold ff at h;rw[if_pos H] at h
  split at h
  ·next h3=>
   obtain⟨h3,h4⟩:=h3;simp only at h3 h4;subst h3;injection h with h;subst h;unfold dw;rw[if_neg d,if_neg g,if_neg (by rw[au,cE];omega),List.take_left' (cE _ _),List.drop_left' (cE _ _),qM _ _ h4]
  ·cases h
 ·unfold ff at h;rw[if_neg (by omega)] at h
  split at h
  ·cases h
  ·next h3=>
   rw[if_neg (by decide)] at h
   split at h
   ·cases h
   ·next h4=>
    injection h with h;subst h;have hn:n=0:=(by simpa using h3);subst hn;unfold dw;have hd:dec (enc 2 s.length)=s.length:=qM 2 _ (by simp only at h4;omega);rw[if_neg (by decide),if_pos rfl,if_neg (by rw[au,au,cE];omega),aF,List.take_left' (cE _ _),List.drop_left' (cE _ _)];simp only[hd];rw[if_neg (by rw[au];omega),fX,List.drop_left]
 ·unfold ff at h;rw[if_neg (by omega)] at h
  split at h
  ·cases h
  ·next h3=>
   rw[if_pos rfl] at h;injection h with h;subst h;have hn:n=0:=(by simpa using h3);subst hn;unfold dw;rw[if_pos rfl,e d,bA]
theorem G9:∀(k:Text) (l:List Fd) (acc t:Text),right k=true->Di acc k l=aD t->∃b,t=acc++b/\∀A,Bu A k b=aD (A++l)
 |[],[],acc,t,_,h=>by simp only[Di,Option.some.injEq] at h;subst h;exact⟨[],by simp,fun A=>by simp[Bu]⟩
 |[],_::_,_,_,_,h=>by simp[Di] at h
 |_::_,[],_,_,_,h=>by simp[Di] at h
 |c::k,f::l,acc,t,hr,h=>by
  simp only[right,eH] at hr;rw[Di] at h
  split at h
  ·cases h
  ·next a ha=>
   obtain⟨b,rfl,d⟩:=G9 k l (acc++a) t hr.2 h;refine⟨a++b,by rw[aF],fun A=> ?_⟩;rw[Bu,yy hr.1 (fun e=> ?_) ha];·simp only;rw[d,aF];rfl
   ·have H:k=[]:=(by simpa using e);subst H;cases l with
    |nil=>simp only[Di,Option.some.injEq] at h;exact List.append_cancel_left (by rw[<-h,bA])
    |cons _ _=>simp[Di] at h
theorem G_:∀(k:Text) (acc l:List Fd) (s:Text),Bu acc k s=aD l->∃m,l=acc++m/\m.length=k.length
 |[],acc,l,s,h=>by
  simp only[Bu] at h
  split at h
  ·injection h with h;exact⟨[],by simp[h],rfl⟩
  ·cases h
 |c::k,acc,l,s,h=>by
  rw[Bu] at h
  split at h
  ·cases h
  ·obtain⟨m,rfl,H⟩:=G_ k _ l _ h;exact⟨_::m,by rw[aF];rfl,by simp[H]⟩
theorem He:∀(k:Text) (acc l:List Fd) (s:Text),right k=true->Bu acc k s=aD l->k.length<=s.length+1
 |[],_,_,_,_,_=>by simp
 |c::k,acc,l,s,hr,h=>by
  simp only[right,eH] at hr;rw[Bu] at h
  split at h
  ·cases h
  ·next f s' hf=>
   have i:=He k _ l s' hr.2 h;have hl:(c=114/\k=[])\/s'.length+1<=s.length:=by
    rcases rY hr.1 with⟨a,H,b⟩|⟨rfl,a⟩|⟨rfl,a,H⟩
    ·right;unfold dw at hf;rw[if_neg H,if_neg b] at hf
     split at hf
     ·cases hf
     ·injection hf with hf;injection hf with e1 e2;subst e2;rw[aZ];omega
    ·right;unfold dw at hf;rw[if_neg (by decide),if_pos rfl] at hf
     split at hf
     ·cases hf
     ·split at hf
      ·cases hf
      ·injection hf with hf;injection hf with e1 e2;subst e2;rw[aZ,aZ];omega
    ·exact dc ⟨rfl,by simpa using H⟩
   rcases hl with⟨_,rfl⟩|hl;·simp
   ·simp only[a_];omega
theorem FG {k:Text} {l:List Fd} {t:Text} (h:write k l=aD t):read k t=aD l:=by
 unfold write at h
 split at h
 ·next hr=>
  obtain⟨b,rfl,H⟩:=G9 k l [] t hr.1 h;unfold read;rw[if_pos hr.1];simpa using H []
 ·cases h
theorem Nb {k s:Text} {l:List Fd} (h:read k s=aD l):k.length<=s.length+1/\l.length=k.length:=by
 unfold read at h
 split at h
 ·next hr=>
  refine⟨He k [] l s hr h, ?_⟩;obtain⟨m,rfl,H⟩:=G_ k [] l s h;simpa using H
 ·cases h
def cut:Text->Option (Text×Text)
 |[]=>av
 |c::r=>if c=0 then aD ([],r) else match cut r with
  |none=>av
  |some (x,y)=>aD (c::x,y)
theorem oN:∀(s:Text),cut s=av↔(0:UInt8)∉s
 |[]=>by simp[cut]
 |c::r=>by
  have i:=oN r;rw[cut];by_cases hc:c=0;·rw[if_pos hc];simp[hc]
  ·rw[if_neg hc];have y:¬(0:UInt8)=c:=fun e=>hc e.symm;cases h:cut r with
   |none=>simp[y,i.1 h]
   |some p=>
    have:(0:UInt8)∈r:=(by apply Classical.byContradiction;intro hn;rw[i.2 hn] at h;cases h);simp[this]
theorem FH:∀(s:Text) (k:Nat),(0:UInt8)∉s.take k->k<s.length->s[k]?=aD 0->cut s=aD (s.take k,s.drop (k+1))
 |[],_,_,h,_=>by simp at h
 |c::r,0,_,_,h=>by
  have hc:c=0:=by simpa using h
  rw[cut,if_pos hc];rfl
 |c::r,k+1,h,hk,h0=>by rw[List.take_succ_cons] at h |-;have hc:¬c=0:=fun e=>h (by rw[e];exact aE ..);rw[cut,if_neg hc,FH r k (fun H=>h (aI _ H)) (by simpa using hk) (by simpa using h0)];rfl
theorem Nc (a r:Text) (h:(0:UInt8)∉a):cut (a++[0]++r)=aD (a,r):=by have:=FH (a++[0]++r) a.length (by rw[aF,fX];exact h) (by simp) (by simp);rw[this,aF,fX];congr 2;rw[<-aF,List.drop_left' (by simp)]
theorem Hf:∀(a b x y:Text),(0:UInt8)∉a->(0:UInt8)∉b->a≠b->lt (a++[0]++x) (b++[0]++y)=lt a b
 |[],[],_,_,_,_,h=>absurd rfl h
 |[],d::b,x,y,_,hb,_=>by
  have hd:(0:UInt8)<d:=by have:¬(0:UInt8)=d:=fun e=>hb (by rw[e];exact aE ..);rw[tD];have f:¬d.toNat=0:=fun e=>this (UInt8.toNat.inj e.symm);exact Nat.pos_of_ne_zero f
  simp[lt,hd]
 |c::a,[],x,y,ha,_,_=>by
  have hd:(0:UInt8)<c:=by have:¬(0:UInt8)=c:=fun e=>ha (by rw[e];exact aE ..);rw[tD];have f:¬c.toNat=0:=fun e=>this (UInt8.toNat.inj e.symm);exact Nat.pos_of_ne_zero f
  have g:¬c<0:=by rw[tD] at hd |-;omega
  have j:¬c=0:=fun e=>by rw[e] at hd;exact UInt8.lt_irrefl _ hd
  simp[lt,g,j]
 |c::a,d::b,x,y,ha,hb,h=>by
  simp only[gJ,lt];by_cases H:c=d;·subst H;rw[Hf a b x y (fun i=>ha (aI _ i)) (fun i=>hb (aI _ i)) (fun e=>h (by rw[e]))]
  ·have g:(c==d)=false:=(by simpa using H);rw[g];simp
end Pk
namespace Nm
open Pk
open Wl (enc dec cE qM)
def letter (c:UInt8):Bool:=(decide (97<=c)&&decide (c<=122))||(decide (48<=c)&&decide (c<=57))||c==45
def bucket (s:Text):Bool:=decide (3<=s.length)&&decide (s.length<=16)&&s.head? !=aD 45&&s.getLast? !=aD 45&&s.all letter
def item (s:Text):Bool:=decide (1<=s.length)&&decide (s.length<=40)&& !s.contains 0
def under (kind:UInt8) (parts:List Text):Text:=if parts.any (·.contains 0) then [] else kind::parts.flatMap (· ++[0])
def read (kind:UInt8) (s:Text):Option (Text×Text×Text):=
 match s with
 |[]=>av
 |c::r=>if c≠kind then av else match cut r with
  |none=>av
  |some (b,r1)=>match cut r1 with
   |none=>av
   |some (i,t)=>if bucket b&&item i&&decide (t.length=8) then aD (b,i,t) else av
theorem JR {c:UInt8} (h:letter c=true):c≠0:=by rintro rfl;revert h;decide
theorem eS {s:Text} (h:bucket s=true):(0:UInt8)∉s:=by unfold bucket at h;simp only[eH,List.all_eq_true] at h;exact fun H=>JR (h.2 0 H) rfl
theorem qB {s:Text} (h:bucket s=true):3<=s.length/\s.length<=16:=by unfold bucket at h;simp only[eH,decide_eq_true_eq] at h;exact h.1.1.1
def A4:Text->Text
 |[]=>[]
 |c::r=>if c<255 then (c+1)::r else A4 r
def behind (s:Text):Text:=(A4 s.reverse).reverse
theorem Dj (s:Text) (c:UInt8):behind (s++[c])=if c<255 then s++[c+1] else behind s:=by
 unfold behind;rw[List.reverse_append,List.reverse_singleton,List.singleton_append];show (if c<255 then (c+1)::s.reverse else A4 s.reverse).reverse=_
 split
 ·rw[List.reverse_cons,List.reverse_reverse]
 ·rfl
theorem Nf (a:Text):a.contains 0=true↔(0:UInt8)∈a:=by rw[List.contains_eq_mem,decide_eq_true_eq]
theorem xf {kind:UInt8} {parts:List Text} (h:∀p∈parts,(0:UInt8)∉p):under kind parts=kind::parts.flatMap (· ++[0]):=by unfold under;rw[if_neg];intro ha;obtain⟨p,hp,H⟩:=List.any_eq_true.1 ha;exact h p hp ((Nf p).1 H)
end Nm
namespace Bk
open Tr (lt put del got fB cA)
abbrev Text:=List UInt8
structure B where
 name:Text
 state:Int
 born:Nat
 on:Bool
 pre:Text
 after:Nat
deriving DecidableEq
theorem Ng:∀a b:Text,Pk.lt a b=lt a b
 |[],[]=>rfl
 |_::_,[]=>rfl
 |[],_::_=>rfl
 |a::x,b::y=>by
  show (decide (a<b)||(a==b&&Pk.lt x y))=(decide (a<b)||(a==b&&lt x y));rw[Ng x y]
def key (n:Text):Text:=98::(n++[0])
theorem JT {n:Text} (h:(0:UInt8)∉n):Nm.under 98 [n]=key n:=by rw[Nm.xf (by intro p hp;rw[cQ.1 hp];exact h)];simp[key]
theorem key_inj {a b:Text} (h:key a=key b):a=b:=by unfold key at h;injection h with _ h;exact List.append_cancel_right h
theorem Nh {a b:Text} (ha:(0:UInt8)∉a) (H:(0:UInt8)∉b):lt (key a) (key b)=lt a b:=by
 by_cases e:a=b;·subst e;rw[Tr.lt_irrefl,Tr.lt_irrefl]
 ·have h:=Pk.Hf a b [] [] ha H e;rw[bA,bA,Ng,Ng] at h;rw[<-h];unfold key;show (decide ((98:UInt8)<98)||((98:UInt8)==98&&lt (a++[0]) (b++[0])))=_;simp
def qC (rec:B->Text) (l:List B):fB:=l.map fun b=>(key b.name,rec b)
def Good (l:List B):Prop:=(∀b∈l,(0:UInt8)∉b.name)/\l.Pairwise fun a b=>lt a.name b.name=true
def find (l:List B) (n:Text):Option B:=l.find? fun b=>b.name==n
def ins (l:List B) (b:B):List B:=l.filter (fun x=>lt x.name b.name)++b::l.filter (fun x=>lt b.name x.name)
def drop (l:List B) (n:Text):List B:=l.filter fun b=>b.name !=n
def upd (l:List B) (n:Text) (f:B->B):List B:=l.map fun b=>if b.name=n then f b else b
variable {rec:B->Text} {l:List B} {n k:Text}
theorem Good.nil:Good []:=⟨fun _ h=>absurd h List.not_mem_nil,List.Pairwise.nil⟩
theorem Hg (_:(0:UInt8)∉n):got (qC rec l) (key n)=(find l n).map rec:=by
 unfold got qC find;rw[List.find?_map];have:((fun p:Text×Text=>p.1==key n)∘fun b:B=>(key b.name,rec b))=fun b:B=>b.name==n:=by funext b;show (key b.name==key n)=_;rw[jf,beq_iff_eq,beq_iff_eq];exact⟨key_inj,fun e=>by rw[e]⟩
 rw[this,Option.map_map];rfl
theorem qD (f:Text×Text->Bool) (g:B->Bool) (h:∀b∈l,f (key b.name,rec b)=g b):(qC rec l).filter f=qC rec (l.filter g):=by unfold qC;rw[List.filter_map];congr 1;exact List.filter_congr fun b H=>h b H
theorem Qf (hg:Good l) (b:B) (H:(0:UInt8)∉b.name):put (qC rec l) (key b.name) (rec b)=qC rec (ins l b):=by unfold put ins;rw[qD _ (fun x=>lt x.name b.name) fun x h=>Nh (hg.1 x h) H,qD _ (fun x=>lt b.name x.name) fun x h=>Nh H (hg.1 x h)];simp[qC]
theorem Qg (n:Text):del (qC rec l) (key n)=qC rec (drop l n):=by unfold del drop;refine qD _ _ fun b _=> ?_;rw[jf,bne_iff_ne,bne_iff_ne];exact⟨fun h e=>h (by show key b.name=_;rw[e]),fun h e=>h (key_inj e)⟩
theorem Good.ins (hg:Good l) (b:B) (a:(0:UInt8)∉b.name):Good (ins l b):=by
 refine⟨fun x h=> ?_, ?_⟩
 ·rcases aj.1 h with h|h;·exact hg.1 x (dz.1 h).1
  ·rcases aX.1 h with rfl|h;·exact a
   ·exact hg.1 x (dz.1 h).1
 ·refine List.pairwise_append.2 ⟨hg.2.sublist qy,cF.2 ⟨fun x h=>(dz.1 h).2,hg.2.sublist qy⟩,fun x h y hy=> ?_⟩;have H:=(dz.1 h).2;rcases aX.1 hy with rfl|hy;·exact H
  ·exact Tr.lt_trans H (dz.1 hy).2
theorem Good.drop (hg:Good l) (n:Text):Good (drop l n):=⟨fun x h=>hg.1 x (dz.1 h).1,hg.2.sublist qy⟩
theorem mL {b:B} (h:find l n=aD b):b∈l/\b.name=n:=by unfold find at h;exact⟨List.mem_of_find?_eq_some h,by simpa using List.find?_some h⟩
theorem zG (h:find l n=av):∀b∈l,b.name≠n:=by unfold find at h;intro b H e;have:=List.find?_eq_none.1 h b H;rw[e] at this;simp at this
theorem A5 {b:B} (hg:Good l) (f:b∈l):find l b.name=aD b:=by
 cases h:find l b.name with
 |none=>exact absurd rfl (zG h b f)
 |some c=>
  obtain⟨hc,e⟩:=mL h;have g:∀x∈l,∀y∈l,x.name=y.name->x=y:=by
   have hp:=hg.2;clear f hc h hg;induction l with
   |nil=>intro x i;cases i
   |cons a t I=>
    obtain⟨j,m⟩:=cF.1 hp;intro x i y hy e;rcases aX.1 i with E|H<;>rcases aX.1 hy with k|d;·rw[E,k]
    ·have:=j y d;rw[<-E,e,Tr.lt_irrefl] at this;cases this
    ·have:=j x H;rw[<-k,<-e,Tr.lt_irrefl] at this;cases this
    ·exact I m x H y d e
  rw[g c hc b f e]
theorem zH {b:B} (hg:Good l) (h:(find l b.name).isSome=true):ins l b=upd l b.name fun _=>b:=by
 unfold ins upd;have hp:=hg.2;clear hg;induction l with
 |nil=>cases h
 |cons a t i=>
  obtain⟨j,k⟩:=cF.1 hp;rw[cW,cW,bM];by_cases e:a.name=b.name
  ·rw[if_pos e,e,Tr.lt_irrefl];have ha:∀x∈t,lt b.name x.name=true:=fun x H=>by rw[<-e];exact j x H
   rw[List.filter_eq_nil_iff.2 fun x H=>by rw[Tr.lt_asymm (ha x H)];decide,List.filter_eq_self.2 ha];rw[if_neg (by decide),if_neg (by decide),dI];congr 1;refine (mS fun x H=> ?_).trans (List.map_id t)|>.symm
   rw[if_neg fun E=>by have:=ha x H;rw[E,Tr.lt_irrefl] at this;cases this];rfl
  ·have hf:(find t b.name).isSome=true:=(by unfold find at h |-;rw[List.find?_cons_of_neg (by simpa using e)] at h;exact h);have i:=i hf k;obtain⟨c,hc⟩:=Option.isSome_iff_exists.1 hf;obtain⟨f,g⟩:=mL hc;have d:lt a.name b.name=true:=(by rw[<-g];exact j c f);rw[if_neg e,d,if_pos rfl,Tr.lt_asymm d,if_neg (by decide),gJ,i]
theorem Ni {b:B}:find (ins l b) n=if n=b.name then aD b else find l n:=by
 unfold ins find;rw[List.find?_append,List.find?_cons];by_cases e:n=b.name
 ·subst e;rw[if_pos rfl,beq_self_eq_true];rw[List.find?_eq_none.2 fun x H=> ?_];·rfl
  ·have:=(dz.1 H).2;simp only[beq_iff_eq];intro i;rw[i,Tr.lt_irrefl] at this;cases this
 ·rw[if_neg e,show (b.name==n)=false by rw[beq_eq_false_iff_ne];exact fun h=>e h.symm];simp only;have a:∀g:B->Bool,(∀x:B,x.name=n->g x=true)->(l.filter g).find? (fun x=>x.name==n)=l.find? fun x=>x.name==n:=fun g hg=>by
   rw[List.find?_filter];congr 1;funext x;by_cases E:x.name=n;·rw[hg x E,E];simp
   ·simp[E]
  have c:∀g:B->Bool,(∀x:B,x.name=n->g x=false)->(l.filter g).find? (fun x=>x.name==n)=none:=fun g hg=>List.find?_eq_none.2 fun x H=>by simp only[beq_iff_eq];intro E;have:=(dz.1 H).2;rw[hg x E] at this;cases this
  cases d:lt n b.name with
  |true=>rw[a _ fun x H=>by rw[H];exact d,c (fun x=>lt b.name x.name) fun x H=>by rw[H];exact Tr.lt_asymm d];simp
  |false=>
   cases f:lt b.name n with
   |true=>rw[c (fun x=>lt x.name b.name) fun x H=>by rw[H];exact d,a _ fun x H=>by rw[H];exact f];simp
   |false=>exact absurd (Tr.j7 _ _ d f) e
theorem Nj {f:B->B} (hf:∀b,(f b).name=b.name):(upd l n f).map (·.name)=l.map (·.name):=by
 unfold upd;rw[List.map_map];refine mS fun b _=> ?_;show (if b.name=n then f b else b).name=b.name
 split
 ·exact hf b
 ·rfl
theorem Good.iff:Good l↔(∀x∈l.map (·.name),(0:UInt8)∉x)/\(l.map (·.name)).Pairwise fun a b=>lt a b=true:=by unfold Good;rw[List.pairwise_map];simp
theorem Good.upd (hg:Good l) {f:B->B} (hf:∀b,(f b).name=b.name):Good (upd l n f):=by rw[Good.iff,Nj hf,<-Good.iff];exact hg
theorem JU {b:B} (hg:Good l) (h:find l n=aD b) (f:B->B):upd l n f=upd l n fun _=>f b:=by
 unfold upd;refine mS fun x H=> ?_;by_cases e:x.name=n;·rw[if_pos e,if_pos e];have:=A5 hg H;rw[e,h] at this;injection this with this;rw[this]
 ·rw[if_neg e,if_neg e]
def mk (b:B):List B->Bool->List B
 |[],true=>[]
 |[],false=>[b]
 |x::t,true=>x::mk b t true
 |x::t,false=>if lt b.name x.name then b::x::mk b t true else x::mk b t false
theorem Hh (b:B):∀l,mk b l true=l
 |[]=>rfl
 |x::t=>by rw[mk,Hh b t]
theorem Tj {b:B} (hg:Good l) (h:find l b.name=av):mk b l false=ins l b:=by
 have hp:=hg.2;have hn:=zG h;clear hg h;unfold ins;induction l with
 |nil=>rfl
 |cons x t i=>
  obtain⟨a,c⟩:=cF.1 hp;have i:=i c fun y hy=>hn y (aI _ hy);rw[mk,cW,cW];cases e:lt b.name x.name with
  |true=>rw[if_pos rfl,Tr.lt_asymm e,if_neg (by decide),if_pos rfl,Hh];have H:∀y∈t,lt b.name y.name=true:=fun y hy=>Tr.lt_trans e (a y hy);rw[List.filter_eq_nil_iff.2 fun y hy=>by rw[Tr.lt_asymm (H y hy)];decide,List.filter_eq_self.2 H];rfl
  |false=>
   have d:lt x.name b.name=true:=by
    cases E:lt x.name b.name with
    |true=>rfl
    |false=>exact absurd (Tr.j7 _ _ E e) (hn x aE)
   rw[if_neg (by decide),d,if_pos rfl,if_neg (by decide),gJ,i]
def err (l:List B) (n:Text):Nat:=if Nm.bucket n=false then 28 else if (find l n).isNone then 20 else 0
def wrong (on:Bool) (pre:Text) (after:Nat):Bool:=decide (20<pre.length)||(!on&&(pre !=[]||after !=0))
def make (l:List B) (n:Text) (now:Nat):List B×Nat:=if Nm.bucket n=false then (l,28) else if (find l n).isSome then (l,21) else (ins l ⟨n,0,now,false,[],0⟩,0)
def setState (l:List B) (n:Text) (s:Int):List B×Nat:=if err l n≠0 then (l,err l n) else if s≠1/\s≠2 then (l,30) else (upd l n fun b=>{b with state:=s},0)
def cU (l:List B) (n:Text) (on:Bool) (pre:Text) (after:Nat):List B×Nat:=if err l n≠0 then (l,err l n) else if wrong on pre after then (l,30) else (upd l n fun b=>{b with on:=on,pre:=pre,after:=after},0)
def restore (l:List B) (b:B):List B×Nat:=if Nm.bucket b.name=false then (l,28) else if b.state<0\/2<b.state\/wrong b.on b.pre b.after=true then (l,30) else (ins l b,0)
def dropped (l:List B) (n:Text):List B×Nat:=if err l n≠0 then (l,err l n) else (drop l n,0)
def Fit (l:List B):Prop:=Good l/\∀b∈l,Nm.bucket b.name=true/\(0<=b.state/\b.state<=2)/\b.born<2^64/\wrong b.on b.pre b.after=false/\b.after<2^64
theorem Dl (h:err l n=0):Nm.bucket n=true/\∃b,find l n=aD b:=by
 unfold err at h;cases H:Nm.bucket n with
 |false=>rw[H,if_pos rfl] at h;cases h
 |true=>
  rw[H,if_neg (by decide)] at h;cases a:find l n with
  |none=>rw[a] at h;cases h
  |some b=>exact⟨rfl,b,rfl⟩
theorem mX {b x:B} (h:x∈ins l b):x=b\/x∈l:=by
 unfold ins at h;rcases aj.1 h with h|h;·exact dn (dz.1 h).1
 ·rcases aX.1 h with h|h;·exact dc h
  ·exact dn (dz.1 h).1
theorem Hi {f:B->B} {x:B} (h:x∈upd l n f):(∃b∈l,b.name=n/\x=f b)\/x∈l:=by
 unfold upd at h;obtain⟨b,H,rfl⟩:=List.mem_map.1 h;by_cases e:b.name=n;·rw[if_pos e];exact dc ⟨b,H,e,rfl⟩
 ·rw[if_neg e];exact dn H
theorem Fit.nil:Fit []:=⟨Good.nil,fun _ h=>absurd h List.not_mem_nil⟩
theorem Fit.make (h:Fit l) (n:Text) (now:Nat) (hn:now<2^64):Fit (make l n now).1:=by
 unfold Bk.make;cases a:Nm.bucket n with
 |false=>exact h
 |true=>
  rw[if_neg (by decide)];cases b:(find l n).isSome with
  |true=>exact h
  |false=>
   rw[if_neg (by decide)];refine⟨h.1.ins _ (Nm.eS a),fun x H=> ?_⟩;rcases mX H with rfl|H;·exact⟨a,⟨by show (0:Int)<=0;decide,by show (0:Int)<=2;decide⟩,hn,rfl,by show 0<_;decide⟩
   ·exact h.2 x H
theorem Fit.setState (h:Fit l) (n:Text) (s:Int):Fit (setState l n s).1:=by
 unfold Bk.setState
 split
 ·exact h
 ·split
  ·exact h
  ·next hs=>
   refine⟨h.1.upd fun _=>rfl,fun x H=> ?_⟩;rcases Hi H with⟨b,a,_,rfl⟩|H;·have:=h.2 b a;exact⟨this.1,by show 0<=s/\s<=2;omega,this.2.2⟩
   ·exact h.2 x H
theorem Fit.cU (h:Fit l) (n:Text) (on:Bool) (pre:Text) (after:Nat) (ha:after<2^64):Fit (cU l n on pre after).1:=by
 unfold Bk.cU
 split
 ·exact h
 ·cases a:wrong on pre after with
  |true=>exact h
  |false=>
   rw[if_neg (by decide)];refine⟨h.1.upd fun _=>rfl,fun x H=> ?_⟩;rcases Hi H with⟨b,c,_,rfl⟩|H;·have:=h.2 b c;exact⟨this.1,this.2.1,this.2.2.1,a,ha⟩
   ·exact h.2 x H
theorem Fit.restore (h:Fit l) (b:B) (d:b.born<2^64) (ha:b.after<2^64):Fit (restore l b).1:=by
 unfold Bk.restore;cases c:Nm.bucket b.name with
 |false=>exact h
 |true=>
  rw[if_neg (by decide)]
  split
  ·exact h
  ·next hs=>
   have H:wrong b.on b.pre b.after=false:=by
    cases H:wrong b.on b.pre b.after with
    |false=>rfl
    |true=>exact absurd (dn (dn H)) hs
   refine⟨h.1.ins _ (Nm.eS c),fun x a=> ?_⟩;rcases mX a with rfl|a;·exact⟨c,by omega,d,H,ha⟩
   ·exact h.2 x a
theorem Fit.dropped (h:Fit l) (n:Text):Fit (dropped l n).1:=by
 unfold Bk.dropped
 split
 ·exact h
 ·exact⟨h.1.drop n,fun x H=>h.2 x (dz.1 H).1⟩
theorem JV {on:Bool} {pre:Text} {after:Nat} (h:wrong on pre after=false):pre.length<=20:=by unfold wrong at h;simp only[Bool.or_eq_false_iff,decide_eq_false_iff_not] at h;omega
theorem jd (b:B):(ins l b).length<=l.length+1:=by
 unfold ins;rw[au,a_];have:∀t:List B,(t.filter fun x=>lt x.name b.name).length+(t.filter fun x=>lt b.name x.name).length<=t.length:=by
  intro t;induction t with
  |nil=>simp
  |cons x t i=>
   rw[cW,cW];cases e:lt x.name b.name with
   |true=>rw[Tr.lt_asymm e];simp only[if_true,jo,if_false,a_];omega
   |false=>
    cases E:lt b.name x.name with
    |true=>simp only[if_true,jo,if_false,a_];omega
    |false=>simp only[jo,if_false,a_];omega
 have:=this l;omega
theorem xg {f:B->B}:(upd l n f).length=l.length:=aT _
theorem drop_length:(drop l n).length<=l.length:=List.length_filter_le _ _
theorem Hj {n:Text} (h:Nm.bucket n=true):(key n).length<=18:=by have:=Nm.qB h;unfold key;rw[a_,au,ew];omega
end Bk
namespace Bk
structure One (b:B):Prop where
 name:Nm.bucket b.name=true
 low:0<=b.state
 high:b.state<=2
 born:b.born<2^64
 right:wrong b.on b.pre b.after=false
 after:b.after<2^64
theorem Fit.one {l:List B} (h:Fit l) {b:B} (H:b∈l):One b:=⟨(h.2 b H).1,(h.2 b H).2.1.1,(h.2 b H).2.1.2,(h.2 b H).2.2.1,(h.2 b H).2.2.2.1,(h.2 b H).2.2.2.2⟩
def kinds:Text:=[98,110,98,110,116,114]
def nO (b:Bool):Nat:=if b then 1 else 0
def kU (b:B):List Pk.Fd:=[⟨b.state.toNat,[]⟩,⟨b.born,[]⟩,⟨nO b.on,[]⟩,⟨b.after,[]⟩,⟨0,b.pre⟩,⟨0,bB (20-b.pre.length) 0⟩]
def gB (b:B):Text:=(Pk.write kinds (kU b)).getD []
theorem Tk {b:B} (h:One b):∀f∈kU b,f.n<2^64:=by
 have a:=h.low;have c:=h.high;have h3:=h.born;have h4:=h.after;have H:nO b.on<2^64:=by unfold nO;split<;>decide
 intro f hf;unfold kU at hf;simp only[aX,List.not_mem_nil,or_false] at hf;rcases hf with rfl|rfl|rfl|rfl|rfl|rfl;·show b.state.toNat<2^64;omega
 ·exact h3
 ·exact H
 ·exact h4
 ·show 0<2^64;decide
 ·show 0<2^64;decide
theorem A6 {b:B} (h:One b):b.pre.length<=20:=JV h.right
theorem Tl {b:B} (h:One b) (i:Nat) (hi:i<(kU b).length):(kU b)[i].s.length<=10000:=by
 have H:=A6 h;have:∀f∈kU b,f.s.length<=10000:=by
  intro f hf;unfold kU at hf;simp only[aX,List.not_mem_nil,or_false] at hf;rcases hf with rfl|rfl|rfl|rfl|rfl|rfl;·simp
  ·simp
  ·simp
  ·simp
  ·show b.pre.length<=10000;omega
  ·show (bB (20-b.pre.length) (0:UInt8)).length<=10000;rw[dZ];omega
 exact this _ (bI hi)
theorem xh {b:B} (h:One b):∃t,Pk.write kinds (kU b)=aD t/\t.length=40:=by
 have f:=h.low;have g:=h.high;have h3:=h.born;have h4:=h.after;have H:nO b.on<256:=by unfold nO;split<;>decide
 have a:=A6 h;have e:∀n,n<256->Pk.ff 98 ⟨n,[]⟩=aD (Wl.enc 1 n):=fun n hn=>by have:Pk.width 98=1:=rfl;unfold Pk.ff;rw[this,if_pos (by decide),if_pos ⟨rfl,by simpa using hn⟩]
 have E:∀n,n<2^64->Pk.ff 110 ⟨n,[]⟩=aD (Wl.enc 8 n):=fun n hn=>by have:Pk.width 110=8:=rfl;unfold Pk.ff;rw[this,if_pos (by decide),if_pos ⟨rfl,by simpa using hn⟩]
 have c:∀s:Text,s.length<=20->Pk.ff 116 ⟨0,s⟩=aD (Wl.enc 2 s.length++s):=fun s hs=>by have:Pk.width 116=0:=rfl;unfold Pk.ff;rw[this,if_neg (by decide),if_neg (by simp),if_neg (by decide),if_neg (by show ¬65535<s.length;omega)]
 have d:∀s:Text,Pk.ff 114 ⟨0,s⟩=aD s:=fun s=>by have:Pk.width 114=0:=rfl;unfold Pk.ff;rw[this,if_neg (by decide),if_neg (by simp),if_pos rfl]
 refine⟨((((([]++Wl.enc 1 b.state.toNat)++Wl.enc 8 b.born)++Wl.enc 1 (nO b.on))++Wl.enc 8 b.after)++(Wl.enc 2 b.pre.length++b.pre))++bB (20-b.pre.length) 0, ?_, ?_⟩
 ·have hr:Pk.right kinds=true:=by decide
  unfold Pk.write;rw[if_pos ⟨hr,rfl⟩];unfold kinds kU;simp only[Pk.Di];rw[e _ (by omega)];simp only;rw[E _ h3];simp only;rw[e _ H];simp only;rw[E _ h4];simp only;rw[c _ a];simp only;rw[d]
 ·simp only[au,Wl.cE,dZ,ef];omega
theorem xj {b:B} (h:One b):Pk.write kinds (kU b)=aD (gB b):=by obtain⟨t,H,_⟩:=xh h;unfold gB;rw[H];rfl
theorem Dm {b:B} (h:One b):(gB b).length=40:=by obtain⟨t,H,hl⟩:=xh h;unfold gB;rw[H];exact hl
theorem JW {b:B} (h:One b):Pk.read kinds (gB b)=aD (kU b):=Pk.FG (xj h)
theorem Qh {b:B} (h:One b):Pk.cut ((key b.name).drop 1)=aD (b.name,[]):=by
 have:=Pk.Nc b.name [] (Nm.eS h.name)
 rwa [bA] at this
theorem Nk {n:Text} (h:Nm.bucket n=true):Nm.under 98 [n]=key n:=JT (Nm.eS h)
end Bk
section
open Go.RowKit Lib
def kE (on:Bool) (pre:List UInt8) (after:Nat):Value:=iK #[eX on,bR (bs pre),bf dg after]
def qH (b:Bk.B):Value:=iK #[bR (bs b.name),bf cu b.state,bf dg b.born,eX b.on,bR (bs b.pre),bf dg b.after]
theorem A7 {fn:Func} {p u:Tmp} (h:fn.results=#[.cell p 46,.tmp u]) (tmps:Array Value) {w:World} {g:Nat} {v0 v1 v2 v3 v4 v5:Value}
  (hp:tmps.getD p undef=.pointer (aD ⟨g,0,av⟩)) (hg:aU w g 46 [v0,v1,v2,v3,v4,v5]):
  (results fn tmps).run Tryz.prog w=.ok (.tuple #[.agg #[v0,v1,v2,v3,v4,v5],tmps.getD u undef]) w:=by
 rw[results_cell_tmp h,hp];simp[asAddr,run_loadVar_row w g _ 46 _ (0,0) _ hg Tryz.underlying46 rfl (by kernel_rfl),Result.andThen]
theorem FI {w:World} {g:Nat} {t:TypeId} {a a1 A b d e:Value} (h:aU w g t [a,a1,A,b,d,e]) (v0 v1 v2 v3 v4 v5:Value):
  aU ((((((w.setCell ⟨g,0,av⟩ v0).setCell ⟨g,1,av⟩ v1).setCell ⟨g,2,av⟩ v2).setCell ⟨g,3,av⟩ v3).setCell ⟨g,4,av⟩ v4).setCell ⟨g,5,av⟩ v5) g t [v0,v1,v2,v3,v4,v5]/\
  aG (fun k=>k=g) w ((((((w.setCell ⟨g,0,av⟩ v0).setCell ⟨g,1,av⟩ v1).setCell ⟨g,2,av⟩ v2).setCell ⟨g,3,av⟩ v3).setCell ⟨g,4,av⟩ v4).setCell ⟨g,5,av⟩ v5):=by
 have c:∀(X:World) (j:Nat) (v:Value),aG (fun k=>k=g) w X->aG (fun k=>k=g) w (X.setCell ⟨g,j,av⟩ v):=fun X j v H=>H.setCell _ _ fun _=>rfl;exact⟨(((((h.set 0 v0).set 1 v1).set 2 v2).set 3 v3).set 4 v4).set 5 v5,c _ _ _ (c _ _ _ (c _ _ _ (c _ _ _ (c _ _ _ (c _ _ _ (aG.refl _ w))))))⟩
theorem xk (on:Bool) (pre:List UInt8) (after:Nat) (w:World):Calls Tryz.prog 35 #[kE on pre after] w fun e w'=>e=eb (eX (!Bk.wrong on pre after))/\Below w.heap.size w w':=by
 have hs:=aP pre;unfold kE;cases on with
 |true=>
  have H:(!Bk.wrong true pre after)=decide (((bs pre).size:Int)<=20):=by
   unfold Bk.wrong;rw[hs];by_cases h:20<pre.length;·rw[decide_eq_true h,decide_eq_false (by omega:¬(pre.length:Int)<=20)];rfl
   ·rw[decide_eq_false h,decide_eq_true (by omega:(pre.length:Int)<=20)];rfl
  rw[H];clear H;generalize bs pre=P at*;clear hs;go_enter Tryz.func35,Tryz.ntmps35;go_wp2;go_ret;exact⟨rfl,(Below.refl _ w).alloc (ah _) _⟩
 |false=>
  have H:(!Bk.wrong false pre after)=(pre.isEmpty&&decide (after=0)):=by
   unfold Bk.wrong;cases pre with
   |nil=>by_cases h:after=0<;>simp[h]
   |cons c t=>simp
  rw[H];clear H;go_enter Tryz.func35,Tryz.ntmps35;go_wp2;all_goals go_ret
  all_goals simp_all[bt]
  all_goals exact (Below.refl _ w).alloc (ah _) _
theorem rZ (b:Bk.B) (w:World):Calls Tryz.prog 37 #[qH b] w fun e w'=>e=eb (eX (decide (0<=b.state)&&decide (b.state<=2)&& !Bk.wrong b.on b.pre b.after))/\Below w.heap.size w w':=by
 have c:=aa (fun W=>xk b.on b.pre b.after W);unfold kE at c;unfold qH;generalize Bk.wrong b.on b.pre b.after=V at*;generalize bs b.name=P at*;generalize bs b.pre=p at*;generalize b.on=on at*;generalize b.state=s at*;by_cases H:0<=s/\s<=2
 ·have h:(decide (0<=s)&&decide (s<=2)&& !V)= !V:=by rw[decide_eq_true H.1,decide_eq_true H.2];rfl
  rw[h];have a:s=0\/s=1\/s=2:=by omega
  clear h H;rcases a with rfl|rfl|rfl
  all_goals
   go_enter Tryz.func37,Tryz.ntmps37
   go_wp2_with fail
   refine (c.o _).mono ?_
   rintro e w1 ⟨rfl,d⟩
   go_wp2
   go_ret
   exact⟨rfl,((Below.refl _ w).alloc (ah _) _).trans (d.mono (by rw[aS];omega))⟩
 ·have h:(decide (0<=s)&&decide (s<=2)&& !V)=false:=by
   by_cases a:0<=s;·rw[decide_eq_false (by omega:¬s<=2)];simp
   ·rw[decide_eq_false a];rfl
  rw[h];have a:(s==0)=false:=by rw[beq_eq_false_iff_ne];omega
  have f:(s==1)=false:=by rw[beq_eq_false_iff_ne];omega
  have h3:(s==2)=false:=by rw[beq_eq_false_iff_ne];omega
  clear h H;go_enter Tryz.func37,Tryz.ntmps37;go_wp2;go_ret;exact⟨rfl,(Below.refl _ w).alloc (ah _) _⟩
namespace Pk
theorem A8 (c:UInt8):(c=110/\(c.toNat:Int)=110/\width c=8/\∀b,letter c b=true)\/(c=104/\(c.toNat:Int)=104/\width c=4/\∀b,letter c b=true)\/(c=98/\(c.toNat:Int)=98/\width c=1/\∀b,letter c b=true)\/
  (c=116/\(c.toNat:Int)=116/\width c=0/\∀b,letter c b=true)\/(c=114/\(c.toNat:Int)=114/\width c=0/\∀b,letter c b=b)\/
  (((c.toNat:Int)≠110/\(c.toNat:Int)≠104/\(c.toNat:Int)≠98/\(c.toNat:Int)≠116/\(c.toNat:Int)≠114)/\width c=0/\∀b,letter c b=false):=by
 by_cases a:c=110;·subst a;exact dc ⟨rfl,rfl,rfl,fun b=>by cases b<;>rfl⟩
 by_cases f:c=104;·subst f;exact dn (dc ⟨rfl,rfl,rfl,fun b=>by cases b<;>rfl⟩)
 by_cases h3:c=98;·subst h3;exact dn (dn (dc ⟨rfl,rfl,rfl,fun b=>by cases b<;>rfl⟩))
 by_cases h4:c=116;·subst h4;exact dn (dn (dn (dc ⟨rfl,rfl,rfl,fun b=>by cases b<;>rfl⟩)))
 by_cases g:c=114;·subst g;exact dn (dn (dn (dn (dc ⟨rfl,rfl,rfl,fun b=>by cases b<;>rfl⟩))))
 have H:∀d:UInt8,¬c=d->(c.toNat:Int)≠(d.toNat:Int):=fun d h e=>h (UInt8.toNat.inj (by omega));have i:width c=0:=by unfold width;rw[if_neg a,if_neg f,if_neg h3]
 exact dn (dn (dn (dn (dn ⟨⟨H 110 a,H 104 f,H 98 h3,H 116 h4,H 114 g⟩,i,fun b=>by unfold letter;simp[i,h4,g]⟩))))
theorem FJ (l:Text) (k:Nat) (h:k<l.length):right (l.drop k)=(letter l[k] (decide (k+1=l.length))&&right (l.drop (k+1))):=by rw[cw h,right];congr 2;rw[jf,List.isEmpty_iff,decide_eq_true_eq,List.drop_eq_nil_iff];omega
theorem Dn (s:ByteArray) (k:Nat) (h:k<s.size):right (s.data.toList.drop k)=(letter s[k] (decide (k+1=s.size))&&right (s.data.toList.drop (k+1))):=FJ s.data.toList k h
end Pk
theorem nA (c:UInt8) (w:World):Calls Tryz.prog 128 #[bf gx c.toNat] w fun e w'=>e=eb (bf cu (Pk.width c:Nat))/\w'=w:=by
 rcases Pk.A8 c with⟨_,h,H,_⟩|⟨_,h,H,_⟩|⟨_,h,H,_⟩|⟨_,h,H,_⟩|⟨_,h,H,_⟩|⟨⟨a,b,h3,_,_⟩,H,_⟩<;>rw[H]<;>clear H<;>(try rw[h])<;>
 ·generalize (c.toNat:Int)=x at*;go_enter Tryz.func128,Tryz.ntmps128;go_wp2;go_ret;exact⟨rfl,rfl⟩
theorem pI (s:ByteArray) (w:World) (hs:s.size<=1000):Calls Tryz.prog 85 #[bR s] w fun e w'=>e=eb (eX (Pk.right s.data.toList))/\w'=w:=by
 have y:(s.size:Int)<=1000:=by omega
 go_enter Tryz.func85,Tryz.ntmps85;go_wp2
 go_loop [3] (fun i=>∃k:Nat,k<=s.size/\i=bf cu k/\Hid (Pk.right s.data.toList=Pk.right (s.data.toList.drop k))) (fun i=>s.size-(RowKit.intOf i).toNat)
 case atStart=>exact⟨0,aB _,rfl,aa rfl⟩
 case round=>
  obtain⟨k,j,rfl,c⟩:=hrel;by_cases d:k<s.size
  ·have b:=aa (c.o.trans (Pk.Dn s k d));clear c;have l:(k:Int)<s.size:=(by omega);have f:(k:Int)<=1000:=(by omega);rcases Pk.A8 s[k] with⟨_,h,_,H⟩|⟨_,h,_,H⟩|⟨_,h,_,H⟩|⟨_,h,_,H⟩|⟨_,h,_,H⟩|⟨⟨m,n,h3,h4,p⟩,_,H⟩
   iterate 4
    ·rw[H] at b;clear H;go_wp2
     go_round
     case rel=>exact⟨k+1,by omega,by go_num,aa (by rw[b.o];rfl)⟩
     case measure=>simp[RowKit.intOf];omega
   ·rw[H] at b;clear H;by_cases a:k+1=s.size
    ·have g:((k:Int)==(s.size:Int)-1)=true:=(by rw[beq_iff_eq];omega);go_wp2
     go_round
     case rel=>exact⟨k+1,by omega,by go_num,aa (by rw[b.o,decide_eq_true a];rfl)⟩
     case measure=>simp[RowKit.intOf];omega
    ·have g:((k:Int)==(s.size:Int)-1)=false:=(by rw[beq_eq_false_iff_ne];omega);go_wp2;go_ret;exact⟨by rw[b.o,decide_eq_false a];rfl,rfl⟩
   ·rw[H] at b;clear H;go_wp2;go_ret;exact⟨by rw[b.o];rfl,rfl⟩
  ·have x:k=s.size:=(by omega);subst x;go_wp2;go_ret;refine⟨?_,rfl⟩;rw[c.o,oO (by rw[bk];exact ah _)];rfl
theorem tE (s:ByteArray) (n:Nat) (w:World) (hs:s.size<=1000000) (hn:n<=1000000):
  Calls Tryz.prog 126 #[bR s,bf cu n] w fun e w'=>e=eb (gu (if s.size<n then #[bR ⟨#[]⟩,bR ⟨#[]⟩,eX false] else #[bR (bs (s.data.toList.take n)),bR (bs (s.data.toList.drop n)),eX true]))/\Below w.heap.size w w':=by
 have y:(s.size:Int)<=1000000:=by omega
 have Q:(n:Int)<=1000000:=by omega
 have E:=j6 s n;have a:s.extract n s.size=bs (s.data.toList.drop n):=by apply ByteArray.ext;apply Array.ext';rw[l8];rfl
 by_cases h:s.size<n
 ·have H:(s.size:Int)<n:=by omega
  rw[if_pos h];go_enter Tryz.func126,Tryz.ntmps126;go_wp2
  go_ret3
  exact⟨rfl,Below.refl _ _⟩
 ·have H:¬(s.size:Int)<n:=by omega
  have I:(n:Int)<=s.size:=by omega
  rw[if_neg h];rw[<-E,<-a];clear E a;go_enter Tryz.func126,Tryz.ntmps126;go_wp2_with fail
  go_region
  go_wp2
  go_ret3
  exact⟨rfl,by first|exact Below.refl _ _|exact eN w 1⟩
theorem lX (s:ByteArray) (w:World) (hs:s.size<=8):
  Calls Tryz.prog 127 #[bR s] w fun e w'=>e=eb (bf dg (Wl.dec s.data.toList:Nat))/\w'=w:=by
 have y:(s.size:Int)<=8:=by omega
 go_enter Tryz.func127,Tryz.ntmps127;go_wp2
 go_loop [3,4] (fun n i=>∃k:Nat,k<=s.size/\i=bf cu k/\n=bf dg (Wl.dec (s.data.toList.take k):Nat)) (fun _ i=>s.size-(RowKit.intOf i).toNat)
 case atStart=>exact⟨0,aB _,rfl,rfl⟩
 case round=>
  obtain⟨k,H,rfl,rfl⟩:=hrel;by_cases h:k<s.size
  ·have b:=s[k].toNat_lt;have hd:Wl.dec (s.data.toList.take k)<2^56:=(by have c:=Wl.nU (s.data.toList.take k);have d:(s.data.toList.take k).length=k:=(by rw[aO,bk];exact ct H);rw[d] at c;have h3:256^k<=256^7:=Nat.pow_le_pow_right (by decide) (by omega);have h4:(256:Nat)^7=2^56:=(by decide);omega);have f:=aa (show Wl.dec (s.data.toList.take (k+1))=Wl.dec (s.data.toList.take k)*256+s[k].toNat by rw[mh s k h,Wl.mU]);have g:=aa (Gm _ _ hd b);generalize Wl.dec (s.data.toList.take k)=a at*;have L:(a:Int)<72057594037927936:=(by omega);have j:(0:Int)<=a:=(by omega);clear hd;go_wp2
   go_round
   case rel=>exact⟨k+1,by omega,by go_num,by rw[g.o,f.o]⟩
   case measure=>simp[RowKit.intOf];omega
  ·have x:k=s.size:=(by omega);subst x;go_wp2;go_ret;refine⟨?_,rfl⟩;rw[cg (by rw[bk];exact ah _)];rfl
theorem Nl (w:World):(convert 94 9 (cx av 0 0)).run Tryz.prog w=.ok (bR (bs [])) w:=by kernel_rfl
theorem gI.back {B:Nat} {w:World} {v:Value} {l:List UInt8} (h:gI B w v l):(convert 94 9 v).run Tryz.prog w=.ok (bR (bs l)) w:=by
 rcases h.2 with⟨rfl,H⟩|⟨g,cap,cur,rfl,_⟩;·have:l=[]:=List.eq_nil_of_length_eq_zero H;subst this;exact Nl w
 ·exact (fk.Uq h).back
theorem lE (B:Nat) (w:World) (v:Value) (l:List UInt8) (n width:Nat) (hown:gI B w v l) (g:B<=w.heap.size) (hl:l.length<=800000000) (hn:n<2^64) (C:width<=8):
  Calls Tryz.prog 156 #[v,bf dg n,bf cu width] w fun e w'=>∃v',e=eb v'/\gI B w' v' (l++Wl.enc width n)/\aG (fun k=>v.ownBlock=aD k) w w'/\(v'.ownBlock=v.ownBlock\/∀k,v'.ownBlock=aD k->w.heap.size<=k):=by
 have Y:(width:Int)<=8:=by omega
 have q:=aa hown;have r:=aa g;have D:=aa hn;clear hown g hn;go_enter Tryz.func156,Tryz.ntmps156;go_wp2
 go_loopw [0,7] (fun u i wr=>∃j:Nat,j<=width/\i=bf cu ((width:Int)-1-j)/\Hid (gI B wr u (l++Wl.enc j (n/256^(width-j))))/\Hid (aG (fun k=>v.ownBlock=aD k) w wr)/\Hid (u.ownBlock=v.ownBlock\/∀k,u.ownBlock=aD k->w.heap.size<=k)) (fun _ i _=>((RowKit.intOf i)+1).toNat)
 case atStart=>refine⟨0,aB _,by simp,aa ?_,aa (aG.refl _ _),aa (dc rfl)⟩;rw[Wl.enc,bA];exact q.o
 case round=>
  obtain⟨j,m,rfl,p,c,R⟩:=hrel;by_cases H:j<width
  ·obtain⟨k,a⟩:∃k:Nat,(width:Int)-1-j=k:=⟨width-1-j,by omega⟩;have s:(k:Int)<=7:=(by omega);have P:(0:Int)<=k:=(by omega);have t:=aa (show k=width-(j+1) by omega);have d:=aa (And.intro H m);rw[a];have U:=aa a;clear a H m Y;have y:=aa (sB n k);go_wp2_with (at_builtin;refine Hid.o ?_);refine aa ?_;rw[y.o];refine cT KM rfl _ _ rfl rfl (p.o.alloc _) (by have:=r.o;have:=c.o.size;simp;omega) wr.heap.size 0 1 1 [bz (n/256^k)] rfl rfl (bu.fN (aU.new wr #[bf gx ((bz (n/256^k)).toNat:Int)] 5) rfl) (by rw[au,Wl.cE];have:=d.o;omega) ?_;intro v' W G K x
   have f:=aa (show gI B W v' (l++Wl.enc (j+1) (n/256^(width-(j+1))))/\aG (fun k=>v.ownBlock=aD k) w W/\(v'.ownBlock=v.ownBlock\/∀k,v'.ownBlock=aD k->w.heap.size<=k) by
    have z:=c.o.size;refine⟨?_, ?_, ?_⟩;·rw[BP width j n d.o.1,<-aF,<-t.o];exact G
    ·refine (c.o.alloc _).trans (aG.qR K) fun i hi e=> ?_;rcases R.o with h|h;·rw[<-h];exact e
     ·have:=h i e;omega
    ·rcases x with h|h;·rw[h];exact R.o
     ·exact dn fun k a=>by have:=h k a;simp at this;omega)
   clear G K x;go_wp2;go_roundw
   case rel=>exact⟨j+1,d.o.1,congrArg (Value.int cu) (by have:=U.o;omega),aa f.o.1,aa f.o.2.1,aa f.o.2.2⟩
   case measure=>have:=U.o;simp[RowKit.intOf]<;>omega
  ·have A:j=width:=(by omega);subst A;have b:(j:Int)-1-j=-1:=(by omega);rw[b];go_wp2;go_ret;refine⟨_,rfl, ?_,c.o,R.o⟩;have:=p.o
   rwa [Nat.sub_self,Nat.pow_zero,Nat.div_one] at this
theorem A9 (s:ByteArray) (w:World) (H:s.size<=1000000):
  Calls Tryz.prog 83 #[.string s] w fun e w'=>e=eb (.string s)/\Below w.heap.size w w':=by
 by_cases f:s.size=0
 ·have hs:s=⟨#[]⟩:=by apply ByteArray.ext;exact Array.eq_empty_of_size_eq_zero f
  subst hs;go_enter Tryz.func83,Tryz.ntmps83;go_wp2;go_ret;exact⟨rfl,Below.refl _ _⟩
 ·have h:(Tryz.prog.info? 5).map (·.size)=aD 1:=by kernel_rfl
  have X:Tryz.prog.cellsOf 5=1:=by kernel_rfl
  obtain⟨M,a⟩:∃M,M=(bB s.size (Value.int gx 0)).toArray:=⟨_,rfl⟩;have g:M.size=s.size:=by rw[a];simp
  have b:=fun W:World=>uZ W s.size H;rw[<-a] at b;clear a;have K:=Lib.run_copy_row_string (P:=Tryz.prog) (w.alloc (ey M 5)) 94 9 3 5 w.heap.size 0 s.size s.size s M 5 Tryz.underlying94 h (heap_alloc_new w _) (ah _) (by omega);obtain⟨Y,c⟩:∃Y,Y=(M.toList.take 0++Lib.byteCells s.data.toList++M.toList.drop (0+s.size)).toArray:=⟨_,rfl⟩;rw[<-c] at K;have Q:Y.toList=Lib.byteCells s.data.toList:=by rw[c,List.toList_toArray,List.take_zero,dI,oO (by rw[bk];omega),bA]
  have i:Y.size=s.size:=by rw[<-bk,Q,Lib.byteCells_length,<-Lib.size_eq]
  have U:((w.alloc (ey M 5)).setRow w.heap.size Y).heap[w.heap.size]?=aD (ey Y 5 (0,0)):=setRow_heap _ _ M _ 5 (0,0) (heap_alloc_new w _);have d:s.data.toList≠[]:=fun e=>f (by rw[Lib.size_eq,e];rfl)
  have y:=Lib.run_unsafeString_row (P:=Tryz.prog) ((w.alloc (ey M 5)).setRow w.heap.size Y) 207 3 9 5 Tryz.underlying207 X w.heap.size Y.size (by unfold World.shape?;rw[U]) s.data.toList d (by rw[<-Lib.size_eq];omega) (by rw[<-Lib.size_eq];omega)
   (fun j x l=>Lib.cells_of_row U Y.size j _ (by rw[cg (by rw[bk];exact ah _),Q];simp[Lib.byteCells,l]))
  rw[<-Lib.size_eq] at y;clear c;go_enter Tryz.func83,Tryz.ntmps83;go_wp2;go_ret;have B:Below w.heap.size w (w.alloc (ey M 5)):=(Below.refl _ w).alloc (ah _) _;have A:Below w.heap.size (w.alloc (ey M 5)) ((w.alloc (ey M 5)).setRow w.heap.size Y):=⟨rfl,rfl,rfl,by simp,fun k m=>setRow_other _ _ _ _ (by omega)⟩;exact⟨rfl,Lib.below_freeze (B.trans A) (p:=⟨w.heap.size,0,av⟩) (ah _) _⟩
theorem nB (s:ByteArray) (w:World) (h:s.size<=1000000):
  Calls Tryz.prog 53 #[bR s] w fun e w'=>e=eb (bR s)/\Below w.heap.size w w':=by
 go_enter Tryz.func53,Tryz.ntmps53;go_wp2_with fail;refine (A9 s w h).mono ?_;rintro e w1 ⟨rfl,H⟩;have a:=aa H;clear H;go_wp2;go_ret;exact⟨rfl,a.o⟩
end
end Go.Proofs.YtlpfhjbpknbndaaGreatDoor
