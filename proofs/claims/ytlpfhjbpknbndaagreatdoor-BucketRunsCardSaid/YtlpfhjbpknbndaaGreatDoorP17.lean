/- Elder texts, cut down and merged (17). -/
import Derived.Test.YtlpfhjbpknbndaaGreatDoorP7
import Derived.Test.YtlpfhjbpknbndaaGreatDoorP16
import Derived.Test.YtlpfhjbpknbndaaGreatDoorP9
import Derived.Test.YtlpfhjbpknbndaaGreatDoorP15
import Derived.Test.YtlpfhjbpknbndaaGreatDoorP13
import Derived.Test.YtlpfhjbpknbndaaGreatDoorP12
import Derived.Test.YtlpfhjbpknbndaaGreatDoorPTk
set_option maxRecDepth 100000
set_option maxHeartbeats 8000000
namespace Go.Proofs.YtlpfhjbpknbndaaGreatDoor
open Value renaming string→bR,int→bf,bool→eX,pointer→e7,tuple→gu,agg→iK,slice→cx
open Option renaming some→aD,none→av
open Obj renaming cells→ey
open Or renaming inr→dn,inl→dc
open IntKind renaming i64→cu
open Ending renaming returned→eb
open List renaming mem_cons->aX,take_succ_eq_append_getElem->cC,map_append->bQ,getElem_mem->bI,setIfInBounds_toArray->aA,set_cons_succ->az,set_cons_zero->ay,length_append->au,length_singleton->ew,take_of_length_le->cg,mem_cons_self->aE,mem_cons_of_mem->aI,length_cons->a_,length_map->aT,mem_filter->dz,drop_eq_getElem_cons->cw,pairwise_cons->cF,getElem?_eq_getElem->aK,nodup_append->aR,getD_eq_getElem?_getD->bZ,length_take->aO,length_drop->aZ,getElem?_append_right->iy,length_set->bP,getElem?_map->cD,mem_append->aj,mem_singleton->cQ
open Nat renaming le_refl->ah,zero_le->aB,zero_add->bE,le_trans->aH,min_eq_left->ct,lt_succ_self->kf
open World renaming block_lt_of_cell?->bD,size_alloc->aS
section
open Go.RowKit Lib
def lV:Elem (Tr.Tx×Tr.Tx):=⟨fun p=>[bR (bs p.1),bR (bs p.2)],2,by decide,fun _=>rfl,by
 intro a u hu
 simp only[aX,List.not_mem_nil,or_false] at hu
 rcases hu with rfl|rfl<;>rfl⟩
theorem MN:dx Tryz.prog 95 89 lV.size:=dx.of (size:=2) (bytes:=32) (z:=.agg #[.string .empty,.string .empty]) Tryz.underlying95 (by kernel_rfl) rfl (by decide)
abbrev rU (B:Nat) (w:World) (v:Value) (l:Tr.fB):Prop:=Own lV 89 B w v l
def fo (lim:Int) (lo hi:Tr.Tx) (s:Tr.fB) (p:Tr.Tx×Tr.Tx):Tr.fB:=if (s.length:Int)<lim/\hasB lo hi p.1=true then s++[p] else s
structure Sn (cb:Nat) (w0:World) (v0:Value) (s:Tr.fB) (v:Value) (X:World):Prop where
 blk:aU X cb 95 [v]
 own:rU 0 X v s
 but:aG (fun b=>b=cb\/v0.ownBlock=aD b) w0 X
 new:v.ownBlock=v0.ownBlock\/∀b,v.ownBlock=aD b->w0.heap.size<=b
theorem Sn.below {cb:Nat} {w0 X X':World} {v0 v:Value} {s:Tr.fB} (h:Sn cb w0 v0 s v X) (H:Below X.heap.size X X'):Sn cb w0 v0 s v X':=
 ⟨h.blk.below H h.blk.lt,Own.below h.own H (ah _),h.but.trans (aG.aJ H (fun _=>False)) (fun _ _ f=>f.elim),h.new⟩
theorem Sn.lit {cb:Nat} {w0 X:World} {v0 v:Value} {s:Tr.fB} (h:Sn cb w0 v0 s v X) (k V:List UInt8):Sn cb w0 v0 s v (X.alloc (ey #[.string (bs k),.string (bs V)] 89))/\bu lV (X.alloc (ey #[.string (bs k),.string (bs V)] 89)) X.heap.size 0 [(k,V)]:=
 ⟨h.below ((Below.refl _ X).alloc (ah _) _),bu.fN (aU.new X _ _) rfl⟩
structure Sa (cb:Nat) (w0:World) (v0:Value) (s:Tr.fB) (v v':Value) (X:World):Prop where
 blk:aU X cb 95 [v]
 own:rU 0 X v' s
 but:aG (fun b=>b=cb\/v0.ownBlock=aD b) w0 X
 new:v'.ownBlock=v0.ownBlock\/∀b,v'.ownBlock=aD b->w0.heap.size<=b
theorem Sn.app {cb:Nat} {w0 X X':World} {v0 v v':Value} {s s':Tr.fB} (h:Sn cb w0 v0 s v X) (c:rU 0 X' v' s') (hg:X.grownBy X' v.ownBlock) (d:v'.ownBlock=v.ownBlock\/∀k,v'.ownBlock=aD k->X.heap.size<=k):Sa cb w0 v0 s' v v' X':=by
 have a:aG (fun k=>v.ownBlock=aD k) X X':=(aG.refl _ X).grown hg fun k e _=>e;have g:=h.but.size;refine⟨h.blk.but a (Own.dG h.own h.blk (by decide)),c,h.but.trans a fun b f e=> ?_, ?_⟩
 ·rcases h.new with H|H;·exact dn (by rw[<-H];exact e)
  ·have:=H b e;omega
 ·rcases d with e|e;·rw[e];exact h.new
  ·exact dn fun b A=>by have:=e b A;omega
theorem Sa.fin {cb:Nat} {w0 X:World} {v0 v v':Value} {s:Tr.fB} (h:Sa cb w0 v0 s v v' X):Sn cb w0 v0 s v' (X.setCell ⟨cb,0,av⟩ v'):=
 ⟨h.blk.set 0 _,Own.but h.own ((aG.refl (fun b=>b=cb) X).setCell _ _ fun _=>rfl) (fun g hg e=>Own.dG h.own h.blk (by decide) (by rw[hg,e])),h.but.setCell _ _ fun _=>dc rfl,h.new⟩
structure Sb (cb lb kb q:Nat) (lo hi:ByteArray) (lim:Int) (n:NV) (w0:World) (v0:Value):Prop where
 lim:w0.cell? ⟨lb,0,av⟩=aD (bf cu lim)
 ks:aU w0 kb 125 [bR lo,bR hi]
 nd:Nd w0 q n
 n1:∀b,(b=cb\/v0.ownBlock=aD b)->b≠lb/\b≠kb/\b≠q/\b≠n.rg
theorem G4 {N i:Nat} {its:List It} {s s1:Tr.fB} {lim:Int} {lo hi:Tr.Tx} (c:N=its.length) (a:i<N) (h:s1=((its.take i).map fun i=>((i.key,i.val):Tr.Tx×Tr.Tx)).foldl (fo lim lo hi) s) (hc:¬(s1.length:Int)<lim\/hasB lo hi (its[i]'(by omega)).key=false):s1=((its.take (i+1)).map fun i=>((i.key,i.val):Tr.Tx×Tr.Tx)).foldl (fo lim lo hi) s:=by
 rw[cC (by omega),bQ,List.foldl_append,<-h];show s1=fo lim lo hi s1 _;unfold fo;rw[if_neg];rintro⟨b,H⟩;rcases hc with hc|hc;·exact hc b
 ·rw[hc] at H;cases H
theorem MO {N i:Nat} {its:List It} {s s1:Tr.fB} {lim:Int} {lo hi:Tr.Tx} (c:N=its.length) (H:i<N) (h:s1=((its.take i).map fun i=>((i.key,i.val):Tr.Tx×Tr.Tx)).foldl (fo lim lo hi) s) (a:(s1.length:Int)<lim) (b:hasB lo hi (its[i]'(by omega)).key=true):s1++[((its[i]'(by omega)).key,(its[i]'(by omega)).val)]=((its.take (i+1)).map fun i=>((i.key,i.val):Tr.Tx×Tr.Tx)).foldl (fo lim lo hi) s:=by rw[cC (by omega),bQ,List.foldl_append,<-h];show _=fo lim lo hi s1 _;unfold fo;rw[if_pos ⟨a,b⟩]
theorem MP (w0:World) (cb lb kb q:Nat) (v0:Value) (s:Tr.fB) (lo hi:List UInt8) (lim:Int) (n:NV) (hB:Sb cb lb kb q (bs lo) (bs hi) lim n w0 v0) (hS:Sn cb w0 v0 s v0 w0) (hs:s.length<=100000000):
  Calls Tryz.prog 93 #[ptr q,ptr cb,ptr lb,ptr kb] w0 fun e w'=>∃v s',e=eb (.bool (decide ((s'.length:Int)<lim)))/\s'=(if n.level=0 then (n.its.map fun i=>((i.key,i.val):Tr.Tx×Tr.Tx)).foldl (fo lim lo hi) s else s)/\Sn cb w0 v0 s' v w':=by
 have x:=aa hB;have HS:=aa hS;have KX:=hB.nd.small.len;have Z:=aa (Ek hB.nd);have T6:=aa KX;have c0:=hS.blk.cell (j:=0) rfl;clear hB hS KX c0;unfold ptr at Z |-;by_cases h0:n.level=0
 ·simp only[h0,if_true] at Z |-;obtain⟨N,hN⟩:∃N,N=n.its.length:=⟨_,rfl⟩;have IP:(N:Int)<=400:=by have:=T6.o;omega
  have z:=aa hN;rw[<-hN] at Z;have hNc:=aa (show N<=n.cap by rw[hN];exact x.o.nd.small.cap.1);have abE:(N:Int)<=n.cap:=by have:=hNc.o;omega
  clear hN;go_enter Tryz.func93,Tryz.ntmps93;go_wp2_with fail;refine Z.o.mono ?_;rintro e w1 ⟨rfl,rfl⟩;go_wp2_with fail
  go_loopw [11] (fun iv wr=>∃(i:Nat) (s1:Tr.fB) (v1:Value),i<=N/\iv=.int cu i/\Hid (Sn cb w1 v0 s1 v1 wr/\s1.length<=s.length+i/\s1=((n.its.take i).map fun i=>((i.key,i.val):Tr.Tx×Tr.Tx)).foldl (fo lim lo hi) s)) (fun iv _=>N-(RowKit.intOf iv).toNat)
  case atStart=>exact⟨0,s,v0,aB _,rfl,aa ⟨HS.o,ah _,by rw[List.take_zero];rfl⟩⟩
  case round=>
   obtain⟨i,s1,v1,hi4,rfl,m⟩:=hrel;have kg:=m.o.1.but;have cl:=kg.cell x.o.lim (fun h=>(x.o.n1 _ h).1 rfl);have r:=x.o.ks.but kg (fun h=>(x.o.n1 _ h).2.1 rfl);have B:=x.o.nd.but kg (fun h=>(x.o.n1 _ h).2.2.1 rfl) (fun h=>(x.o.n1 _ h).2.2.2 rfl);obtain⟨a1,cp1,Ta,t⟩:=Own.slice m.o.1.own;obtain⟨L,Q⟩:∃L,L=s1.length:=⟨_,rfl⟩;rw[<-Q] at Ta t;subst Ta;have w:=aa Q;have cc:=m.o.1.blk.cell (j:=0) rfl;have fc:=m.o.1.blk.frozen 0;have aau:(L:Int)<=100001000:=(by have:=m.o.2.1;have:=T6.o;omega);have k0:=r.cell (j:=0) rfl;have aav:=m.o.1.blk.lt;have WS:=r.lt;have PX:=bD _ _ cl;have k1:=r.cell (j:=1) rfl;by_cases g:i<N
   ·have hI:(i:Int)<N:=(by omega);obtain⟨i0,i1,i2⟩:=bh B.row i (by rw[<-z.o];exact g);obtain⟨d,y_⟩:∃d,d=(n.its[i]'(by rw[<-z.o];exact g)).key:=⟨_,rfl⟩;obtain⟨V,Yc⟩:∃V,V=(n.its[i]'(by rw[<-z.o];exact g)).val:=⟨_,rfl⟩;rw[<-y_] at i0;rw[<-Yc] at i1;have Ro:=aa (And.intro y_ Yc);have WT:=aa (show d.length<=200/\V.length<=200 by rw[y_,Yc];exact B.small.each _ (bI _));have HNX:=aa (And.intro B r);clear kg B r y_ Yc t Q;by_cases M:(L:Int)<lim
    ·go_wp2_with fail;obtain⟨W,hW⟩:∃W,W=wr.alloc (ey #[.string (bs d),.string (bs V),.pointer (pa (n.its[i]'(by rw[<-z.o];exact g)).node)] 122):=⟨_,rfl⟩;obtain⟨ib,R⟩:∃ib,ib=wr.heap.size:=⟨_,rfl⟩;have hbW:Below wr.heap.size wr W:=(by rw[hW];exact (Below.refl _ wr).alloc (ah _) _);have T:aU W ib 122 [.string (bs d),.string (bs V),.pointer (pa (n.its[i]'(by rw[<-z.o];exact g)).node)]:=(by rw[hW,R];exact aU.new wr _ _);rw[<-hW,<-R];have hSW:=m.o.1.below hbW;refine (nZ W lo hi d).mono ?_;rintro e w2 ⟨rfl,aV⟩;have c:=aa (hSW.below aV);have Ir:=T.below aV T.lt;have H:=aa Ir;have HR:=aa m.o.2;have u:cb≠ib:=(by omega);have j0:=Ir.cell (j:=0) rfl;have j1:=Ir.cell (j:=1) rfl;clear hW R hbW T hSW aV Ir m cc cl k0 k1 i0 i1 i2 fc aav WS PX;generalize qi:(!Tr.lt d lo&& !(!hi.isEmpty&& !Tr.lt d hi))=b;cases b with
     |false=>
      go_wp2_with fail;go_roundw
      case rel=>exact⟨i+1,s1,_,g,by go_num,aa ⟨c.o,by have:=HR.o.1;omega,G4 z.o g HR.o.2 (dn (by rw[<-Ro.o.1];exact qi))⟩⟩
      case measure=>simp[RowKit.intOf];omega
     |true=>
      go_wp2_with fail;go_wp2_with (refine wp_region_held_drew (S:=(fun X=>X.cell? ⟨ib,0,av⟩=aD (.string (bs d))/\X.cell? ⟨ib,1,av⟩=aD (.string (bs V)))) (by kernel_rfl) ?_ (fun A=> ?_);focus skip;rotate_left;refine Hid.o ?_);refine aa ?_;·first|trivial|exact⟨j0,j1⟩
      replace c:=aa (c.o.below (Below.refl _ _).drew);replace H:=aa (H.o.drew);refine bg 1 A ?_;refine bg 2 A ?_;refine bg 3 A ?_;refine bg 5 A ?_;refine bg 6 A ?_;refine bg 7 A ?_;try simp only[Act.put,aA,az,ay]
      refine iV [0,4] (AllReadyH.cons rfl (fun K a=> ?_) (iW fun K a=> ?_))
      focus
       have c0:=c.o.blk.cell (j:=0) rfl
       go_simp
       refine a.out _ _ A (fun A=> ?_);clear a K c0
       refine iV [4] (iW fun K a=> ?_)
       go_simp
       refine (jg (bs d) _ (by rw[aP];have:=WT.o;omega)).mono ?_
       rintro e w' ⟨rfl,l⟩
       replace c:=aa (c.o.below l)
       replace H:=aa (H.o.below l H.o.lt)
       refine a.out _ _ ⟨H.o.cell (j:=0) rfl,H.o.cell (j:=1) rfl⟩ (fun A=> ?_);clear a K l
       refine iV [8] (iW fun K a=> ?_)
       go_simp
       refine (jg (bs V) _ (by rw[aP];have:=WT.o;omega)).mono ?_
       rintro e w' ⟨rfl,l⟩
       replace c:=aa (c.o.below l)
       replace H:=aa (H.o.below l H.o.lt)
       refine a.out _ _ ⟨H.o.cell (j:=0) rfl,H.o.cell (j:=1) rfl⟩ (fun A=> ?_);clear a K l
       refine iV [9] (iW fun K a=> ?_)
       go_simp
       refine a.out _ _ A (fun A=> ?_);clear a K
       refine iV [10] (iW fun K a=> ?_)
       go_simp
       have D:=aa (c.o.lit d V)
       replace c:=aa D.o.1
       have G:=aa D.o.2
       replace H:=aa (H.o.alloc (ey #[.string (bs d),.string (bs V)] 89))
       clear D
       refine a.out _ _ ⟨H.o.cell (j:=0) rfl,H.o.cell (j:=1) rfl⟩ (fun A=> ?_);clear a K
       refine iV [11] (iW fun K a=> ?_)
       refine gw (K:=lV) MN _ _ rfl rfl c.o.own (aB _) _ 0 1 1 [(d,V)] rfl rfl G.o (by have:=w.o;show s1.length+1<=1000000000;omega) ?_
       intro v5 w5 J F y
       have f:=aa (c.o.app J F y)
       replace H:=aa (H.o.but ((aG.refl _ _).grown F (fun k e _=>e)) (Own.dG c.o.own H.o (by decide)))
       clear F y G
       obtain⟨C,O,Y,p⟩:=Own.slice J
       clear J c
       generalize P:(s1++[(d,V)]).length=E at Y p
       clear P p
       subst Y
       refine a.out _ _ ⟨H.o.cell (j:=0) rfl,H.o.cell (j:=1) rfl⟩ (fun A=> ?_);clear a K
       refine iV [12] (iW fun K a=> ?_)
       have c5:=f.o.blk.cell (j:=0) rfl
       have I:=f.o.blk.frozen 0
       go_simp
       have c:=aa f.o.fin
       replace H:=aa (H.o.but ((aG.refl (fun b=>b=cb) _).setCell ⟨cb,0,av⟩ (.slice C E O) fun _=>rfl) fun e=>u e.symm)
       refine a.out _ _ ⟨H.o.cell (j:=0) rfl,H.o.cell (j:=1) rfl⟩ (fun A=> ?_);clear a K c5 I f
      rotate_left
      focus
       go_simp
       refine (jg (bs d) _ (by rw[aP];have:=WT.o;omega)).mono ?_
       rintro e w' ⟨rfl,l⟩
       replace c:=aa (c.o.below l)
       replace H:=aa (H.o.below l H.o.lt)
       refine a.out _ _ ⟨H.o.cell (j:=0) rfl,H.o.cell (j:=1) rfl⟩ (fun A=> ?_);clear a K l
       refine iV [0,8] (AllReadyH.cons rfl (fun K a=> ?_) (iW fun K a=> ?_))
       focus
        have c0:=c.o.blk.cell (j:=0) rfl
        go_simp
        refine a.out _ _ A (fun A=> ?_);clear a K c0
        refine iV [8] (iW fun K a=> ?_)
        go_simp
        refine (jg (bs V) _ (by rw[aP];have:=WT.o;omega)).mono ?_
        rintro e w' ⟨rfl,l⟩
        replace c:=aa (c.o.below l)
        replace H:=aa (H.o.below l H.o.lt)
        refine a.out _ _ ⟨H.o.cell (j:=0) rfl,H.o.cell (j:=1) rfl⟩ (fun A=> ?_);clear a K l
        refine iV [9] (iW fun K a=> ?_)
        go_simp
        refine a.out _ _ A (fun A=> ?_);clear a K
        refine iV [10] (iW fun K a=> ?_)
        go_simp
        have D:=aa (c.o.lit d V)
        replace c:=aa D.o.1
        have G:=aa D.o.2
        replace H:=aa (H.o.alloc (ey #[.string (bs d),.string (bs V)] 89))
        clear D
        refine a.out _ _ ⟨H.o.cell (j:=0) rfl,H.o.cell (j:=1) rfl⟩ (fun A=> ?_);clear a K
        refine iV [11] (iW fun K a=> ?_)
        refine gw (K:=lV) MN _ _ rfl rfl c.o.own (aB _) _ 0 1 1 [(d,V)] rfl rfl G.o (by have:=w.o;show s1.length+1<=1000000000;omega) ?_
        intro v5 w5 J F y
        have f:=aa (c.o.app J F y)
        replace H:=aa (H.o.but ((aG.refl _ _).grown F (fun k e _=>e)) (Own.dG c.o.own H.o (by decide)))
        clear F y G
        obtain⟨C,O,Y,p⟩:=Own.slice J
        clear J c
        generalize P:(s1++[(d,V)]).length=E at Y p
        clear P p
        subst Y
        refine a.out _ _ ⟨H.o.cell (j:=0) rfl,H.o.cell (j:=1) rfl⟩ (fun A=> ?_);clear a K
        refine iV [12] (iW fun K a=> ?_)
        have c5:=f.o.blk.cell (j:=0) rfl
        have I:=f.o.blk.frozen 0
        go_simp
        have c:=aa f.o.fin
        replace H:=aa (H.o.but ((aG.refl (fun b=>b=cb) _).setCell ⟨cb,0,av⟩ (.slice C E O) fun _=>rfl) fun e=>u e.symm)
        refine a.out _ _ ⟨H.o.cell (j:=0) rfl,H.o.cell (j:=1) rfl⟩ (fun A=> ?_);clear a K c5 I f
       rotate_left
       focus
        go_simp
        refine (jg (bs V) _ (by rw[aP];have:=WT.o;omega)).mono ?_
        rintro e w' ⟨rfl,l⟩
        replace c:=aa (c.o.below l)
        replace H:=aa (H.o.below l H.o.lt)
        refine a.out _ _ ⟨H.o.cell (j:=0) rfl,H.o.cell (j:=1) rfl⟩ (fun A=> ?_);clear a K l
        refine iV [0,9] (AllReadyH.cons rfl (fun K a=> ?_) (iW fun K a=> ?_))
        focus
         have c0:=c.o.blk.cell (j:=0) rfl
         go_simp
         refine a.out _ _ A (fun A=> ?_);clear a K c0
         refine iV [9] (iW fun K a=> ?_)
         go_simp
         refine a.out _ _ A (fun A=> ?_);clear a K
         refine iV [10] (iW fun K a=> ?_)
         go_simp
         have D:=aa (c.o.lit d V)
         replace c:=aa D.o.1
         have G:=aa D.o.2
         replace H:=aa (H.o.alloc (ey #[.string (bs d),.string (bs V)] 89))
         clear D
         refine a.out _ _ ⟨H.o.cell (j:=0) rfl,H.o.cell (j:=1) rfl⟩ (fun A=> ?_);clear a K
         refine iV [11] (iW fun K a=> ?_)
         refine gw (K:=lV) MN _ _ rfl rfl c.o.own (aB _) _ 0 1 1 [(d,V)] rfl rfl G.o (by have:=w.o;show s1.length+1<=1000000000;omega) ?_
         intro v5 w5 J F y
         have f:=aa (c.o.app J F y)
         replace H:=aa (H.o.but ((aG.refl _ _).grown F (fun k e _=>e)) (Own.dG c.o.own H.o (by decide)))
         clear F y G
         obtain⟨C,O,Y,p⟩:=Own.slice J
         clear J c
         generalize P:(s1++[(d,V)]).length=E at Y p
         clear P p
         subst Y
         refine a.out _ _ ⟨H.o.cell (j:=0) rfl,H.o.cell (j:=1) rfl⟩ (fun A=> ?_);clear a K
         refine iV [12] (iW fun K a=> ?_)
         have c5:=f.o.blk.cell (j:=0) rfl
         have I:=f.o.blk.frozen 0
         go_simp
         have c:=aa f.o.fin
         replace H:=aa (H.o.but ((aG.refl (fun b=>b=cb) _).setCell ⟨cb,0,av⟩ (.slice C E O) fun _=>rfl) fun e=>u e.symm)
         refine a.out _ _ ⟨H.o.cell (j:=0) rfl,H.o.cell (j:=1) rfl⟩ (fun A=> ?_);clear a K c5 I f
        rotate_left
        focus
         go_simp
         refine a.out _ _ A (fun A=> ?_);clear a K
         refine iV [0,10] (AllReadyH.cons rfl (fun K a=> ?_) (iW fun K a=> ?_))
         focus
          have c0:=c.o.blk.cell (j:=0) rfl
          go_simp
          refine a.out _ _ A (fun A=> ?_);clear a K c0
          refine iV [10] (iW fun K a=> ?_)
          go_simp
          have D:=aa (c.o.lit d V)
          replace c:=aa D.o.1
          have G:=aa D.o.2
          replace H:=aa (H.o.alloc (ey #[.string (bs d),.string (bs V)] 89))
          clear D
          refine a.out _ _ ⟨H.o.cell (j:=0) rfl,H.o.cell (j:=1) rfl⟩ (fun A=> ?_);clear a K
          refine iV [11] (iW fun K a=> ?_)
          refine gw (K:=lV) MN _ _ rfl rfl c.o.own (aB _) _ 0 1 1 [(d,V)] rfl rfl G.o (by have:=w.o;show s1.length+1<=1000000000;omega) ?_
          intro v5 w5 J F y
          have f:=aa (c.o.app J F y)
          replace H:=aa (H.o.but ((aG.refl _ _).grown F (fun k e _=>e)) (Own.dG c.o.own H.o (by decide)))
          clear F y G
          obtain⟨C,O,Y,p⟩:=Own.slice J
          clear J c
          generalize P:(s1++[(d,V)]).length=E at Y p
          clear P p
          subst Y
          refine a.out _ _ ⟨H.o.cell (j:=0) rfl,H.o.cell (j:=1) rfl⟩ (fun A=> ?_);clear a K
          refine iV [12] (iW fun K a=> ?_)
          have c5:=f.o.blk.cell (j:=0) rfl
          have I:=f.o.blk.frozen 0
          go_simp
          have c:=aa f.o.fin
          replace H:=aa (H.o.but ((aG.refl (fun b=>b=cb) _).setCell ⟨cb,0,av⟩ (.slice C E O) fun _=>rfl) fun e=>u e.symm)
          refine a.out _ _ ⟨H.o.cell (j:=0) rfl,H.o.cell (j:=1) rfl⟩ (fun A=> ?_);clear a K c5 I f
         rotate_left
         focus
          go_simp
          have D:=aa (c.o.lit d V)
          replace c:=aa D.o.1
          have G:=aa D.o.2
          replace H:=aa (H.o.alloc (ey #[.string (bs d),.string (bs V)] 89))
          clear D
          refine a.out _ _ ⟨H.o.cell (j:=0) rfl,H.o.cell (j:=1) rfl⟩ (fun A=> ?_);clear a K
          refine iV [0] (iW fun K a=> ?_)
          have c0:=c.o.blk.cell (j:=0) rfl
          go_simp
          refine a.out _ _ A (fun A=> ?_);clear a K c0
          refine iV [11] (iW fun K a=> ?_)
          refine gw (K:=lV) MN _ _ rfl rfl c.o.own (aB _) _ 0 1 1 [(d,V)] rfl rfl G.o (by have:=w.o;show s1.length+1<=1000000000;omega) ?_
          intro v5 w5 J F y
          have f:=aa (c.o.app J F y)
          replace H:=aa (H.o.but ((aG.refl _ _).grown F (fun k e _=>e)) (Own.dG c.o.own H.o (by decide)))
          clear F y G
          obtain⟨C,O,Y,p⟩:=Own.slice J
          clear J c
          generalize P:(s1++[(d,V)]).length=E at Y p
          clear P p
          subst Y
          refine a.out _ _ ⟨H.o.cell (j:=0) rfl,H.o.cell (j:=1) rfl⟩ (fun A=> ?_);clear a K
          refine iV [12] (iW fun K a=> ?_)
          have c5:=f.o.blk.cell (j:=0) rfl
          have I:=f.o.blk.frozen 0
          go_simp
          have c:=aa f.o.fin
          replace H:=aa (H.o.but ((aG.refl (fun b=>b=cb) _).setCell ⟨cb,0,av⟩ (.slice C E O) fun _=>rfl) fun e=>u e.symm)
          refine a.out _ _ ⟨H.o.cell (j:=0) rfl,H.o.cell (j:=1) rfl⟩ (fun A=> ?_);clear a K c5 I f
      all_goals
       refine wpAnyH_done (by kernel_rfl) ?_ _
       try simp only[Act.put,aA,az,ay]
       go_wp2_with fail
       go_roundw
       case rel=>exact⟨i+1,_,_,g,by go_num,aa ⟨c.o,by have:=HR.o.1;rw[au,ew];omega,by have e1:=Ro.o.1;have e2:=Ro.o.2;have:=MO z.o g HR.o.2 (by rw[<-w.o];exact M) (by rw[<-e1];exact qi);rw[<-e1,<-e2] at this;exact this⟩⟩
       case measure=>simp[RowKit.intOf];omega
    ·go_wp2_with fail;go_roundw
     case rel=>exact⟨i+1,s1,_,g,by go_num,aa ⟨m.o.1.below ((Below.refl _ wr).alloc (ah _) _),by have:=m.o.2.1;omega,G4 z.o g m.o.2.2 (dc (by rw[<-w.o];exact M))⟩⟩
     case measure=>simp[RowKit.intOf];omega
   ·obtain rfl:i=N:=by omega
    have hI:¬(i:Int)<i:=(by omega);go_wp2_with fail;go_ret;refine⟨_,s1, ?_, ?_,m.o.1⟩;·rw[<-w.o];rfl
    ·have h5:=m.o.2.2;rw[cg (by rw[<-z.o];exact ah _)] at h5;exact h5
 ·simp only[h0,if_false] at Z |-;obtain⟨a1,cp1,Ta,t⟩:=Own.slice HS.o.own;obtain⟨L,Q⟩:∃L,L=s.length:=⟨_,rfl⟩;rw[<-Q] at Ta t;subst Ta;have w:=aa Q;have aau:(L:Int)<=100001000:=by omega
  have cc:=HS.o.blk.cell (j:=0) rfl;have cl:=x.o.lim;clear Q t;go_enter Tryz.func93,Tryz.ntmps93;go_wp2_with fail;refine Z.o.mono ?_;rintro e w1 ⟨rfl,rfl⟩;go_wp2_with fail
  go_loopw [11] (fun iv wr=>iv=.int cu 0/\Hid (wr=w1)) (fun _ _=>0)
  case atStart=>exact⟨rfl,aa rfl⟩
  case round=>obtain⟨rfl,U⟩:=hrel;have U:=U.o;subst U;go_wp2_with fail;go_ret;exact⟨_,s,by rw[<-w.o];rfl,rfl,HS.o⟩
section
variable {w:World} {tb:Nat}
theorem yx {lo hi:ByteArray} {fn:Nat} {caps:Array Value} {G:World->Prop}
  (c:∀W,W=w.alloc (ey #[bR lo,bR hi] 125)->Calls Tryz.prog 77 #[ptr tb] W fun e X=>(e=eb (gu #[e7 av,bf cu 0])/\G X)\/
   ∃q,e=eb (gu #[ptr q,bf cu 0])/\X.cell? ⟨w.heap.size,0,av⟩=aD (bR lo)/\X.cell? ⟨w.heap.size,1,av⟩=aD (bR hi)/\
    Calls Tryz.prog 143 #[ptr tb,ptr q,iK #[bR lo,bR hi],.func (.func fn) #[] caps] X fun e X'=>∃b,e=eb (gu #[eX b,bf cu 0])/\G X'):
  Calls Tryz.prog 92 #[ptr tb,iK #[bR lo,bR hi],.func (.func fn) #[] caps] w fun e w'=>e=eb (bf cu 0)/\G w':=by
 obtain⟨a,m⟩:∃a,a=w.alloc (ey #[bR lo,bR hi] 125):=⟨_,rfl⟩
 have d:=aa (c a m)
 clear c
 unfold ptr at d |-
 go_enter Tryz.func92,Tryz.ntmps92
 go_wp2_with fail
 rw[<-m]
 refine d.o.mono ?_
 rintro e X (⟨rfl,h⟩|⟨q,rfl,s0,s1,C⟩)
 ·have H:=aa h;clear h m;go_wp2_with fail;go_ret;exact⟨rfl,H.o⟩
 ·have f:=aa C;clear C m;go_wp2_with fail;refine f.o.mono ?_;rintro e g ⟨b,rfl,h⟩;have H:=aa h;clear h s0 s1;go_wp2_with fail;go_ret;exact⟨rfl,H.o⟩
end
section
variable {E:Ev} {X0 X X' X1 X2 Y V w:World} {R0 R R' R1 R2:Nat->Prop} {ps:List (Nat×List UInt8)} {pg:List (Option Wl.Text)} {rt:List Nat} {M M' M1 M2:Nat->Option NV} {σ:Type} {s s1 s2:σ} {J:σ->(Nat->Prop)->(Nat->Option NV)->World->Prop} {f:(k:Nat)->Tr.E (k+1)->σ->σ×Bool} {fn:Nat} {caps:Array Value} {sz:σ->Nat} {lo hi:Tr.Tx}
theorem Rp:∀(k:Nat) (c:Tr.E (k+1)) {lo:Tr.Tx} {h:Option Tr.Tx},cS pg (k+1) c->Tr.Ok (k+1) lo h c->tw k c<=256*(Tr.ck (k+1) c).length
 |0,c,lo,h,hs,ho=>by obtain⟨page,hp,_⟩:=hs.1;have H:2*(Tr.its c).length<=Tr.sz 0 (Tr.its c):=Tr.jk 0 (Tr.its c);have h3:Tr.sz 0 (Tr.its c)<=510:=ho.2.1;rw[Tr.bC,hp];show 1+(Tr.its c).length<=256*(([page]:List Nat)++_).length;rw[au,ew];omega
 |k+1,c,lo,h,hs,ho=>by
  obtain⟨page,hp,_⟩:=hs.1;have H:=Tr.jk (k+1) (Tr.its c);have h3:=ho.2.1;have key:∀l:List (Tr.Tx×Tr.E (k+1)),(∀p∈l,cS pg (k+1) p.2/\∃lo h,Tr.Ok (k+1) lo h p.2)->Mu l<=256*(Tr.dW (k+1) l).length:=by
   intro l;induction l with
   |nil=>intro _;exact aB _
   |cons p l i=>intro hl;obtain⟨h4,L,h',a⟩:=hl p aE;have d:=Rp k p.2 h4 a;have e:=i fun x b=>hl x (aI _ b);rw[rT,Tr.f_,au];omega
  have h4:=key (Tr.its c) fun p hp=>⟨hs.2.2 p hp,uP ho p hp⟩;rw[Tr.bC,hp];show 1+(Tr.its c).length+Mu (Tr.its c)<=256*(([page]:List Nat)++_).length;rw[au,ew];omega
def Seen (J:σ->(Nat->Prop)->(Nat->Option NV)->World->Prop) (f:(k:Nat)->Tr.E (k+1)->σ->σ×Bool) (lo hi:Tr.Tx) (R:Nat->Prop) (M:Nat->Option NV) (s:σ) (l:List (Tr.Tx×Tr.Tx)) (pages:List Nat) (X X':World):Prop:=
 (l=[]/\pages=[]/\Bt J R M X s X')\/∃(K:Nat) (T:Tr.E (K+1)),l=Tr.cB K (Tr.its T)/\pages=Tr.ck (K+1) T/\pages.Nodup/\Tr.Ok (K+1) [] av T/\cS pg (K+1) T/\Bt J R M X (visit f lo hi K T s).1 X'
theorem MQ (A:Acc E X0 R0 ps pg rt fn caps f sz J) (m:J s R M X) {l:List (Tr.Tx×Tr.Tx)} {pages:List Nat} (C:iU pg (rt.getD E.place 0) l pages) (D:E.place<16) (hB:sz s<=1000000):
  Calls Tryz.prog 92 #[ptr E.tb,iK #[bR (bs lo),bR (bs hi)],.func (.func fn) #[] caps] X fun e X'=>e=eb (bf cu 0)/\Seen (pg:=pg) J f lo hi R M s l pages X X':=by
 refine yx fun W F=> ?_;have H:Below X.heap.size X W:=by rw[F];exact (Below.refl _ X).alloc (ah _) _
 have c:=A.ts _ _ _ _ m;have P:=c.still H (fun _ h=>h) (fun _ h=>dc h);have N:=A.grow _ _ _ _ R M W m P H (fun _ h=>dc h) (fun _ h=>h);have S:aU W X.heap.size 125 [bR (bs lo),bR (bs hi)]:=by rw[F];exact aU.new X _ _
 have n:=C;rcases C with⟨O,o,i⟩|⟨K,T,page,o,i,h3,h4,k,Q,q,G⟩;·refine (oF P D O).mono ?_;rintro e X1 ⟨rfl,a⟩;exact dc ⟨rfl,dc ⟨o,i,A.below (Bt.of m) (H.trans (a.mono H.size))⟩⟩
 ·have I:=h_ (lo:=[]) (hi:=[]) h3 h4 i k;have t:page<pg.length:=cM (by rw[I.page];rfl);refine (oG P D page K (aq K (Tr.its T)) o I t).mono ?_;rintro e X1 ⟨p,rg,cap,R',rfl,U,a,hp,xP,L,V⟩;have u:∀b,MB (upd M p (NV.got K (aq K (Tr.its T)) rg cap page [] [])) b->MB M b\/W.heap.size<=b:=by
   rintro b ⟨r,y,hr,d⟩;rcases aN hr with⟨rfl,rfl⟩|⟨_,hr⟩;·right;rcases d with rfl|rfl<;>assumption
   ·exact dc ⟨r,y,hr,d⟩
  have Y:=A.grow _ _ _ _ R' _ X1 N U a u L;have g:=S.below a S.lt;refine dn ⟨p,rfl,g.cell (j:=0) rfl,g.cell (j:=1) rfl,(Mx A lo hi K T _ p s R' _ X1 h3 Y (bG _ _ _) ⟨rfl,rfl,by rw[i];rfl,h4,k⟩ (by have:=Rp K T h4 k;have:=e8 (q▸G) fun x Z=>cM (oM n x (by rw[q];exact Z));have:=c.rm.rep.few;omega)).mono ?_⟩;rintro e X2 ⟨rfl,R5,M5,v,dP,w,z,B⟩;refine⟨_,rfl,dn ⟨K,T,Q,q,G,k,h4,R5,M5,v, ?_,fun b a=>w b (L b a),fun b aV=> ?_,fun r y hr=>B r y ?_⟩⟩
  ·refine ((aG.aJ (H.trans (a.mono H.size)) (fun b=>R b))).trans dP fun b hlt h=> ?_;rcases V b h with h|h;·exact h
   ·have:=H.size;omega
  ·have:=H.size;have:=a.size;rcases z b aV with h|h;·grind
   ·right;omega
  ·rw[aW (fun e=> ?_)];·exact hr
   ·have:=(P.mem.lt hr).1;omega
end
def fS (lim:Int) (lo hi:Tr.Tx) (k:Nat) (c:Tr.E (k+1)) (s:Tr.fB):Tr.fB×Bool:=
 ((if k=0 then ((aq k (Tr.its c)).map fun i=>((i.key,i.val):Tr.Tx×Tr.Tx)).foldl (fo lim lo hi) s else s),decide (((if k=0 then ((aq k (Tr.its c)).map fun i=>((i.key,i.val):Tr.Tx×Tr.Tx)).foldl (fo lim lo hi) s else s).length:Int)<lim))
theorem De (lim:Int) (lo hi:Tr.Tx):∀(l:Tr.fB) (s:Tr.fB),(l.foldl (fo lim lo hi) s).length<=s.length+l.length
 |[],s=>ah _
 |p::l,s=>by
  rw[List.foldl_cons];have h:=De lim lo hi l (fo lim lo hi s p);have H:(fo lim lo hi s p).length<=s.length+1:=by
   unfold fo
   split
   ·grind
   ·omega
  rw[a_];omega
section
variable {E:Ev} {X0 X X' w:World} {R0 R R':Nat->Prop} {ps:List (Nat×List UInt8)} {pg:List (Option Wl.Text)} {rt:List Nat} {M M':Nat->Option NV} {cb lb kb:Nat} {lim:Int} {lo hi:Tr.Tx}
structure JS (E:Ev) (X0:World) (R0:Nat->Prop) (ps:List (Nat×List UInt8)) (pg:List (Option Wl.Text)) (rt:List Nat) (cb lb kb:Nat) (lim:Int) (lo hi:Tr.Tx) (s:Tr.fB) (R:Nat->Prop) (M:Nat->Option NV) (X:World):Prop where
 ts:TS E X0 R0 R ps pg rt M X
 own:R cb/\X0.heap.size<=cb/\¬MB M cb
 lim:X.cell? ⟨lb,0,av⟩=aD (bf cu lim)
 ks:aU X kb 125 [bR (bs lo),bR (bs hi)]
 n1:lb≠cb/\kb≠cb
 row:∃v,aU X cb 95 [v]/\rU 0 X v s/\∀b,v.ownBlock=aD b->R b/\X0.heap.size<=b/\¬MB M b/\b≠lb/\b≠kb
theorem Fx (W:World) (args:Array Value):Sem.run Tryz.prog (callFunc 93 args) W=.ok (.enter 93 args) W:=by simp[callFunc,go_sem,Tryz.f93]
theorem MR:Acc E X0 R0 ps pg rt 93 #[ptr cb,ptr lb,ptr kb] (fS lim lo hi) List.length (JS E X0 R0 ps pg rt cb lb kb lim lo hi):=by
 refine⟨fun k c s=> ?_,Fx,fun _ _ _ _ h=>h.ts,fun s R M X R' M' X' h r d l w=> ?_,fun s R M X q k m c h g hn hs=> ?_⟩
 ·show (if k=0 then _ else s).length<=_
  split
  ·grind [De,aq,aT]
  ·omega
 ·obtain⟨v,n,p,o⟩:=h.row;refine⟨r,⟨w _ h.own.1,h.own.2.1,fun g=> ?_⟩,(d.cell (bD _ _ h.lim)).trans h.lim,h.ks.below d h.ks.lt,h.n1,v,n.below d n.lt,Own.below p d (ah _),fun b a=>⟨w _ (o b a).1,(o b a).2.1,fun g=> ?_,(o b a).2.2.2⟩⟩
  ·rcases l _ g with i|i;·exact h.own.2.2 i
   ·have:=n.lt;omega
  ·rcases l _ g with i|i;·grind
   ·have:=(Own.block p b a).2;omega
 ·obtain⟨v,n,p,o⟩:=h.row;have t:=h.ts.mem.nd q m g;have T:∀b,(b=cb\/v.ownBlock=aD b)->R b/\X0.heap.size<=b/\¬MB M b:=fun b a=>by
   rcases a with rfl|a;·exact h.own
   ·grind
  have j:Sb cb lb kb q (bs lo) (bs hi) lim m X v:=⟨h.lim,h.ks,t,fun b a=>by
   refine⟨?_, ?_,fun e=>(T b a).2.2 ⟨q,m,g,dc e⟩,fun e=>(T b a).2.2 ⟨q,m,g,dn e⟩⟩
   ·rcases a with rfl|a;·exact h.n1.1.symm
    ·grind
   ·rcases a with rfl|a;·exact h.n1.2.symm
    ·exact (o b a).2.2.2.2⟩
  refine (MP X cb lb kb q v s lo hi lim m j ⟨n,p,aG.refl _ _,dc rfl⟩ hs).mono ?_;rintro e X' ⟨v',s',rfl,u,B⟩;have W:m.level=k:=hn.level;have K:s'=(fS lim lo hi k c s).1:=by rw[u,W,hn.its];rfl
  have x:=h.ts.but.size;have d:=B.but;have P:=bD _ _ h.lim;have y:=h.ks.lt;have P:lb<X.heap.size:=P;have f:∀b,v'.ownBlock=aD b->(R b/\X0.heap.size<=b/\¬MB M b/\b≠lb/\b≠kb)\/X.heap.size<=b:=fun b a=>by
   rcases B.new with e|e;·grind
   ·exact dn (e b a)
  refine⟨by rw[K];rfl,fun b=>R b\/v'.ownBlock=aD b,⟨h.ts.own d (fun b _ e=>⟨(T b e).1,(T b e).2.1⟩) (h.ts.mem.keep d fun b H e=>(T b e).2.2 H) (fun b H=>⟨dc (h.ts.kM b H).1,(h.ts.kM b H).2⟩) (fun _ h=>dc h) (fun b a=> ?_),⟨dc h.own.1,h.own.2⟩,d.cell h.lim (fun e=>(j.n1 _ e).1 rfl),h.ks.but d (fun e=>(j.n1 _ e).2.1 rfl),h.n1,v',B.blk,by rw[<-K];exact B.own,fun b a=> ?_⟩,d.mono fun b _ e=>(T b e).1,fun _ h=>dc h,fun b a=> ?_⟩
  ·rcases a with a|a;·exact dc a
   ·exact (f b a).imp (fun h=>h.1) fun h=>⟨h,(Own.block B.own b a).2⟩
  ·refine⟨dn a, ?_⟩;rcases f b a with i|i;·exact i.2
   ·exact⟨by omega,fun H=>by have:=h.ts.mem.mu H;omega,by omega,by omega⟩
  ·grind
end
section
variable {w:World} {tb:Nat}
theorem JK {lo hi:ByteArray} {lim:Int} {Q:Value->World->Prop}
  (h:∀W,W=((w.alloc (ey #[bf cu lim] 3)).alloc (ey #[cx av 0 0] 95)).alloc (ey #[bR lo,bR hi] 125)->Calls Tryz.prog 92 #[ptr tb,iK #[bR lo,bR hi],.func (.func 93) #[] #[ptr (w.heap.size+1),ptr w.heap.size,ptr (w.heap.size+2)]] W fun e X=>e=eb (bf cu 0)/\∃(a:Option Addr) (n c:Nat),X.cell? ⟨w.heap.size+1,0,av⟩=aD (cx a n c)/\Q (cx a n c) X):
  Calls Tryz.prog 58 #[ptr tb,bR lo,bR hi,bf cu lim] w fun e w'=>∃v,e=eb (gu #[v,bf cu 0])/\Q v w':=by
 obtain⟨b,m⟩:∃b,b=((w.alloc (ey #[bf cu lim] 3)).alloc (ey #[cx av 0 0] 95)).alloc (ey #[bR lo,bR hi] 125):=⟨_,rfl⟩;have H:=aa (h b m);clear h;unfold ptr at H |-;go_enter Tryz.func58,Tryz.ntmps58;go_wp2_with fail;rw[<-m];refine H.o.mono ?_;rintro e X ⟨rfl,a,n,c,c0,d⟩;have f:=aa d;clear d m;go_wp2_with fail
 go_ret2
 exact⟨_,rfl,f.o⟩
end
structure aax (tb:Nat) (key:ByteArray) (vl:List UInt8) (L:Nat->Nat->Nat->Nat->World->Prop) (G:Int->World->Prop):Prop where
 search:∀q pr n cap X,L q pr n cap X->X.cell? ⟨pr,n,av⟩=aD (e7 (aD ⟨q,0,av⟩))/\n<=100/\Calls Tryz.prog 52 #[ptr q,bR key] X fun e X'=>
  (∃a:Nat,e=eb (gu #[bf cu a,eX false])/\a<=400/\∃rv rn rc,X'.cell? ⟨q,1,av⟩=aD (cx rv rn rc)/\∀W ib,W=X'.alloc (ey #[bR key,bR ⟨#[]⟩,e7 av] 122)->ib=X'.heap.size->Calls Tryz.prog 70 #[cx rv rn rc,bf cu a,cx (aD ⟨ib,0,av⟩) 1 1] W fun e gL=>
   ∃g n' c',e=eb (cx (aD ⟨g,0,av⟩) n' c')/\a<n'/\n'<=c'/\n'<=401/\(∃v,gL.cell? ⟨q,1,av⟩=aD v)/\gL.frozen? ⟨q,1,av⟩=false/\(∃v,gL.cell? ⟨g,a*3+1,av⟩=aD v)/\gL.frozen? ⟨g,a*3+1,av⟩=false/\g≠q/\
    Calls Tryz.prog 57 #[ptr tb,cx (aD ⟨pr,0,av⟩) (n+1) cap] ((gL.setCell ⟨q,1,av⟩ (cx (aD ⟨g,0,av⟩) n' c')).setCell ⟨g,a*3+1,av⟩ (bR (bs vl))) fun e w'=>∃c:Int,e=eb (bf cu c)/\G c w')\/
  (∃(a g o n' c':Nat) (v0:List UInt8),e=eb (gu #[bf cu a,eX true])/\a<n'/\n'<=400/\X'.cell? ⟨q,1,av⟩=aD (cx (aD ⟨g,o,av⟩) n' c')/\X'.cell? ⟨g,o+a*3+1,av⟩=aD (bR (bs v0))/\X'.frozen? ⟨g,o+a*3+1,av⟩=false/\(v0=vl->G 0 X')/\
   (v0≠vl->Calls Tryz.prog 57 #[ptr tb,cx (aD ⟨pr,0,av⟩) (n+1) cap] (X'.setCell ⟨g,o+a*3+1,av⟩ (bR (bs vl))) fun e w'=>∃c:Int,e=eb (bf cu c)/\G c w'))
section
variable {w:World} {tb:Nat}
theorem MT {key:ByteArray} {vl:List UInt8} {L:Nat->Nat->Nat->Nat->World->Prop} {G:Int->World->Prop} (Q:aax tb key vl L G) (V:key.size<=96) (j:vl.length<=56)
  (hF:Calls Tryz.prog 51 #[ptr tb,bR key] w fun e X=>(e=eb (gu #[cx av 0 0,bf cu 0])/\∀W,W=(X.alloc (ey #[bf cu 0,cx av 0 0,bf cu (-1),bR ⟨#[]⟩,bR ⟨#[]⟩,bf cu 0,bf cu 0,eX false] 127)).alloc (ey #[e7 (aD ⟨X.heap.size,0,av⟩)] 118)->L X.heap.size (X.heap.size+1) 0 1 W)\/
   ∃q pr n cap,e=eb (gu #[cx (aD ⟨pr,0,av⟩) (n+1) cap,bf cu 0])/\L q pr n cap X):
  Calls Tryz.prog 45 #[ptr tb,bR key,bR (bs vl)] w fun e w'=>∃c:Int,e=eb (bf cu c)/\G c w':=by
 have z:=aa Q
 have R:=aa hF
 have uD:¬(key.size:Int)>96:=by omega
 have OH:¬((bs vl).size:Int)>56:=by rw[aP];omega
 clear Q hF V j
 unfold ptr at z R |-
 go_enter Tryz.func45,Tryz.ntmps45
 go_wp2_with fail
 refine R.o.mono ?_
 rintro e X (⟨rfl,r⟩|⟨q,pr,n,cap,rfl,r⟩)
 ·obtain⟨A,M⟩:∃A,A=(X.alloc (ey #[bf cu 0,cx av 0 0,bf cu (-1),bR ⟨#[]⟩,bR ⟨#[]⟩,bf cu 0,bf cu 0,eX false] 127)).alloc (ey #[e7 (aD ⟨X.heap.size,0,av⟩)] 118):=⟨_,rfl⟩;have S:=r A M;obtain⟨P,Z,y⟩:=z.o.search _ _ _ _ _ S;simp only[bE] at y;have t:=aa y;have u:=aa M;clear r S y P Z M;go_wp2_with fail;rw[<-u.o];obtain⟨pr,T⟩:∃pr,pr=X.heap.size+1:=⟨_,rfl⟩;rw[<-T] at t |-;clear T u;obtain⟨q,U⟩:∃q,q=X.heap.size:=⟨_,rfl⟩;rw[<-U] at t |-;clear U;refine t.o.mono ?_;rintro e X2 (⟨a,rfl,ha,rv,rn,rc,c1,h⟩|⟨a,g,o,n',c',v0,rfl,B,K,c1,Y,fz,H,d⟩);·have LB:(a:Int)<=400:=(by omega);obtain⟨W2,s⟩:∃W2,W2=X2.alloc (ey #[bR key,bR ⟨#[]⟩,e7 av] 122):=⟨_,rfl⟩;obtain⟨ib,f⟩:∃ib,ib=X2.heap.size:=⟨_,rfl⟩;have m:=aa (h W2 ib s f);clear h;go_wp2_with fail;rw[<-s,<-f];clear s f;refine m.o.mono ?_;rintro e X3 ⟨g,n',c',rfl,B,C,K,⟨v1,v⟩,f1,⟨v2,D⟩,f2,x,i⟩;have E:(a:Int)<n':=(by omega);have F:(n':Int)<=401:=(by omega);obtain⟨X4,J⟩:∃X4,X4=X3.setCell ⟨q,1,av⟩ (cx (aD ⟨g,0,av⟩) n' c'):=⟨_,rfl⟩;have e1:X4.cell? ⟨q,1,av⟩=aD (cx (aD ⟨g,0,av⟩) n' c'):=(by rw[J];exact World.cell?_setCell_same _ _ _ v);have e2:X4.cell? ⟨g,a*3+1,av⟩=aD v2:=(by rw[J,World.cell?_setCell_other _ _ _ _ (by intro e;injection e with e;exact x e.symm)];exact D);have p:X4.heap[g]?=X3.heap[g]?:=(by rw[J];exact ((aG.refl (fun b=>b=q) X3).setCell ⟨q,1,av⟩ _ fun _=>rfl).block g (bD _ _ D) x);have e3:X4.frozen? ⟨g,a*3+1,av⟩=false:=(by unfold World.frozen? at f2 |-;rw[p];exact f2);rw[<-J] at i;have I:=aa i;clear i;go_wp2_with fail;rw[<-J];clear J v f1 D f2 c1;go_wp2_with fail;refine I.o.mono ?_;rintro e N ⟨c,rfl,k⟩;have l:=aa k;clear k;go_wp2_with fail;go_ret;exact⟨c,rfl,l.o⟩
  ·have E:(a:Int)<n':=(by omega);have F:(n':Int)<=400:=(by omega);by_cases j:v0=vl;·have l:=aa (H j);have O:(bs v0).toList=(bs vl).toList:=(by rw[j]);clear H d;go_wp2_with fail;go_ret;exact⟨0,rfl,l.o⟩
   ·have I:=aa (d j);have O:((bs v0).toList==(bs vl).toList)=false:=(by rw[bt,bt];exact beq_eq_false_iff_ne.2 j);clear H d j;go_wp2_with fail;refine I.o.mono ?_;rintro e N ⟨c,rfl,k⟩;have l:=aa k;clear k;go_wp2_with fail;go_ret;exact⟨c,rfl,l.o⟩
 ·have HL:=aa r;clear r;obtain⟨P,Z,y⟩:=z.o.search _ _ _ _ _ HL.o;have QC:(n:Int)<=100:=by omega
  have t:=aa y;clear y;go_wp2_with fail;clear P;refine t.o.mono ?_;rintro e X2 (⟨a,rfl,ha,rv,rn,rc,c1,h⟩|⟨a,g,o,n',c',v0,rfl,B,K,c1,Y,fz,H,d⟩);·have LB:(a:Int)<=400:=(by omega);obtain⟨W2,s⟩:∃W2,W2=X2.alloc (ey #[bR key,bR ⟨#[]⟩,e7 av] 122):=⟨_,rfl⟩;obtain⟨ib,f⟩:∃ib,ib=X2.heap.size:=⟨_,rfl⟩;have m:=aa (h W2 ib s f);clear h;go_wp2_with fail;rw[<-s,<-f];clear s f;refine m.o.mono ?_;rintro e X3 ⟨g,n',c',rfl,B,C,K,⟨v1,v⟩,f1,⟨v2,D⟩,f2,x,i⟩;have E:(a:Int)<n':=(by omega);have F:(n':Int)<=401:=(by omega);obtain⟨X4,J⟩:∃X4,X4=X3.setCell ⟨q,1,av⟩ (cx (aD ⟨g,0,av⟩) n' c'):=⟨_,rfl⟩;have e1:X4.cell? ⟨q,1,av⟩=aD (cx (aD ⟨g,0,av⟩) n' c'):=(by rw[J];exact World.cell?_setCell_same _ _ _ v);have e2:X4.cell? ⟨g,a*3+1,av⟩=aD v2:=(by rw[J,World.cell?_setCell_other _ _ _ _ (by intro e;injection e with e;exact x e.symm)];exact D);have p:X4.heap[g]?=X3.heap[g]?:=(by rw[J];exact ((aG.refl (fun b=>b=q) X3).setCell ⟨q,1,av⟩ _ fun _=>rfl).block g (bD _ _ D) x);have e3:X4.frozen? ⟨g,a*3+1,av⟩=false:=(by unfold World.frozen? at f2 |-;rw[p];exact f2);rw[<-J] at i;have I:=aa i;clear i;go_wp2_with fail;rw[<-J];clear J v f1 D f2 c1;go_wp2_with fail;refine I.o.mono ?_;rintro e N ⟨c,rfl,k⟩;have l:=aa k;clear k;go_wp2_with fail;go_ret;exact⟨c,rfl,l.o⟩
  ·have E:(a:Int)<n':=(by omega);have F:(n':Int)<=400:=(by omega);by_cases j:v0=vl;·have l:=aa (H j);have O:(bs v0).toList=(bs vl).toList:=(by rw[j]);clear H d;go_wp2_with fail;go_ret;exact⟨0,rfl,l.o⟩
   ·have I:=aa (d j);have O:((bs v0).toList==(bs vl).toList)=false:=(by rw[bt,bt];exact beq_eq_false_iff_ne.2 j);clear H d j;go_wp2_with fail;refine I.o.mono ?_;rintro e N ⟨c,rfl,k⟩;have l:=aa k;clear k;go_wp2_with fail;go_ret;exact⟨c,rfl,l.o⟩
end
section
variable {E:Ev} {X0 X X' Y V w:World} {R0 R R':Nat->Prop} {ps:List (Nat×List UInt8)} {pg:List (Option Wl.Text)} {rt:List Nat} {M M':Nat->Option NV} {K:Nat} {T:Tr.E (K+1)} {key vl:List UInt8} {q pr n cap:Nat} {pw:Value} {m:NV} {c:Tr.E 1} {path out:List Nat} {pre post:List (Tr.Tx×Tr.Tx)}
theorem gM.still {lv:Nat} {c:Tr.E (lv+1)} {rl:List Nat} (f:gM E X0 R0 ps pg rt key K T lv q pw X R M m c path pre post out rl) (H:Below X.heap.size X X'):gM E X0 R0 ps pg rt key K T lv q pw X' R M m c path pre post out rl:=
 ⟨f.ts.still H (fun _ h=>h) (fun _ h=>dc h),f.above,f.lS,f.mI,f.its,f.own,f.was,f.st,f.ok,f.nd,Own.below f.row H (ah _),f.A2,f.S2,f.S3,f.yg,f.PR,f.PS⟩
theorem tj (l:Tr.fB):aq 0 l=l.map fun p:Tr.Tx×Tr.Tx=>(⟨p.1,p.2,av⟩:It):=rfl
theorem rV (l:Tr.fB) (key:List UInt8):posOf (aq 0 l) key=(l.takeWhile fun x=>Tr.lt x.1 key).length:=by rw[tj];unfold posOf;rw[List.takeWhile_map,aT];rfl
theorem qz {l:Tr.fB} {key:List UInt8} (hs:Tr.cA l):(eD (aq 0 l) key=false->∀x∈l,x.1≠key)/\(eD (aq 0 l) key=true->∃h:posOf (aq 0 l) key<l.length,(l[posOf (aq 0 l) key]).1=key):=by
 have hp:=rV l key;constructor
 ·intro H x g e;obtain⟨j,d⟩:=Tr.jY hs hp;have hd:x∈l.drop (posOf (aq 0 l) key):=by rw[d];exact dz.2 ⟨g,by rw[e,Tr.lt_irrefl];rfl⟩
  have c:posOf (aq 0 l) key<l.length:=by
   rcases Nat.lt_or_ge (posOf (aq 0 l) key) l.length with h|h;·exact h
   ·rw[List.drop_eq_nil_of_le h] at hd;cases hd
  have i:(l[posOf (aq 0 l) key]).1=key:=by
   have hc:l.drop (posOf (aq 0 l) key)=l[posOf (aq 0 l) key]::l.drop (posOf (aq 0 l) key+1):=cw c;rw[hc] at hd;have hr:(l.drop (posOf (aq 0 l) key)).Pairwise fun a b=>Tr.lt a.1 b.1=true:=hs.sublist (List.drop_sublist _ _);rw[hc] at hr;rcases aX.1 hd with rfl|hd;·exact e
   ·have h3:=(cF.1 hr).1 x hd;rw[e] at h3;have h4:l[posOf (aq 0 l) key]∈l.filter (fun x=> !Tr.lt x.1 key):=(by rw[<-d,hc];exact aE);have f:=(dz.1 h4).2;rw[h3] at f;cases f
  have hg:(aq 0 l)[posOf (aq 0 l) key]?=aD ⟨(l[posOf (aq 0 l) key]).1,(l[posOf (aq 0 l) key]).2,av⟩:=by grind [tj,aK]
  unfold eD at H;rw[hg] at H;have:decide ((l[posOf (aq 0 l) key]).1=key)=false:=H;rw[i] at this;simp at this
 ·grind [eD,Nat.lt_or_ge,posOf,aq,tj,aK,List.getElem?_eq_none]
theorem Tb (f:gM E X0 R0 ps pg rt key K T 0 q (cx (aD ⟨pr,0,av⟩) n cap) X R M m c path pre post out (q::path).reverse) {S:Nat->Prop} (a:aG S X Y) (hS:∀b,S b->b=q\/b=m.rg) {l:List (Tr.Tx×Tr.E 0)} {g c':Nat} {d:NV} (H:d=⟨m.level,aq 0 l,g,0,c',m.page,m.lo,m.hi,m.was,m.at_,m.fresh,true⟩) (t:Nd Y q d) (j:aY 0 Y (cx (aD ⟨g,0,av⟩) (aq 0 l).length c') (aq 0 l)) (hg:g=m.rg\/X.heap.size<=g)
  (C:Tr.Ord m.lo (jA m.hi) (l:Tr.fB)) (u:Tr.sz 0 l<=664) (v:(Tr.ck (K+1) T).Nodup) (w:∀x∈Tr.ck (K+1) T,(pg.getD x av).isSome=true):
  ∃R',GZ E X0 R0 R' ps pg rt (upd M q d) Y q d c l K T path pre post out pr:=by
 have Z:=f.ts.mem;have k:∀b,MB (upd M q d) b->MB M b\/b=g:=by
  rintro b ⟨r,y,hr,z⟩;rcases aN hr with⟨rfl,rfl⟩|⟨_,hr⟩
  ·rcases z with rfl|z;·exact dc ⟨_,m,f.lS,dc rfl⟩
   ·grind
  ·exact dc ⟨r,y,hr,z⟩
 have o:∀b,S b->MB M b:=fun b a=>by
  rcases hS b a with e|e;·exact⟨q,m,f.lS,dc e⟩
  ·exact⟨q,m,f.lS,dn e⟩
 have p:Mem Y (upd M q d):=Z.renew f.lS d a (fun b a=>(hS b a).imp_right fun e=>⟨e,f.own⟩) t (by rw[H]) (by rw[H];exact j) (by
  rw[H];rcases hg with e|e;·exact dc ⟨e,f.own⟩
  ·exact dn e)
 have D:g<Y.heap.size:=(Own.block j g rfl).2
 have A:TS E X0 R0 (fun b=>R b\/b=g) ps pg rt (upd M q d) Y:=f.ts.own a (fun b _ a=>f.ts.kM b (o b a)) p (fun b a=>by
  rcases k b a with h|rfl;·exact⟨dc (f.ts.kM b h).1,(f.ts.kM b h).2⟩
  ·refine⟨dn rfl, ?_⟩;rcases hg with e|e;·rw[e];exact (f.ts.kM _ ⟨q,m,f.lS,dn rfl⟩).2
   ·exact aH f.ts.but.size e) (fun _ h=>dc h) (fun b a=>by
  rcases a with a|rfl;·exact dc a
  ·rcases hg with e|e;·rw[e];exact dc (f.ts.kM _ ⟨q,m,f.lS,dn rfl⟩).1
   ·exact dn ⟨e,D⟩)
 have B:q∉path:=fun h=>(aR.1 f.nd).2.2 q h q aE rfl;have F:=f.A2 pr rfl;have G:=(Own.block f.row pr rfl).2;obtain⟨page,I,-⟩:=f.st.1;have i:d.lo=m.lo/\d.hi=m.hi:=by rw[H];exact⟨rfl,rfl⟩
 refine⟨_,A, ?_,bG _ _ _,by rw[H];exact f.mI.level,by rw[H],by rw[H];exact f.mI.page,by rw[H];exact f.was,⟨u,by rw[i.1,i.2];exact Tr.MK C⟩,dc (by rw[I];rfl),f.nd, ?_,⟨dc F.1,fun s=> ?_⟩,v,w,f.yg⟩;·rw[i.1,i.2];exact f.above.frame fun r hr=>aW fun e=>B (by rw[<-e];exact hr)
 ·exact (Own.lies f.row).but a fun hs=>F.2 (o _ hs)
 ·rcases k _ s with s|s;·exact F.2 s
  ·rcases hg with e|e;·exact F.2 (by rw[s,e];exact⟨q,m,f.lS,dn rfl⟩)
   ·omega
end
section
variable {E:Ev} {X0 X X' Y V w:World} {R0 R R':Nat->Prop} {ps:List (Nat×List UInt8)} {pg:List (Option Wl.Text)} {rt:List Nat} {M M':Nat->Option NV} {K:Nat} {T:Tr.E (K+1)} {key vl:List UInt8} {q pr cap:Nat} {m:NV} {c:Tr.E 1} {path out:List Nat} {pre post:List (Tr.Tx×Tr.Tx)}
def w_ (p:Tr.Tx×Tr.Tx):It:=⟨p.1,p.2,av⟩
theorem JN {lo:Tr.Tx} {h:Option Tr.Tx} {l:Tr.fB} (o:Tr.Ord lo h l):∀i∈aq 0 l,i.key.length<=200/\i.val.length<=200:=by intro i hi;rw[tj] at hi;obtain⟨p,hp,rfl⟩:=List.mem_map.1 hi;exact⟨aH (o.keys p hp) (by decide),aH (o.vals p hp) (by decide)⟩
theorem P0 (l:Tr.fB):2*l.length<=Tr.sz 0 (l:List (Tr.Tx×Tr.E 0)):=Tr.jk 0 (l:List (Tr.Tx×Tr.E 0))
theorem Fy (l:Tr.fB):(aq 0 l).length=l.length:=by rw[tj,aT]
theorem tq {n:Nat} (h:bu dH X pr 0 (q::path).reverse) (hn:path.length=n):X.cell? ⟨pr,n,av⟩=aD (e7 (aD ⟨q,0,av⟩)):=by
 subst hn;have T:(q::path).reverse.getD path.length 0=q:=mK (path:=path) (by rw[cg (by simp)]) rfl;have H:path.length<(q::path).reverse.length:=by simp
 have:=h.at path.length 0 (by decide) H (e7 (aD ⟨(q::path).reverse[path.length],0,av⟩)) rfl;rw[show 0+(path.length*dH.size+0)=path.length from by show 0+(path.length*1+0)=path.length;omega] at this;rw[bZ,aK H] at T;have e:(q::path).reverse[path.length]=q:=T;rw[e] at this;exact this
theorem tu (f:gM E X0 R0 ps pg rt key K T 0 q (cx (aD ⟨pr,0,av⟩) (path.length+1) cap) X R M m c path pre post out (q::path).reverse) {S:Nat->Prop} (u:aG S X Y) (hS:∀b,S b->b=q\/b=m.rg) {l:Tr.fB} {g c':Nat} (i:aU Y q 127 (m.cells.set 1 (cx (aD ⟨g,0,av⟩) l.length c'))) (a:aY 0 Y (cx (aD ⟨g,0,av⟩) l.length c') (aq 0 l)) (hg:g=m.rg\/X.heap.size<=g)
  (t:Tr.Ord m.lo (jA m.hi) l) (k:Tr.sz 0 (l:List (Tr.Tx×Tr.E 0))<=664) (n:(Tr.ck (K+1) T).Nodup) (o:∀x∈Tr.ck (K+1) T,(pg.getD x av).isSome=true) (v:ps.length<=60000000) (D:E.place<16):
  Calls Tryz.prog 57 #[ptr E.tb,cx (aD ⟨pr,0,av⟩) (path.length+1) cap] Y fun e w'=>∃c:Int,e=eb (bf cu c)/\Done E X0 R0 ps pg rt (pre++l++post) (Tr.ck (K+1) T) c w'/\(Tr.sz 0 (l:List (Tr.Tx×Tr.E 0))<=510->c=0):=by
 obtain⟨p,d⟩:∃p:NV,p=⟨m.level,aq 0 l,g,0,c',m.page,m.lo,m.hi,m.was,m.at_,m.fresh,true⟩:=⟨_,rfl⟩;have j:=iB a;have H:=Fy l;have w:=P0 l;have r:Nd Y q p:=by
  refine⟨?_,by rw[d];exact Own.lies a, ?_⟩;·rw[d];have e:NV.cells ⟨m.level,aq 0 l,g,0,c',m.page,m.lo,m.hi,m.was,m.at_,m.fresh,true⟩=m.cells.set 1 (cx (aD ⟨g,0,av⟩) l.length c'):=(by unfold NV.cells;simp only[H];rfl);rw[e];exact i
  ·rw[d];exact⟨by show (aq 0 l).length<=400;omega,JN t,by show (aq 0 l).length<=c'/\_;rw[H];exact j.2⟩
 rw[<-H] at a;obtain⟨R',s⟩:=Tb f u hS d r a hg t k n o;refine (wV s v D).mono ?_;rintro e w' ⟨z,rfl,y,A⟩;obtain⟨page,C,-⟩:=f.st.1;exact⟨z,rfl,y,fun h=>A h (by rw[C];rfl)⟩
theorem tv (f:gM E X0 R0 ps pg rt key K T 0 q (cx (aD ⟨pr,0,av⟩) (path.length+1) cap) X R M m c path pre post out (q::path).reverse):∃lf:Tr.fB,m.its=lf.map w_/\Tr.Ord m.lo (jA m.hi) lf/\Tr.sz 0 (lf:List (Tr.Tx×Tr.E 0))<=510/\KS m.its/\Tr.cB K (Tr.its T)=pre++lf++post/\lf.length<=255/\m.ro=0/\aY 0 X (cx (aD ⟨m.rg,0,av⟩) m.its.length m.cap) m.its:=by
 have h:Tr.Ord m.lo (jA m.hi) (Tr.cB 0 (Tr.its c)):=Tr.td f.ok;have H:Tr.sz 0 (Tr.its c)<=510:=f.ok.2.1;have h3:2*(Tr.its c).length<=Tr.sz 0 (Tr.its c):=Tr.jk 0 (Tr.its c);have h4:=f.ts.mem.own q m f.lS f.own;have a:(Tr.its c).length<=255:=by omega
 exact⟨(Tr.its c:Tr.fB),f.its,h,H,wu (by rw[f.its,dJ];exact (iI f.ok.2.2).1),f.above.cB,a,h4.1,h4.2⟩
theorem P5 (f:gM E X0 R0 ps pg rt key K T 0 q (cx (aD ⟨pr,0,av⟩) (path.length+1) cap) X R M m c path pre post out (q::path).reverse) (U:key.length<=96) (hv:vl.length<=56) (V:iU pg (rt.getD E.place 0) (Tr.cB K (Tr.its T)) (Tr.ck (K+1) T)) (z:(Tr.ck (K+1) T).Nodup) (hq:ps.length<=60000000) (Z:E.place<16):
  Calls Tryz.prog 52 #[ptr q,bR (bs key)] X fun e X'=>
  (∃a:Nat,e=eb (gu #[bf cu a,eX false])/\a<=400/\∃rv rn rc,X'.cell? ⟨q,1,av⟩=aD (cx rv rn rc)/\∀W ib,W=X'.alloc (ey #[bR (bs key),bR ⟨#[]⟩,e7 av] 122)->ib=X'.heap.size->Calls Tryz.prog 70 #[cx rv rn rc,bf cu a,cx (aD ⟨ib,0,av⟩) 1 1] W fun e gL=>
   ∃g n' c',e=eb (cx (aD ⟨g,0,av⟩) n' c')/\a<n'/\n'<=c'/\n'<=401/\(∃v,gL.cell? ⟨q,1,av⟩=aD v)/\gL.frozen? ⟨q,1,av⟩=false/\(∃v,gL.cell? ⟨g,a*3+1,av⟩=aD v)/\gL.frozen? ⟨g,a*3+1,av⟩=false/\g≠q/\
    Calls Tryz.prog 57 #[ptr E.tb,cx (aD ⟨pr,0,av⟩) (path.length+1) cap] ((gL.setCell ⟨q,1,av⟩ (cx (aD ⟨g,0,av⟩) n' c')).setCell ⟨g,a*3+1,av⟩ (bR (bs vl))) fun e w'=>∃c:Int,e=eb (bf cu c)/\Done E X0 R0 ps pg rt (Tr.put (Tr.cB K (Tr.its T)) key vl) (Tr.ck (K+1) T) c w')\/
  (∃(a g o n' c':Nat) (v0:List UInt8),e=eb (gu #[bf cu a,eX true])/\a<n'/\n'<=400/\X'.cell? ⟨q,1,av⟩=aD (cx (aD ⟨g,o,av⟩) n' c')/\X'.cell? ⟨g,o+a*3+1,av⟩=aD (bR (bs v0))/\X'.frozen? ⟨g,o+a*3+1,av⟩=false/\(v0=vl->Done E X0 R0 ps pg rt (Tr.put (Tr.cB K (Tr.its T)) key vl) (Tr.ck (K+1) T) 0 X')/\
   (v0≠vl->Calls Tryz.prog 57 #[ptr E.tb,cx (aD ⟨pr,0,av⟩) (path.length+1) cap] (X'.setCell ⟨g,o+a*3+1,av⟩ (bR (bs vl))) fun e w'=>∃c:Int,e=eb (bf cu c)/\Done E X0 R0 ps pg rt (Tr.put (Tr.cB K (Tr.its T)) key vl) (Tr.ck (K+1) T) c w')):=by
 obtain⟨lf,fQ,N,hsz,C6,rO,K_,w,hown⟩:=tv f
 have hlen:m.its.length=lf.length:=by rw[fQ,aT]
 have A:=oM V
 have B:=f.ts.mem.nd q m f.lS
 have p4:posOf m.its key=(lf.takeWhile fun x=>Tr.lt x.1 key).length:=by rw[fQ];exact rV lf key
 have PO:=vF m.its key
 have Df:Tr.put (Tr.cB K (Tr.its T)) key vl=pre++Tr.put lf key vl++post:=by rw[rO];exact Tr.PV f.S2 f.S3
 have Rq:=N.put (v:=vl) f.PR f.PS U hv
 have WV:Tr.sz 0 (Tr.put lf key vl:List (Tr.Tx×Tr.E 0))<=664:=by have:=Tr.MM (key:=key) (v:=vl) lf;omega
 have y8:m.rg≠q:=by have:=f.ts.mem.EK f.lS f.lS;exact this
 refine (lq B C6 key).mono ?_
 rintro e X' ⟨rfl,C⟩
 have f':=f.still C
 have O:=B.still C
 have i:aY 0 X' (cx (aD ⟨m.rg,0,av⟩) m.its.length m.cap) m.its:=Own.below hown C (ah _)
 have GN:=(f'.ts.mem.lt f.lS)
 have y:=O.c1
 rw[w] at y
 have kD:=qz (key:=key) N.mG
 rw[<-show m.its=aq 0 lf from fQ] at kD
 obtain⟨a,ha⟩:∃a,a=posOf m.its key:=⟨_,rfl⟩
 rw[<-ha] at p4 PO |-
 have WW:=Tr.MH (v:=vl) N.mG p4
 cases ht:eD m.its key with
 |false=>
  have hno:=kD.1 ht;have l:=Tr.MG (v:=vl) N.mG p4 hno;left;refine⟨a,rfl,by omega,_,_,_,y,fun W ib hW hib=> ?_⟩;have r:Below X'.heap.size X' W:=by rw[hW];exact (Below.refl _ X').alloc (ah _) _
  have D:aU W ib 122 [bR (bs key),bR ⟨#[]⟩,e7 av]:=by rw[hW,hib];exact aU.new X' _ _
  have jD:bu ak W ib 0 [⟨key,[],av⟩]:=bu.fN D rfl;have WX:aY 0 W (cx (aD ⟨m.rg,0,av⟩) m.its.length m.cap) m.its:=Own.below i r (ah _);refine (wL WX (aB _) (by omega) jD (fun k U=> ?_) ⟨_,D⟩ PO).mono ?_;·have e:m.rg=k:=Option.some.inj U;have:=GN.2;omega
  rintro e gL ⟨v',rfl,F,Kk,Wt,TY⟩;obtain⟨J,P⟩:∃J,J=m.its.take a++⟨key,[],av⟩::m.its.drop a:=⟨_,rfl⟩;rw[<-P] at F;have aaN:J.length=m.its.length+1:=by rw[P,au,a_,aO,aZ];omega
  obtain⟨g,c',rfl,-,mw,hgc⟩:=Own.form F (by omega);have Yd:g=m.rg\/W.heap.size<=g:=by
   rcases Wt with e|e;·left;exact Option.some.inj e
   ·exact dn (e g rfl)
  have hsW:=r.size;have JL:g≠q:=by
   rcases Yd with e|e;·rw[e];exact y8
   ·have:=GN.1;omega
  have hnb:¬(Value.slice (aD ⟨m.rg,0,av⟩) m.its.length m.cap).ownBlock=aD q:=fun e=>y8 (Option.some.inj e);have Fz:aU gL q 127 m.cells:=(O.blk.below r GN.1).but Kk hnb;have H:a<J.length:=by omega
  have Q:J[a]=⟨key,[],av⟩:=by have e:J[a]?=aD ⟨key,[],av⟩:=(by rw[P,iy (by rw[aO];omega),aO,ct (by omega),Nat.sub_self];rfl);rw[aK H] at e;exact Option.some.inj e
  have s:=bh (Own.lies F) a H;have d:=vW J a 1 H (by decide) ⟨key,vl,av⟩ (bR (bs vl)) (by rw[Q];rfl);have G:J.set a ⟨key,vl,av⟩=(Tr.put lf key vl).map w_:=by rw[<-l,P,List.set_append_right _ _ (by rw[aO];omega),aO,ct (by omega),Nat.sub_self,ay];rw[fQ,<-List.map_take,<-List.map_drop,bQ];rfl
  have n:(Tr.put lf key vl).length=J.length:=by rw[<-aT (f:=w_),<-G,bP]
  obtain⟨Y,MU⟩:∃Y,Y=gL.setCell ⟨q,1,av⟩ (cx (aD ⟨g,0,av⟩) J.length c'):=⟨_,rfl⟩;have FA:aG (fun b=>b=q) gL Y:=by rw[MU];exact (aG.refl (fun b=>b=q) gL).setCell _ _ fun _=>rfl
  have Tc:aY 0 Y (cx (aD ⟨g,0,av⟩) J.length c') J:=Own.but F FA fun b C e=>JL (by have S:g=b:=Option.some.inj C;rw[S,e]);have JO:aY 0 (Y.setCell ⟨g,a*3+1,av⟩ (bR (bs vl))) (cx (aD ⟨g,0,av⟩) (Tr.put lf key vl).length c') ((Tr.put lf key vl).map w_):=by have t:=(World.ownsRow.stored Tc (a*3+1) (bR (bs vl))).1;rw[<-G,n];unfold aY Own;rw[d,bP];exact t
  have Td:aU (Y.setCell ⟨g,a*3+1,av⟩ (bR (bs vl))) q 127 (m.cells.set 1 (cx (aD ⟨g,0,av⟩) (Tr.put lf key vl).length c')):=by rw[n];have t:aU Y q 127 (m.cells.set 1 (cx (aD ⟨g,0,av⟩) J.length c')):=(by rw[MU];exact Fz.set 1 _);exact t.but ((aG.refl (fun b=>b=g) Y).setCell _ _ fun _=>rfl) fun e=>JL e.symm
  refine⟨g,J.length,c',rfl,H,hgc,by omega,⟨_,Fz.cell (j:=1) rfl⟩,Fz.frozen 1,⟨_,by have:=s.2.1;rw[bE] at this;exact this⟩,Own.frozen F _,JL, ?_⟩;rw[<-MU,Df];have TG:aG (fun b=>b=q\/b=m.rg) X' Y:=((aG.aJ r (fun b=>b=q\/b=m.rg)).trans Kk (fun b _ e=>dn (Option.some.inj e).symm)).trans FA fun b _ e=>dc e;refine (tu f' (TG.trans ((aG.refl (fun b=>b=g) Y).setCell ⟨g,a*3+1,av⟩ (bR (bs vl)) fun _=>rfl) (fun b hlt e=> ?_)) (fun b h=>h) Td JO (Yd.imp_right fun h=>aH hsW h) Rq WV z A hq Z).mono fun _ _ h=>h.imp fun _ h=>⟨h.1,h.2.1⟩;rcases Yd with S|S;·exact dn (by rw[e,S])
  ·have e3:b=g:=e;omega
 |true=>
  right;obtain⟨u,hkk⟩:=kD.2 ht;rw[<-ha] at u;have p:(lf[a]'u).1=key:=by have h:=hkk;simp only[<-ha] at h;exact h
  have H:a<m.its.length:=by omega
  have l:=WW u p;have Q:m.its[a]=⟨key,(lf[a]'u).2,av⟩:=by have e:m.its[a]?=aD ⟨(lf[a]'u).1,(lf[a]'u).2,av⟩:=(by rw[fQ,cD,aK u];rfl);rw[aK H] at e;rw[Option.some.inj e,p]
  have s:=bh O.row a H;rw[Q,w] at s;obtain⟨cur,nS⟩:=f'.ts.mem.ty q m f.lS;refine⟨a,m.rg,0,m.its.length,m.cap,(lf[a]'u).2,rfl,H,by omega,y,s.2.1,by simp[World.frozen?,nS],fun he=> ?_,fun _=> ?_⟩
  ·have I:(key,vl)∈Tr.cB K (Tr.its T):=(by rw[rO,<-he,<-p];exact aj.2 (dc (aj.2 (dn (bI u)))));have L:Tr.cA (Tr.cB K (Tr.its T)):=by
    have h5:=V;rcases h5 with⟨_,e,_⟩|⟨k',t',_,_,_,_,_,h6,h7,_⟩;·rw[e];exact .nil
    ·rw[h7];exact (Tr.td h6).mG
   refine dc ⟨rfl,R,M,ps,pg,rt.getD E.place 0,Tr.ck (K+1) T, ?_,by omega, ?_,⟨rfl,fun _ _ _=>rfl,fun x t h2=>absurd t h2,fun x t h2=>absurd t h2,rfl⟩⟩;·rw[gQ rfl (by rw[f'.ts.rm.rep.vw];exact Z)];exact f'.ts
   ·rw[Tr.MJ L I];exact V
  ·have G:m.its.set a ⟨key,vl,av⟩=(Tr.put lf key vl).map w_:=(by rw[<-l,fQ,List.map_set];rfl);have n:(Tr.put lf key vl).length=m.its.length:=(by rw[<-aT (f:=w_),<-G,bP]);have d:=vW m.its a 1 H (by decide) ⟨key,vl,av⟩ (bR (bs vl)) (by rw[Q];rfl);rw[show 0+a*3+1=a*3+1 by omega,Df];have hoY:aY 0 (X'.setCell ⟨m.rg,a*3+1,av⟩ (bR (bs vl))) (cx (aD ⟨m.rg,0,av⟩) (Tr.put lf key vl).length m.cap) ((Tr.put lf key vl).map w_):=(by have t:=(World.ownsRow.stored i (a*3+1) (bR (bs vl))).1;rw[<-G,n];unfold aY Own;rw[d,bP];exact t);have QM:aG (fun b=>b=m.rg) X' (X'.setCell ⟨m.rg,a*3+1,av⟩ (bR (bs vl))):=(aG.refl (fun b=>b=m.rg) X').setCell _ _ fun _=>rfl;have Td:aU (X'.setCell ⟨m.rg,a*3+1,av⟩ (bR (bs vl))) q 127 (m.cells.set 1 (cx (aD ⟨m.rg,0,av⟩) (Tr.put lf key vl).length m.cap)):=(by have e:m.cells.set 1 (cx (aD ⟨m.rg,0,av⟩) (Tr.put lf key vl).length m.cap)=m.cells:=(by rw[n];unfold NV.cells;rw[w];rfl);rw[e];exact O.blk.but QM fun e=>y8 e.symm);exact (tu f' QM (fun b e=>dn e) Td hoY (dc rfl) Rq WV z A hq Z).mono fun _ _ h=>h.imp fun _ h=>⟨h.1,h.2.1⟩
end
section
variable {E:Ev} {X0 X X' Y V w:World} {R0 R R':Nat->Prop} {ps:List (Nat×List UInt8)} {pg:List (Option Wl.Text)} {rt:List Nat} {key vl:List UInt8} {q pr:Nat}
def Rr:Tr.E 1:=Tr.mk ⟨av,false⟩ ([]:List (Tr.Tx×Tr.E 0))
theorem P6 (h:TS E X0 R0 R ps pg rt (fun _=>av) V) (a:Below V.heap.size V Y) (w:V.heap.size<=q) (F:V.heap.size<=pr) (o:pr≠q) {g c':Nat} {m:NV} (hg:V.heap.size<=g) (N:g≠pr) (H:m=⟨0,aq 0 [((key,vl):Tr.Tx×Tr.E 0)],g,0,c',-1,[],[],0,0,false,true⟩) (c:Nd Y q m) (d:aY 0 Y (cx (aD ⟨g,0,av⟩) 1 c') (aq 0 [((key,vl):Tr.Tx×Tr.E 0)])) (i:bu dH Y pr 0 [q]) (D:pr<Y.heap.size) (j:key.length<=96) (z:vl.length<=56):
  ∃R',GZ E X0 R0 R' ps pg rt (upd (fun _=>av) q m) Y q m Rr ([(key,vl)]:List (Tr.Tx×Tr.E 0)) 0 Rr [] [] [] [] pr:=by
 have K:Tr.Ord [] av ([(key,vl)]:Tr.fB):=Tr.Ord.put (key:=key) (v:=vl) (l:=[]) ⟨.nil,fun _ h=>(by cases h),fun _ h=>(by cases h),fun _ h=>(by cases h),fun _ h=>(by cases h)⟩ (Tr.nil_le _) trivial j z;have A:q<Y.heap.size/\g<Y.heap.size:=⟨c.blk.lt,(Own.block d g rfl).2⟩;have W:m.rg=g:=by rw[H]
 have k:Mem Y (upd (fun _=>av) q m):=h.mem.add a w (by rw[W];exact hg) c ⟨by rw[H],by rw[H];exact d⟩;have n:∀b,MB (upd (fun _=>av) q m) b->b=q\/b=g:=by
  rintro b ⟨r,y,hr,j⟩;rcases aN hr with⟨rfl,rfl⟩|⟨_,hr⟩
  ·rcases j with rfl|j;·exact dc rfl
   ·exact dn (j.trans W)
  ·cases hr
 have G:=h.but.size
 have p:TS E X0 R0 (fun b=>R b\/b=q\/b=g\/b=pr) ps pg rt (upd (fun _=>av) q m) Y:=h.own (S:=fun _=>False) (aG.aJ a _) (fun _ _ f=>f.elim) k (fun b a=>by
  rcases n b a with rfl|rfl;·exact⟨dn (dc rfl),by omega⟩
  ·exact⟨dn (dn (dc rfl)),by omega⟩) (fun _ h=>dc h) (fun b a=>by
  rcases a with a|rfl|rfl|rfl;·exact dc a
  ·right;omega
  ·right;omega
  ·right;omega)
 have t:m.lo=[]:=by rw[H]
 have u:m.hi=[]:=by rw[H]
 refine⟨_,p, ?_,bG _ _ _,by rw[H],by rw[H],by rw[H];rfl,by rw[H];rfl,⟨?_, ?_⟩,dn ⟨rfl,List.cons_ne_nil _ _⟩,by simp,i,⟨dn (dn (dn rfl)),fun s=> ?_⟩,List.nodup_nil,fun x B=>(by cases B),by decide⟩;·rw[t,u];exact .top
 ·show Tr.sz 0 ([(key,vl)]:List (Tr.Tx×Tr.E 0))<=664;have C:=Tr.MM (key:=key) (v:=vl) ([]:Tr.fB);refine aH C ?_;show 0+_<=664;omega
 ·show Tr.Rw 0 m.lo (jA m.hi) _;rw[t,u];exact Tr.MK K
 ·rcases n _ s with e|e;·exact o e
  ·exact N e.symm
theorem P7 (h:TS E X0 R0 R ps pg rt (fun _=>av) V) (r:X=(V.alloc (ey #[bf cu 0,cx av 0 0,bf cu (-1),bR ⟨#[]⟩,bR ⟨#[]⟩,bf cu 0,bf cu 0,eX false] 127)).alloc (ey #[e7 (aD ⟨V.heap.size,0,av⟩)] 118)) (hq:q=V.heap.size) (Fp:pr=V.heap.size+1) (t:key.length<=96) (hv:vl.length<=56) (T8:ps.length<=60000000) (dV:E.place<16):
  X.cell? ⟨pr,0,av⟩=aD (e7 (aD ⟨q,0,av⟩))/\Calls Tryz.prog 52 #[ptr q,bR (bs key)] X fun e X'=>
  (∃a:Nat,e=eb (gu #[bf cu a,eX false])/\a<=400/\∃rv rn rc,X'.cell? ⟨q,1,av⟩=aD (cx rv rn rc)/\∀W ib,W=X'.alloc (ey #[bR (bs key),bR ⟨#[]⟩,e7 av] 122)->ib=X'.heap.size->Calls Tryz.prog 70 #[cx rv rn rc,bf cu a,cx (aD ⟨ib,0,av⟩) 1 1] W fun e gL=>
   ∃g n' c',e=eb (cx (aD ⟨g,0,av⟩) n' c')/\a<n'/\n'<=c'/\n'<=401/\(∃v,gL.cell? ⟨q,1,av⟩=aD v)/\gL.frozen? ⟨q,1,av⟩=false/\(∃v,gL.cell? ⟨g,a*3+1,av⟩=aD v)/\gL.frozen? ⟨g,a*3+1,av⟩=false/\g≠q/\
    Calls Tryz.prog 57 #[ptr E.tb,cx (aD ⟨pr,0,av⟩) (0+1) 1] ((gL.setCell ⟨q,1,av⟩ (cx (aD ⟨g,0,av⟩) n' c')).setCell ⟨g,a*3+1,av⟩ (bR (bs vl))) fun e w'=>∃c:Int,e=eb (bf cu c)/\Done E X0 R0 ps pg rt (Tr.put [] key vl) [] c w'):=by
 obtain⟨d,w⟩:∃d,d=V.alloc (ey #[bf cu 0,cx av 0 0,bf cu (-1),bR ⟨#[]⟩,bR ⟨#[]⟩,bf cu 0,bf cu 0,eX false] 127):=⟨_,rfl⟩
 have G:Below V.heap.size V d:=by rw[w];exact (Below.refl _ V).alloc (ah _) _
 have W3:d.heap.size=V.heap.size+1:=by rw[w,aS]
 have I:aU d q 127 [bf cu 0,cx av 0 0,bf cu (-1),bR ⟨#[]⟩,bR ⟨#[]⟩,bf cu 0,bf cu 0,eX false]:=by rw[w,hq];exact aU.new V _ _
 rw[<-w] at r
 have aV:Below d.heap.size d X:=by rw[r];exact (Below.refl _ d).alloc (ah _) _
 have T3:Below V.heap.size V X:=G.trans (aV.mono (by omega))
 have hsX:X.heap.size=V.heap.size+2:=by rw[r,aS,W3]
 have u:=I.below aV (by omega)
 have x:aU X pr 118 [e7 (aD ⟨q,0,av⟩)]:=by rw[r,Fp,<-W3,hq];exact aU.new d _ _
 have W5:bu dH X pr 0 [q]:=bu.fN x rfl
 clear w r
 refine⟨x.cell (j:=0) rfl,(Eh q (u.cell (j:=1) rfl) key).mono ?_⟩
 rintro e X' ⟨rfl,o⟩
 have W6:=u.below o (by omega)
 refine⟨0,rfl,by decide,av,0,0,W6.cell (j:=1) rfl,fun W ib hW K=> ?_⟩
 have H:Below X'.heap.size X' W:=by rw[hW];exact (Below.refl _ X').alloc (ah _) _
 have y:aU W ib 122 [bR (bs key),bR ⟨#[]⟩,e7 av]:=by rw[hW,K];exact aU.new X' _ _
 have jD:bu ak W ib 0 [⟨key,[],av⟩]:=bu.fN y rfl
 have hs1:=o.size
 have kZ:=H.size
 refine (wL (B:=0) (l:=[]) (it:=⟨key,[],av⟩) (i:=0) (Own.nil ak _ 0 W) (aB _) (by decide) jD (fun k t=>by cases t) ⟨_,y⟩ (ah _)).mono ?_
 rintro e gL ⟨v',rfl,p,Kk,Wt,TY⟩
 have p:aY 0 gL v' [⟨key,[],av⟩]:=p
 obtain⟨g,c',rfl,-,mw,L⟩:=Own.form p (kf 0)
 have Yd:W.heap.size<=g:=by
  rcases Wt with e|e;·cases e
  ·exact e g rfl
 have N:g≠q:=by omega
 have NW:g≠pr:=by omega
 have M:Below W.heap.size W gL:=Kk.below (ah _) fun k _ e=>by cases e
 have n:=(W6.below H (by omega)).below M (by omega)
 have O:=bh (Own.lies p) 0 (kf 0)
 have f:=vW [⟨key,[],av⟩] 0 1 (kf 0) (by decide) ⟨key,vl,av⟩ (bR (bs vl)) rfl
 obtain⟨Y,P⟩:∃Y,Y=gL.setCell ⟨q,1,av⟩ (cx (aD ⟨g,0,av⟩) 1 c'):=⟨_,rfl⟩
 have F:aG (fun b=>b=q) gL Y:=by rw[P];exact (aG.refl (fun b=>b=q) gL).setCell _ _ fun _=>rfl
 have Tc:aY 0 Y (cx (aD ⟨g,0,av⟩) 1 c') [⟨key,[],av⟩]:=Own.but p F fun b o e=>N (by have e2:g=b:=Option.some.inj o;rw[e2,e])
 have J:aY 0 (Y.setCell ⟨g,0*3+1,av⟩ (bR (bs vl))) (cx (aD ⟨g,0,av⟩) 1 c') [⟨key,vl,av⟩]:=by have h1:=(World.ownsRow.stored Tc (0*3+1) (bR (bs vl))).1;unfold aY Own;have Q:ak.cells ([⟨key,vl,av⟩]:List It)=_:=f;rw[Q];exact h1
 have z:aG (fun b=>b=g) Y (Y.setCell ⟨g,0*3+1,av⟩ (bR (bs vl))):=(aG.refl (fun b=>b=g) Y).setCell _ _ fun _=>rfl
 have S:aU Y q 127 [bf cu 0,cx (aD ⟨g,0,av⟩) 1 c',bf cu (-1),bR ⟨#[]⟩,bR ⟨#[]⟩,bf cu 0,bf cu 0,eX false]:=by rw[P];exact n.set 1 _
 have W8:=S.but z (fun e=>N e.symm)
 have Rt:Below V.heap.size V (Y.setCell ⟨g,0*3+1,av⟩ (bR (bs vl))):=
  (((T3.trans (o.mono (by omega))).trans (H.mono (by omega))).trans (M.mono (by omega))).trans (((F.mono (T:=fun b=>b=q\/b=g) fun _ _ e=>dc e).trans z fun b _ e=>dn e).below (by have:=M.size;omega) fun k t e=>by omega)
 have hlY:=F.size
 have U:=z.size
 have abF:=M.size
 obtain⟨C,A⟩:∃C,C=Y.setCell ⟨g,0*3+1,av⟩ (bR (bs vl)):=⟨_,rfl⟩
 refine⟨g,1,c',rfl,kf 0,L,by decide,⟨_,n.cell (j:=1) rfl⟩,n.frozen 1,⟨_,by have:=O.2.1;rw[bE] at this;exact this⟩,Own.frozen p _,N, ?_⟩
 rw[<-P,<-A]
 rw[<-A] at J z W8 Rt U
 have Z:bu dH C pr 0 [q]:=((((W5.below o (by omega)).below H (by omega)).below M (by omega)).but F (by omega)).but z (by omega)
 obtain⟨m,D⟩:∃m:NV,m=⟨0,aq 0 [((key,vl):Tr.Tx×Tr.E 0)],g,0,c',-1,[],[],0,0,false,true⟩:=⟨_,rfl⟩
 have yD:=iB J
 have hnd:Nd C q m:=by
  refine⟨?_,by rw[D];exact Own.lies J, ?_⟩;·rw[D];exact W8
  ·rw[D];refine⟨Nat.succ_le_succ (aB _),fun i hi=> ?_,yD.2⟩;have e:i=⟨key,vl,av⟩:=cQ.1 hi;rw[e];exact⟨aH t (by decide),aH hv (by decide)⟩
 obtain⟨R',s⟩:=P6 (key:=key) (vl:=vl) h Rt (by omega) (by omega) (by omega) (by omega) NW D hnd J Z (by omega) t hv
 exact (wV s T8 dV).mono fun _ _ h=>h.imp fun _ h=>⟨h.1,h.2.1⟩
theorem tC {lv:Nat} {pw:Value} {K:Nat} {T:Tr.E (K+1)} (h:G1 E X0 R0 ps pg rt key K T lv q pw X):∃pr cap R M m c path pre post out,pw=cx (aD ⟨pr,0,av⟩) (path.length+1) cap/\gM E X0 R0 ps pg rt key K T lv q (cx (aD ⟨pr,0,av⟩) (path.length+1) cap) X R M m c path pre post out (q::path).reverse:=by
 obtain⟨R,M,m,c,path,pre,post,out,f⟩:=h;have hl:(q::path).reverse.length=path.length+1:=by simp
 obtain⟨pr,cap,e,_⟩:=Own.form f.row (by rw[hl];omega);rw[hl] at e;subst e;exact⟨pr,cap,R,M,m,c,path,pre,post,out,rfl,f⟩
theorem P8 {l:List (Tr.Tx×Tr.Tx)} {pages:List Nat} (h:TS E X0 R0 R ps pg rt (fun _=>av) w) (j:iU pg (rt.getD E.place 0) l pages) (b:key.length<=96) (d:vl.length<=56) (t:ps.length<=60000000) (D:E.place<16):
  Calls Tryz.prog 45 #[ptr E.tb,bR (bs key),bR (bs vl)] w fun e w'=>∃c:Int,e=eb (bf cu c)/\Done E X0 R0 ps pg rt (Tr.put l key vl) pages c w':=by
 refine MT (L:=fun q pr n cap X=>(∃(K:Nat) (T:Tr.E (K+1)) (R:Nat->Prop) (M:Nat->Option NV) (m:NV) (c:Tr.E 1) (path:List Nat) (pre post:List (Tr.Tx×Tr.Tx)) (out:List Nat),path.length=n/\l=Tr.cB K (Tr.its T)/\pages=Tr.ck (K+1) T/\pages.Nodup/\gM E X0 R0 ps pg rt key K T 0 q (cx (aD ⟨pr,0,av⟩) (path.length+1) cap) X R M m c path pre post out (q::path).reverse)\/
   ∃V,n=0/\cap=1/\l=[]/\pages=[]/\q=V.heap.size/\pr=V.heap.size+1/\X=(V.alloc (ey #[bf cu 0,cx av 0 0,bf cu (-1),bR ⟨#[]⟩,bR ⟨#[]⟩,bf cu 0,bf cu 0,eX false] 127)).alloc (ey #[e7 (aD ⟨V.heap.size,0,av⟩)] 118)/\TS E X0 R0 R ps pg rt (fun _=>av) V) (G:=fun c w'=>Done E X0 R0 ps pg rt (Tr.put l key vl) pages c w') ⟨?_⟩ (by rw[aP];exact b) d ((wW h D j key).mono ?_)
 ·rintro q pr n cap X (⟨K,T,R1,M,m,c,path,pre,post,out,rfl,rfl,rfl,g,f⟩|⟨V,rfl,rfl,rfl,rfl,k,F,o,i⟩);·have H:=f.above.level;have a:=f.yg;exact⟨tq (Own.lies f.row) rfl,by omega,P5 f b d j g t D⟩
  ·have H:=P7 (key:=key) (vl:=vl) i o k F b d t D;exact⟨H.1,aB _,H.2.mono fun e X' h=>dc h⟩
 ·rintro e X (⟨rfl,s,H,a,p⟩|⟨K,T,q,pw,rfl,H,a,h3,hf⟩);·exact dc ⟨rfl,fun W r=>dn ⟨X,rfl,rfl,H,a,rfl,rfl,r,h.still p (fun _ h=>h) (fun _ h=>dc h)⟩⟩
  ·obtain⟨pr,cap,R1,M,m,c,path,pre,post,out,rfl,f⟩:=tC hf;exact dn ⟨q,pr,path.length,cap,rfl,dc ⟨K,T,R1,M,m,c,path,pre,post,out,rfl,H,a,h3,f⟩⟩
end
section
variable {E:Ev} {X0 X X' Y V w:World} {R0 R R':Nat->Prop} {ps:List (Nat×List UInt8)} {pg:List (Option Wl.Text)} {rt:List Nat} {M M':Nat->Option NV} {K:Nat} {T:Tr.E (K+1)} {key vl:List UInt8} {q pr cap:Nat} {m:NV} {c:Tr.E 1} {path out:List Nat} {pre post:List (Tr.Tx×Tr.Tx)}
def uj (E:Ev) (X0:World) (R0:Nat->Prop) (ps:List (Nat×List UInt8)) (pg:List (Option Wl.Text)) (rt:List Nat) (X:World):Prop:=∃R M,TS E X0 R0 R ps pg rt M X
theorem P9 (f:gM E X0 R0 ps pg rt key K T 0 q (cx (aD ⟨pr,0,av⟩) (path.length+1) cap) X R M m c path pre post out (q::path).reverse):
  Calls Tryz.prog 52 #[ptr q,bR (bs key)] X fun e X'=>
  (∃a:Nat,e=eb (gu #[bf cu a,eX false])/\Tr.got (Tr.cB K (Tr.its T)) key=av/\uj E X0 R0 ps pg rt X')\/
  (∃(a g o n' c':Nat) (v0:List UInt8),e=eb (gu #[bf cu a,eX true])/\a<n'/\n'<=400/\X'.cell? ⟨q,1,av⟩=aD (cx (aD ⟨g,o,av⟩) n' c')/\X'.cell? ⟨g,o+a*3+1,av⟩=aD (bR (bs v0))/\v0.length<=200/\∀gL,Below X'.heap.size X' gL->Tr.got (Tr.cB K (Tr.its T)) key=aD v0/\uj E X0 R0 ps pg rt gL):=by
 obtain⟨lf,fQ,n,v,C,w,y,d,hown⟩:=tv f;have s:m.its.length=lf.length:=by rw[fQ,aT]
 have i:=f.ts.mem.nd q m f.lS;have P:posOf m.its key=(lf.takeWhile fun x=>Tr.lt x.1 key).length:=by rw[fQ];exact rV lf key
 have D:Tr.got (Tr.cB K (Tr.its T)) key=Tr.got lf key:=by rw[w];exact Tr.G2 f.S2 f.S3
 refine (lq i C key).mono ?_;rintro e X' ⟨rfl,t⟩;have f':=f.still t;have O:=i.still t;have k:=O.c1;rw[d] at k;have p:=qz (key:=key) n.mG;rw[<-show m.its=aq 0 lf from fQ] at p;cases u:eD m.its key with
 |false=>exact dc ⟨_,rfl,by rw[D];exact Tr.Db (p.1 u),_,_,f'.ts⟩
 |true=>
  right;obtain⟨j,r⟩:=p.2 u;obtain⟨a,ha⟩:∃a,a=posOf m.its key:=⟨_,rfl⟩;rw[<-ha] at P j |-;have H:(lf[a]'j).1=key:=by have h:=r;simp only[<-ha] at h;exact h
  have b:a<m.its.length:=by omega
  have J:m.its[a]=⟨key,(lf[a]'j).2,av⟩:=by have e:m.its[a]?=aD ⟨(lf[a]'j).1,(lf[a]'j).2,av⟩:=(by rw[fQ,cD,aK j];rfl);rw[aK b] at e;rw[Option.some.inj e,H]
  have l:=bh O.row a b;rw[J,d] at l;exact⟨a,m.rg,0,m.its.length,m.cap,(lf[a]'j).2,rfl,b,by omega,k,l.2.1,aH (n.vals _ (bI j)) (by decide),fun gL A=>⟨by rw[D];exact Tr.Dc n.mG P j H,_,_,(f'.still A).ts⟩⟩
theorem P_ {l:List (Tr.Tx×Tr.Tx)} {pages:List Nat} (h:TS E X0 R0 R ps pg rt (fun _=>av) w) (b:iU pg (rt.getD E.place 0) l pages) (d:E.place<16):
  Calls Tryz.prog 32 #[ptr E.tb,bR (bs key)] w fun e w'=>e=eb (gu #[bR (bs ((Tr.got l key).getD [])),eX (Tr.got l key).isSome,bf cu 0])/\uj E X0 R0 ps pg rt w':=by
 refine (MA (L:=fun q pr n cap X=>∃(K:Nat) (T:Tr.E (K+1)) (R:Nat->Prop) (M:Nat->Option NV) (m:NV) (c:Tr.E 1) (path:List Nat) (pre post:List (Tr.Tx×Tr.Tx)) (out:List Nat),path.length=n/\l=Tr.cB K (Tr.its T)/\gM E X0 R0 ps pg rt key K T 0 q (cx (aD ⟨pr,0,av⟩) (path.length+1) cap) X R M m c path pre post out (q::path).reverse) (G:=fun v w'=>Tr.got l key=v/\uj E X0 R0 ps pg rt w') ⟨?_⟩ ((wW h d b key).mono ?_)).mono ?_;·rintro q pr n cap X ⟨K,T,R1,M,m,c,path,pre,post,out,rfl,rfl,f⟩;have H:=f.above.level;have a:=f.yg;exact⟨tq (Own.lies f.row) rfl,by omega,P9 f⟩
 ·rintro e X (⟨rfl,k,H,a,g⟩|⟨K,T,q,pw,rfl,H,a,h3,hf⟩);·exact dc ⟨rfl,by rw[H];rfl,_,_,h.still g (fun _ h=>h) (fun _ h=>dc h)⟩
  ·obtain⟨pr,cap,R1,M,m,c,path,pre,post,out,rfl,f⟩:=tC hf;exact dn ⟨q,pr,path.length,cap,rfl,K,T,R1,M,m,c,path,pre,post,out,rfl,H,f⟩
 ·rintro e w' ⟨v,rfl,i,j⟩;rw[i];exact⟨rfl,j⟩
theorem Qa (f:gM E X0 R0 ps pg rt key K T 0 q (cx (aD ⟨pr,0,av⟩) (path.length+1) cap) X R M m c path pre post out (q::path).reverse) (W:iU pg (rt.getD E.place 0) (Tr.cB K (Tr.its T)) (Tr.ck (K+1) T)) (s:(Tr.ck (K+1) T).Nodup) (Z:ps.length<=60000000) (dV:E.place<16):
  Calls Tryz.prog 52 #[ptr q,bR (bs key)] X fun e X'=>
  (∃a:Nat,e=eb (gu #[bf cu a,eX false])/\Tr.got (Tr.cB K (Tr.its T)) key=av/\uj E X0 R0 ps pg rt X')\/
  (∃(a g n' c':Nat),e=eb (gu #[bf cu a,eX true])/\a<n'/\n'<=400/\X'.cell? ⟨q,1,av⟩=aD (cx (aD ⟨g,0,av⟩) n' c')/\
   Calls Tryz.prog 56 #[cx (aD ⟨g,0,av⟩) n' c',bf cu a,bf cu (a+1:Nat)] X' fun e gL=>∃(Yb:Nat) (v:Value),e=eb v/\v=cx (aD ⟨g,0,av⟩) Yb c'/\(∃u,gL.cell? ⟨q,1,av⟩=aD u)/\gL.frozen? ⟨q,1,av⟩=false/\
    Calls Tryz.prog 57 #[ptr E.tb,cx (aD ⟨pr,0,av⟩) (path.length+1) cap] (gL.setCell ⟨q,1,av⟩ v) fun e w'=>∃c:Int,e=eb (bf cu c)/\(Tr.got (Tr.cB K (Tr.its T)) key).isSome=true/\c=0/\Done E X0 R0 ps pg rt (Tr.del (Tr.cB K (Tr.its T)) key) (Tr.ck (K+1) T) c w'):=by
 obtain⟨lf,fQ,r,i,C6,I,K_,t,hown⟩:=tv f
 have L:m.its.length=lf.length:=by rw[fQ,aT]
 have w:=oM W
 have k:=f.ts.mem.nd q m f.lS
 have P:posOf m.its key=(lf.takeWhile fun x=>Tr.lt x.1 key).length:=by rw[fQ];exact rV lf key
 have N:Tr.got (Tr.cB K (Tr.its T)) key=Tr.got lf key:=by rw[I];exact Tr.G2 f.S2 f.S3
 have A:Tr.del (Tr.cB K (Tr.its T)) key=pre++Tr.del lf key++post:=by rw[I];exact Tr.PW f.S2 f.S3
 have O:m.rg≠q:=by have:=f.ts.mem.EK f.lS f.lS;exact this
 refine (lq k C6 key).mono ?_
 rintro e X' ⟨rfl,l⟩
 have f':=f.still l
 have Q:=k.still l
 have d:aY 0 X' (cx (aD ⟨m.rg,0,av⟩) m.its.length m.cap) m.its:=Own.below hown l (ah _)
 have n:=Q.c1
 rw[t] at n
 have y:=qz (key:=key) r.mG
 rw[<-show m.its=aq 0 lf from fQ] at y
 cases S:eD m.its key with
 |false=>exact dc ⟨_,rfl,by rw[N];exact Tr.Db (y.1 S),_,_,f'.ts⟩
 |true=>
  right;obtain⟨J,z⟩:=y.2 S;obtain⟨a,ha⟩:∃a,a=posOf m.its key:=⟨_,rfl⟩;rw[<-ha] at P J |-;have H:(lf[a]'J).1=key:=by have h:=z;simp only[<-ha] at h;exact h
  have o:a<m.its.length:=by omega
  have B:=Tr.MI r.mG P J H;refine⟨a,m.rg,m.its.length,m.cap,rfl,o,by omega,n,(AO X' m.rg m.cap a m.its d o (by omega)).mono ?_⟩;rintro e gL ⟨rfl,C,p⟩;have V:=Q.blk.but p (fun e=>O e.symm);have W_:m.its.take a++m.its.drop (a+1)=aq 0 (Tr.del lf key:Tr.fB):=by rw[<-B,tj,fQ,bQ,<-List.map_take,<-List.map_drop];rfl
  have Vh:(Tr.del lf key).length=m.its.length-1:=by grind
  rw[W_] at C;refine⟨m.its.length-1,_,rfl,rfl,⟨_,V.cell (j:=1) rfl⟩,V.frozen 1, ?_⟩;rw[<-Vh] at C |-;obtain⟨Y,D⟩:∃Y,Y=gL.setCell ⟨q,1,av⟩ (cx (aD ⟨m.rg,0,av⟩) (Tr.del lf key).length m.cap):=⟨_,rfl⟩;have U:aG (fun b=>b=q) gL Y:=by rw[D];exact (aG.refl (fun b=>b=q) gL).setCell _ _ fun _=>rfl
  have F:aY 0 Y (cx (aD ⟨m.rg,0,av⟩) (Tr.del lf key).length m.cap) (aq 0 (Tr.del lf key:Tr.fB)):=Own.but C U fun b l e=>O (by have e2:m.rg=b:=Option.some.inj l;rw[e2,e]);have G:aU Y q 127 (m.cells.set 1 (cx (aD ⟨m.rg,0,av⟩) (Tr.del lf key).length m.cap)):=by rw[D];exact V.set 1 _
  rw[<-D];have TG:aG (fun b=>b=q\/b=m.rg) X' Y:=(p.mono fun _ _ e=>dn e).trans U fun b _ e=>dc e;have OI:Tr.sz 0 ((Tr.del lf key:Tr.fB):List (Tr.Tx×Tr.E 0))<=664:=aH (Tr.th _ lf) (aH i (by decide));refine (tu f' TG (fun b h=>h) G F (dc rfl) r.del OI s w Z dV).mono ?_;rintro e w' ⟨c,rfl,hd,hz⟩;exact⟨c,rfl,by rw[N,Tr.Dc r.mG P J H];rfl,hz (aH (Tr.th _ lf) i),by rw[A];exact hd⟩
theorem Qb {l:List (Tr.Tx×Tr.Tx)} {pages:List Nat} (h:TS E X0 R0 R ps pg rt (fun _=>av) w) (d:iU pg (rt.getD E.place 0) l pages) (t:ps.length<=60000000) (D:E.place<16):
  Calls Tryz.prog 36 #[ptr E.tb,bR (bs key)] w fun e w'=>(e=eb (gu #[eX false,bf cu 0])/\Tr.got l key=av/\uj E X0 R0 ps pg rt w')\/(e=eb (gu #[eX true,bf cu 0])/\(Tr.got l key).isSome=true/\lD E X0 R0 ps pg rt (Tr.del l key) pages 0 w'):=by
 refine (MF (L:=fun q pr n cap X=>∃(K:Nat) (T:Tr.E (K+1)) (R:Nat->Prop) (M:Nat->Option NV) (m:NV) (c:Tr.E 1) (path:List Nat) (pre post:List (Tr.Tx×Tr.Tx)) (out:List Nat),path.length=n/\l=Tr.cB K (Tr.its T)/\pages=Tr.ck (K+1) T/\pages.Nodup/\gM E X0 R0 ps pg rt key K T 0 q (cx (aD ⟨pr,0,av⟩) (path.length+1) cap) X R M m c path pre post out (q::path).reverse) (N:=fun w'=>Tr.got l key=av/\uj E X0 R0 ps pg rt w') (G:=fun c w'=>(Tr.got l key).isSome=true/\c=0/\Done E X0 R0 ps pg rt (Tr.del l key) pages c w') ⟨?_⟩ ((wW h D d key).mono ?_)).mono ?_;·rintro q pr n cap X ⟨K,T,R1,M,m,c,path,pre,post,out,rfl,rfl,rfl,b,f⟩;have a:=f.above.level;have H:=f.yg;exact⟨tq (Own.lies f.row) rfl,by omega,Qa f d b t D⟩
 ·rintro e X (⟨rfl,i,a,H,g⟩|⟨K,T,q,pw,rfl,a,H,h3,hf⟩);·exact dc ⟨rfl,by rw[a];rfl,_,_,h.still g (fun _ h=>h) (fun _ h=>dc h)⟩
  ·obtain⟨pr,cap,R1,M,m,c,path,pre,post,out,rfl,f⟩:=tC hf;exact dn ⟨q,pr,path.length,cap,rfl,K,T,R1,M,m,c,path,pre,post,out,rfl,a,H,h3,f⟩
 ·rintro e w' (h|⟨c,rfl,a,rfl,H|⟨H,_⟩⟩);·exact dc h
  ·grind
  ·cases H
end
end
end Go.Proofs.YtlpfhjbpknbndaaGreatDoor
