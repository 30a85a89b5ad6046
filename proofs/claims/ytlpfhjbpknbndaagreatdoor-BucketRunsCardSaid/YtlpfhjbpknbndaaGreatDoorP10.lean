/- Elder texts, cut down and merged (10). -/
import Derived.Test.YtlpfhjbpknbndaaGreatDoorP9
import Derived.Test.YtlpfhjbpknbndaaGreatDoorP8
import Derived.Test.YtlpfhjbpknbndaaGreatDoorP7
import Derived.Test.YtlpfhjbpknbndaaGreatDoorP4
import Derived.Test.YtlpfhjbpknbndaaGreatDoorPTk
set_option maxRecDepth 100000
set_option maxHeartbeats 8000000
namespace Go.Proofs.YtlpfhjbpknbndaaGreatDoor
open Option renaming some→aD,none→av
open Or renaming inl→dc,inr→dn
open Value renaming int→bf,tuple→gu,slice→cx,string→bR,bool→eX
open IntKind renaming i64→cu
open Ending renaming returned→eb
open Obj renaming cells→ey
open List renaming map_cons->bM,map_append->bQ,length_map->aT,take_left->fX,nodup_cons->cL,mem_cons_of_mem->aI,flatten_append->dL,mem_append->aj,nodup_append->aR,mem_cons->aX,mem_cons_self->aE,length_append->au,length_cons->a_,mem_singleton->cQ,flatten_cons->dA,length_nil->ef,setIfInBounds_toArray->aA,set_cons_succ->az,set_cons_zero->ay,length_pos_iff->eL,getElem_mem->bI,append_assoc->aF
open Nat renaming le_refl->ah,zero_add->bE,zero_le->aB,le_trans->aH,lt_of_lt_of_le->dD
open _root_.Array renaming length_toList->bk
open World renaming drew->bJ
section
open Go.RowKit Lib
section
variable {M M':Nat->Option NV} {pg:List (Option Wl.Text)} {k p q:Nat} {n:NV}
theorem wv (k tot:Nat):∀(is:List It) (xs:List (Tr.Tx×Tr.E k)) (s:Nat),is.map jw=xs.map (Tr.jw k)->eZ tot s is=(Tr.cy k tot s xs).1.length
 |[],[],_,_=>rfl
 |[],_::_,_,h=>by cases h
 |_::_,[],_,h=>by cases h
 |[_],[_],_,_=>rfl
 |[_],_::_::_,_,h=>by simp at h
 |_::_::_,[_],_,h=>by simp at h
 |i::j::r,x::y::z,s,h=>by
  have H:(j::r).map jw=(y::z).map (Tr.jw k):=(List.cons.inj h).2;have a:jw i=Tr.jw k x:=(List.cons.inj h).1;have I:=wv k tot (j::r) (y::z) (s+jw i) H;unfold Tr.cy;rw[t_];by_cases hs:2*s<tot;·grind
  ·grind
theorem Cn {R:Nat->Tr.E (k+1)->List Nat->Prop}:∀{is:List It} {xs:List (Tr.Tx×Tr.E (k+1))} {fs:List (List Nat)},bp pg k R is xs fs->is.map jw=xs.map (Tr.jw (k+1))
 |[],[],[],_=>rfl
 |i::is,x::xs,_::fs,h=>by
  have I:=Cn h.2;rw[bM,bM,I];have e:jw i=Tr.jw (k+1) x:=by show 2+i.key.length+i.val.length=2+x.1.length+2;rw[h.1.1,h.1.2.1]
  rw[e]
 |[],[],_::_,h=>h.elim
 |[],_::_,_,h=>h.elim
 |_::_,[],_,h=>h.elim
 |_::_,_::_,[],h=>h.elim
theorem GL {t:Tr.E (k+1)} {F:List Nat} (hr:dO M pg k p t F) (hn:M p=aD n):n.its.map jw=(Tr.its t).map (Tr.jw k):=by
 cases k with
 |zero=>obtain⟨n',h,_,hi,_⟩:=hr;rw[hn] at h;cases h;rw[hi];unfold aq;rw[List.map_map];rfl
 |succ k=>obtain⟨n',fs,h,_,H,_⟩:=hr;rw[hn] at h;cases h;exact Cn H
theorem EW {L U:List (Tr.Tx×Tr.E k)} (h:n.its.map It.key=(L++U).map (·.1)) (H:n.level=k) (b:L≠[]) (c:U≠[]):
  between n L.length=if k=0 then Tr.cI (Tr.qW L) (Tr.cj U) else Tr.cj U:=by
 obtain⟨A,a,rfl⟩:=Tr.dR b;cases U with
 |nil=>exact absurd rfl c
 |cons u U=>
  have e:((A++[a]++u::U).map (·.1)).getD (A++[a]).length []=u.1:=fK (·.1) (A++[a]) u U;have d:((A++[a]++u::U).map (·.1)).getD ((A++[a]).length-1) []=a.1:=by grind
  unfold between;rw[h,H,e,d,Tr.qX];rfl
theorem IZ {R:Nat->Tr.E (k+1)->List Nat->Prop}:∀{is:List It} {xs:List (Tr.Tx×Tr.E (k+1))} {fs:List (List Nat)},bp pg k R is xs fs->bp pg k R (uK is) (Tr.bH [] xs) fs
 |[],[],[],_=>trivial
 |_::_,_::_,_::_,h=>⟨⟨rfl,h.1.2⟩,h.2⟩
 |[],[],_::_,h=>h.elim
 |[],_::_,_,h=>h.elim
 |_::_,[],_,h=>h.elim
 |_::_,_::_,[],h=>h.elim
theorem Sq {x:Tr.Tx} (h:x≠[]):jA x=aD x:=by unfold jA;rw[if_neg h]
theorem wy {t:Tr.E (k+1)} {F:List Nat} {H:Nat} (hr:dO M pg k p t F) (hn:M p=aD n) (hF:F.Nodup) (C:q∉F) (z:510<Tr.sz k (Tr.its t)) (hH:H=eZ (cz n.its) 0 n.its) (D:M'=upd (upd M p (gE n H)) q (jG n H)):
  between n H=(Tr.part k t).key/\∃G I,dO M' pg k p (Tr.part k t).low G/\dO M' pg k q (Tr.part k t).up I/\(G++I).Nodup/\∀r∈G++I,r∈F\/r=q:=by
 obtain⟨n',i,d,TN⟩:=hr.head;rw[hn] at i;cases i;have f:p≠q:=fun e=>C (by rw[<-e];exact TN);have P:=Tr.oZ k d.near z;have V:=hr.sz hn;have S:H=(Tr.cy k (Tr.sz k (Tr.its t)) 0 (Tr.its t)).1.length:=by rw[hH,V.1];exact wv k _ _ _ _ (GL hr hn)
 have a:=Tr.p9 k (Tr.sz k (Tr.its t)) (Tr.its t) 0;have J:Tr.its t≠[]:=by intro e;rw[e] at z;exact absurd z (by simp[Tr.sz])
 have K:=Tr.m8 k (Tr.sz k (Tr.its t)) (Tr.its t) 0 J;have N:=Tr.m9 k _ (Tr.its t) rfl (fun x hx=>by have:=d.near.2.size x hx;omega) z;have c:(Tr.part k t).key=if k=0 then Tr.cI (Tr.qW (Tr.cy k (Tr.sz k (Tr.its t)) 0 (Tr.its t)).1) (Tr.cj (Tr.cy k (Tr.sz k (Tr.its t)) 0 (Tr.its t)).2) else Tr.cj (Tr.cy k (Tr.sz k (Tr.its t)) 0 (Tr.its t)).2:=rfl
 have y:(Tr.part k t).low=Tr.mk ⟨(Tr.hd t).page,true⟩ (Tr.cy k (Tr.sz k (Tr.its t)) 0 (Tr.its t)).1:=rfl;have Y:(Tr.part k t).up=Tr.mk ⟨av,true⟩ (if k=0 then (Tr.cy k (Tr.sz k (Tr.its t)) 0 (Tr.its t)).2 else Tr.bH [] (Tr.cy k (Tr.sz k (Tr.its t)) 0 (Tr.its t)).2):=rfl;generalize Tr.cy k (Tr.sz k (Tr.its t)) 0 (Tr.its t)=lu at S a K N c y Y;obtain⟨L,U⟩:=lu;simp only at S a K N c y Y;have j:=V.2.1;rw[<-a] at j;have X:between n H=(Tr.part k t).key:=by rw[S,c];exact EW j d.level N K
 have pM:between n H≠[]:=by rw[X];intro e;have A:=P.low.lt;rw[e] at A;have B:Tr.lt n.lo []=true:=A;cases hh:n.lo<;>rw[hh] at B<;>simp[Tr.lt] at B
 have l:M' p=aD (gE n H):=by rw[D,aW f,bG]
 have m:M' q=aD (jG n H):=by rw[D,bG]
 have O:∀r,r≠p->r≠q->M' r=M r:=fun r A B=>by rw[D,aW B,aW A]
 have ol:kQ pg k (gE n H) (Tr.part k t).low:=by
  refine⟨d.level, ?_, ?_, ?_,fun hf=> ?_⟩;·rw[y];exact d.page
  ·rw[y];rfl
  ·show Tr.iP k n.lo (jA (between n H)) _;rw[Sq pM,X];exact P.low.near
  ·simp_all
 have W:kQ pg k (jG n H) (Tr.part k t).up:=by
  refine⟨d.level, ?_, ?_, ?_,fun hf=> ?_⟩;·rw[Y];rfl
  ·rw[Y];rfl
  ·show Tr.iP k (between n H) (jA n.hi) _;rw[X];exact P.up.near
  ·simp_all
 refine⟨X, ?_⟩;cases k with
 |zero=>
  obtain⟨n',h,_,hi,o⟩:=hr;rw[hn] at h;cases h;rw[<-a] at hi;have u:n.its=aq 0 L++aq 0 U:=by rw[hi];unfold aq;rw[bQ]
  have b:(aq 0 L).length=H:=by rw[S];unfold aq;rw[aT]
  refine⟨[p],[q],⟨_,l,ol, ?_,rfl⟩,⟨_,m,W, ?_,rfl⟩,by simpa using f,fun r hr=> ?_⟩;·show n.its.take H=_;rw[u,y,<-b,fX];rfl
  ·show (if n.level=0 then n.its.drop H else uK (n.its.drop H))=_;rw[if_pos d.level,u,Y,<-b,List.drop_left];rfl
  ·grind
 |succ k=>
  obtain⟨n',fs,h,_,v,o⟩:=hr;rw[hn] at h;cases h;rw[<-a] at v;obtain⟨i1,i2,f1,f2,hi,rfl,Z,k2⟩:=v.parts;subst o;have b:i1.length=H:=by rw[S];exact Z.len.1
  have g:=cL.1 hF;have w:∀r∈(f1++f2).flatten,M' r=M r:=fun r hr=>O r (fun e=>g.1 (by rw[<-e];exact hr)) (fun e=>C (by rw[<-e];exact aI _ hr));have Q:=Z.frame fun r hr=>w r (by rw[dL];exact aj.2 (dc hr));have R:=k2.frame fun r hr=>w r (by rw[dL];exact aj.2 (dn hr));have jJ:=g.2;have T:=g.1;rw[dL] at jJ T;refine⟨p::f1.flatten,q::f2.flatten,⟨_,f1,l,ol, ?_,rfl⟩,⟨_,f2,m,W, ?_,rfl⟩, ?_,fun r hr=> ?_⟩;·show bp pg k _ (n.its.take H) _ _;rw[hi,<-b,fX,y];exact Q
  ·show bp pg k _ (if n.level=0 then n.its.drop H else uK (n.its.drop H)) _ _;rw[if_neg (by rw[d.level];omega),hi,<-b,List.drop_left,Y];exact IZ R
  ·have Pe:q∉f1.flatten++f2.flatten:=fun e=>C (aI _ (by rw[dL];exact e));have hd:=aR.1 jJ;refine aR.2 ⟨cL.2 ⟨fun e=>T (aj.2 (dc e)),hd.1⟩,cL.2 ⟨fun e=>Pe (aj.2 (dn e)),hd.2.1⟩,fun r hr s hs e=> ?_⟩;subst e;rcases aX.1 hr with hr|hr
   ·rcases aX.1 hs with hs|hs;·exact f (hr.symm.trans hs)
    ·rw[hr] at hs;exact T (aj.2 (dn hs))
   ·rcases aX.1 hs with hs|hs;·rw[hs] at hr;exact Pe (aj.2 (dc hr))
    ·exact hd.2.2 r hr r hs rfl
  ·rw[dL];rcases aj.1 hr with hr|hr
   ·rcases aX.1 hr with hr|hr;·left;rw[hr];exact aE
    ·exact dc (aI _ (aj.2 (dc hr)))
   ·rcases aX.1 hr with hr|hr;·exact dn hr
    ·exact dc (aI _ (aj.2 (dn hr)))
end
section
variable {E:Ev} {X0 X X':World} {R0 R R' S:Nat->Prop} {ps ps':List (Nat×List UInt8)} {pg dh:List (Option Wl.Text)} {rt rt':List Nat} {M M':Nat->Option NV} {p q:Nat} {n m:NV}
structure Ax (E:Ev) (X0:World) (R0 R:Nat->Prop) (ps:List (Nat×List UInt8)) (pg:List (Option Wl.Text)) (rt:List Nat) (M:Nat->Option NV) (X:World) (p:Nat) (n:NV) (k:Nat) (I1:List It) (i:It) (I2:List It) (A:List (Tr.Tx×Tr.E (k+1))) (c:Tr.E (k+1)) (B:List (Tr.Tx×Tr.E (k+1))) (f1 f2:List (List Nat)) (f:List Nat) (q:Nat) (M':Nat->Option NV) (R':Nat->Prop) (fq:List Nat) (X':World):Prop where
 ts:TS E X0 R0 R' ps pg rt M' X'
 at_:M' p=aD {n with its:=I1++{i with node:=aD q}::I2}
 zg:dO M' pg k q c fq
 left:bp pg k (dO M' pg k) I1 A f1
 right:bp pg k (dO M' pg k) I2 B f2
 same:∀r m,r≠p->M r=aD m->M' r=aD m
 news:∀r∈fq,r∈f\/X.heap.size<=r
 nd:fq.Nodup
 size:X.heap.size<=X'.heap.size
 but:aG (fun b=>b=n.rg) X X'
 sub:∀b,R b->R' b
 new:∀b,R' b->R b\/X.heap.size<=b
 mb:∀b,MB M' b->MB M b\/X.heap.size<=b
theorem I3 {k:Nat} {t:Tr.E (k+2)} {I1 I2:List It} {i:It} {A B:List (Tr.Tx×Tr.E (k+1))} {key:Tr.Tx} {c:Tr.E (k+1)} {f1 f2:List (List Nat)} {f:List Nat}
  (h:TS E X0 R0 R ps pg rt M X) (hp:M p=aD n) (I:kQ pg (k+1) n t) (hi:n.its=I1++i::I2) (K:Tr.its t=A++(key,c)::B) (j:bp pg k (dO M pg k) I1 A f1) (U:jB pg k (dO M pg k) i (key,c) f) (s:bp pg k (dO M pg k) I2 B f2) (l:(p::(f1++f::f2).flatten).Nodup) (W:k<=15):
  Calls Tryz.prog 79 #[ptr E.tb,ptr p,bf cu A.length] X fun e X'=>∃q M' R' fq,e=eb (gu #[ptr q,bf cu 0])/\Ax E X0 R0 R ps pg rt M X p n k I1 i I2 A c B f1 f2 f q M' R' fq X':=by
 have Z:=j.len.1;have L:A.length<n.its.length:=by rw[hi,au,Z,a_];omega
 have J:n.its[A.length]=i:=by grind
 have tZ:p∉(f1++f::f2).flatten:=(cL.1 l).1;have N:(f1++f::f2).flatten.Nodup:=(cL.1 l).2;obtain⟨u,v,EX⟩:=U;rcases EX with⟨H,w,hval,x⟩|⟨q,y,hr⟩
 ·obtain⟨⟨page,C,P,Y⟩,a,z⟩:=x
  have O:=mD I.near K (by
   have hh:bp pg k (dO M pg k) n.its (Tr.its t) (f1++f::f2):=(by rw[hi,K];exact j.append ⟨⟨u,v,dc ⟨H,w,hval,⟨⟨page,C,P,Y⟩,a,z⟩⟩⟩,s⟩);exact hh.keys)
  have mE:=h_ W ⟨⟨page,C,P,Y⟩,a,z⟩ C O;have hv:n.its[A.length].val=pv page:=by rw[J,hval];show pv ((Tr.hd c).page.getD 0)=_;rw[C];rfl
  refine (sQ h hp A.length L (by rw[J];exact H) page P hv k I.level (aq k (Tr.its c)) mE).mono ?_;rintro e X' ⟨q,rg,cap,R',rfl,d,Q,Pf,S,hR,DU⟩;have pP:n.its.set A.length {(n.its.getD A.length ⟨[],[],av⟩) with node:=aD q}=I1++{i with node:=aD q}::I2:=by grind
  rw[pP] at d;obtain⟨M',o⟩:∃M',M'=upd (upd M q (NV.got k (aq k (Tr.its c)) rg cap page (eW n A.length) (eu n A.length))) p {n with its:=I1++{i with node:=aD q}::I2}:=⟨_,rfl⟩;rw[<-o] at d;have dV:=(h.mem.lt hp).1;have D:q≠p:=by omega
  have g:∀r m,r≠p->M r=aD m->M' r=aD m:=by intro r m hr T;have y8:r≠q:=(by have:=(h.mem.lt T).1;omega);rw[o,aW hr,aW y8];exact T
  have V:∀{fs:List (List Nat)},(∀r∈fs.flatten,r∈(f1++f::f2).flatten/\∃m,M r=aD m)->∀r∈fs.flatten,M' r=M r:=by grind
  refine⟨q,M',R',[q],rfl,⟨d,by rw[o,bG], ?_, ?_, ?_,g,fun r hr=>by rw[cQ.1 hr];exact dn Q,by simp, ?_,S,hR,DU, ?_⟩⟩;·exact GK ⟨⟨page,C,P,Y⟩,a,z⟩ C O (by rw[o,aW D,bG])
  ·exact j.frame (V fun r hr=>⟨by rw[dL];exact aj.2 (dc hr),j.dom r hr⟩)
  ·exact s.frame (V fun r hr=>⟨by rw[dL,dA];exact aj.2 (dn (aj.2 (dn hr))),s.dom r hr⟩)
  ·exact S.size
  ·rintro b ⟨r,m,hr,F⟩;rw[o] at hr;rcases aN hr with⟨rfl,rfl⟩|⟨_,hr⟩;·exact dc ⟨_,n,hp,F⟩
   ·rcases aN hr with⟨rfl,rfl⟩|⟨_,hr⟩
    ·right;rcases F with rfl|rfl;·exact Q
     ·exact Pf
    ·exact dc ⟨r,m,hr,F⟩
 ·refine (ud h hp A.length L (by rw[J];exact y)).mono ?_;rintro e X' ⟨rfl,rfl⟩;have G:{i with node:=aD q}=i:=by cases i;simp only at y;subst y;rfl
  refine⟨q,M,R,f,rfl,⟨h, ?_,hr,j,s,fun _ _ _ h=>h,fun r hr=>dc hr, ?_,ah _,aG.refl _ _,fun _ h=>h,fun _ h=>dc h,fun _ h=>dc h⟩⟩;·rw[G,<-hi];exact hp
  ·rw[dL,dA] at N;exact (aR.1 (aR.1 N).2.1).1
end
theorem sU (w:World) (k:Nat) (f:0<k) (h:k<=1000000) (ty:TypeId):
  ∃(c:Nat) (Z:List Value),(Builtin.append_ #[123,3] ty #[.slice av 0 0,.int cu k]).run Tryz.prog w=.ok (.slice (aD ⟨w.heap.size,0,av⟩) k c) (w.drew.alloc (ey Z.toArray 122))/\k<=c/\c<=maxLen/\Z.length=c*3:=by
 obtain⟨i,hi,g,j,a⟩:=kY (P:=Tryz.prog) (E:=122) (size:=3) (bytes:=40) (z:=.agg #[.string .empty,.string .empty,.pointer av]) (by kernel_rfl);have hold:(Builtin.firstCells i.size 0 (.slice av 0 0)).run Tryz.prog w.drew=.ok ([]:List Value).toArray w.drew:=by simp[Builtin.firstCells]
 have H:=Lib.run_append_grow_zeros (P:=Tryz.prog) w 123 3 ty 122 i _ cu cu Tryz.underlying123 (by kernel_rfl) hi g av 0 0 [] hold k f (by omega) (by omega) (by omega) (by rw[a];omega) (growslice_fits (by omega) (by rw[a];omega));have b:=grownCap_ge w (0+k) 0 122;have h3:(Value.agg #[.string .empty,.string .empty,.pointer av]).cells.size=3:=rfl;have hA:=iF (Value.agg #[.string .empty,.string .empty,.pointer av]).cells k;have d:=iF (Value.agg #[.string .empty,.string .empty,.pointer av]).cells (grownCap w (0+k) 0 122-(0+k));generalize Builtin.zeroCells (Value.agg #[.string .empty,.string .empty,.pointer av]).cells k=A at*;generalize Builtin.zeroCells (Value.agg #[.string .empty,.string .empty,.pointer av]).cells (grownCap w (0+k) 0 122-(0+k))=B at*;have e:([]:List Value).toArray++A++B=((A++B).toList).toArray:=by grind
 rw[e,bE] at H;rw[bE] at b d;refine⟨_,(A++B).toList,H,b,grownCap_le_maxLen _ _ _ _ (by unfold maxLen;omega), ?_⟩;rw[bk,Array.size_append,hA,d,h3];omega
theorem EY (w:World) (k:Nat) (d:0<k) (h:k<=1000000):
  Calls Tryz.prog 223 #[cx av 0 0,bf cu k] w fun e w'=>∃g c,e=eb (cx (aD ⟨g,0,av⟩) 0 c)/\aY w.heap.size w' (cx (aD ⟨g,0,av⟩) 0 c) []/\Below w.heap.size w w':=by
 obtain⟨c,Z,H,a,b,N⟩:=sU w k d h 123;have j:=aa H;have f:=aa (And.intro a (And.intro b N));have u:(0:Int)<k:=by omega
 have A:(k:Int)<=1000000:=by omega
 have x:(0:Int)<=c:=by omega
 clear H a b N d h;go_enter Tryz.func223,Tryz.ntmps223;go_wp2_with (at_builtin;refine Hid.o ?_);refine aa ?_;refine Lib.wpList_append_run _ rfl _ _ _ _ rfl _ _ rfl rfl _ _ j.o ?_
 have i:=aa (show aY w.heap.size (w.drew.alloc (ey Z.toArray 122)) (cx (aD ⟨w.heap.size,0,av⟩) 0 c) []/\Below w.heap.size w (w.drew.alloc (ey Z.toArray 122)) from
  ⟨fG (l:=[]) (R:=Z) (by exact heap_alloc_new w.drew _) (by exact f.o.2.2) rfl (aB _) f.o.2.1 (ah _),(Below.refl _ w).drew.alloc (ah _) _⟩)
 go_wp2;go_ret;exact⟨_,c,rfl,i.o.1,i.o.2⟩
def LQ (w:World) (l:List It) (e:Ending) (w':World):Prop:=∃v,e=eb v/\aY w.heap.size w' v l/\Below w.heap.size w w'
theorem Az (w:World) (a G O c1 t u c2:Nat) (l m:List It) (ha:aU w a 123 [cx (aD ⟨G,O,av⟩) l.length c1,cx (aD ⟨t,u,av⟩) m.length c2]) (E:bu ak w G O l) (J:bu ak w t u m) (hl:l.length<=400) (P:m.length<=400) (hpos:0<l.length+m.length):
  Calls Tryz.prog 208 #[cx (aD ⟨a,0,av⟩) 2 2] w fun e w'=>LQ w (l++m) e w':=by
 have W:(l.length:Int)<=400:=by omega
 have X:(m.length:Int)<=400:=by omega
 have B:=ha.cell (j:=0) rfl;have z:=ha.cell (j:=1) rfl;have H:=aa (And.intro ha (And.intro E J));have R:=aa (EY w (l.length+m.length) hpos (by omega));have r:=aa (And.intro hl P);obtain⟨L,v⟩:∃L,L=l.length:=⟨_,rfl⟩;obtain⟨M,x⟩:∃M,M=m.length:=⟨_,rfl⟩;rw[<-v] at B W;rw[<-x] at z X;rw[<-v,<-x] at R;have d:=aa (And.intro v x);clear ha E J hl P hpos v x;go_enter Tryz.func208,Tryz.ntmps208;go_wp2
 go_loopw [3,11] (fun sv i wr=>∃j s:Nat,i=bf cu j/\sv=bf cu s/\Hid (j=0/\0=s\/j=1/\L=s\/j=2/\L+M=s)/\w=wr) (fun _ i _=>2-(RowKit.intOf i).toNat)
 case atStart=>exact⟨0,0,rfl,rfl,aa (dc ⟨rfl,rfl⟩),rfl⟩
 case round=>
  obtain⟨j,s,rfl,rfl,n,rfl⟩:=hrel;rcases n.o with⟨rfl,rfl⟩|⟨rfl,rfl⟩|⟨rfl,rfl⟩
  ·go_wp2;go_roundw
   case rel=>exact⟨1,L,by go_num,by go_num,aa (dn (dc ⟨rfl,rfl⟩)),trivial⟩
   case measure=>simp[RowKit.intOf]
  ·have h0:(0:Int)<=(L:Int)+M:=(by omega);go_wp2;go_roundw
   case rel=>exact⟨2,L+M,by go_num,by go_num,aa (dn (dn ⟨rfl,rfl⟩)),trivial⟩
   case measure=>simp[RowKit.intOf]
  ·go_wp2_with fail;refine R.o.mono ?_;rintro e w1 ⟨g,c,rfl,U,y⟩;have V:=aa (And.intro U y);have d0:=(y.cell (p:=⟨a,0,av⟩) H.o.1.lt).trans B;have d1:=(y.cell (p:=⟨a,1,av⟩) H.o.1.lt).trans z;clear U y B z;go_wp2
   go_loopw [6,27] (fun sv i wr=>∃j:Nat,i=bf cu j/\∃(q:Option Addr) (N C:Nat) (p:List It),sv=cx q N C/\Hid (j=0/\p=[]\/j=1/\p=l\/j=2/\p=l++m)/\Hid (aY w.heap.size wr (cx q N C) p)/\Hid (Below w.heap.size w wr)) (fun _ i _=>2-(RowKit.intOf i).toNat)
   case atStart=>exact⟨0,rfl,_,_,_,[],rfl,aa (dc ⟨rfl,rfl⟩),aa V.o.1,aa V.o.2⟩
   case round=>
    obtain⟨j,rfl,q,N,C,p,rfl,n,b,h⟩:=hrel;have Y:=(h.o.cell (p:=⟨a,0,av⟩) H.o.1.lt).trans (H.o.1.cell (j:=0) rfl);have f1:=(h.o.cell (p:=⟨a,1,av⟩) H.o.1.lt).trans (H.o.1.cell (j:=1) rfl);rw[<-d.o.1] at Y;rw[<-d.o.2] at f1;rcases n.o with⟨rfl,hp⟩|⟨rfl,hp⟩|⟨rfl,hp⟩
    ·rw[hp] at b;clear hp n;have I:bu ak wr G O l:=ez H.o.2.1 h.o;go_wp2_with (refine mR (K:=ak) vD rfl _ _ rfl rfl b.o h.o.size G O L c1 l rfl d.o.1.symm I (show ([]:List It).length+L<=1000000000 by have:=r.o;have:=d.o;simp only[ef];omega) ?_;intro v2 Z f F;refine Hid.o ?_);refine aa ?_;have Q:=aa (h.o.grown F h.o.size fun k e=>(Own.block b.o k e).1);obtain⟨q2,A,D,S⟩:=Own.slice f;subst D;have T:=aa f;clear f F S;go_wp2;go_roundw
     case rel=>exact⟨1,by go_num,_,_,_,l,rfl,aa (dn (dc ⟨rfl,rfl⟩)),T,Q⟩
     case measure=>simp[RowKit.intOf]
    ·rw[hp] at b;clear hp n;have I:bu ak wr t u m:=ez H.o.2.2 h.o;go_wp2_with (refine mR (K:=ak) vD rfl _ _ rfl rfl b.o h.o.size t u M c2 m rfl d.o.2.symm I (show l.length+M<=1000000000 by have:=r.o;have:=d.o;omega) ?_;intro v2 Z f F;refine Hid.o ?_);refine aa ?_;have Q:=aa (h.o.grown F h.o.size fun k e=>(Own.block b.o k e).1);obtain⟨q2,A,D,S⟩:=Own.slice f;subst D;have T:=aa f;clear f F S;go_wp2;go_roundw
     case rel=>exact⟨2,by go_num,_,_,_,l++m,rfl,aa (dn (dn ⟨rfl,rfl⟩)),T,Q⟩
     case measure=>simp[RowKit.intOf]
    ·rw[hp] at b;clear hp n;have HE:=aa (show LQ w (l++m) (eb (cx q N C)) wr from⟨_,rfl,b.o,h.o⟩);go_wp2;go_ret;exact HE.o
section
variable {E:Ev} {X0 X X':World} {R0 R R' S:Nat->Prop} {ps ps':List (Nat×List UInt8)} {pg dh:List (Option Wl.Text)} {rt rt':List Nat} {M M':Nat->Option NV} {p q:Nat} {n m:NV}
theorem Mem.renew (h:Mem X M) (hp:M p=aD n) (n':NV) (c:aG S X X') (hS:∀k,S k->k=p\/(k=n.rg/\n.own=true)) (hn:Nd X' p n') (d:n'.ro=0) (hown:aY 0 X' (cx (aD ⟨n'.rg,0,av⟩) n'.its.length n'.cap) n'.its) (hr:(n'.rg=n.rg/\n.own=true)\/X.heap.size<=n'.rg):Mem X' (upd M p n'):=by
 have A:∀r m,r≠p->M r=aD m->¬S r/\¬S m.rg:=by
  intro r m hr a;refine⟨fun hs=> ?_,fun hs=> ?_⟩
  ·rcases hS r hs with e|⟨e,_⟩;·exact hr e
   ·exact h.EK hp a e.symm
  ·rcases hS m.rg hs with e|⟨e,b⟩;·exact h.EK a hp e
   ·rcases h.apart r p m n a hp hr with E|⟨_,E,_⟩;·exact E e
    ·rw[b] at E;cases E
 refine⟨fun r m hr=> ?_,fun r m hr=> ?_,fun r r' m i j K H=> ?_,fun r m hr b=> ?_⟩
 ·rcases aN hr with⟨rfl,rfl⟩|⟨H,N⟩;·exact hn
  ·exact (h.nd r m N).but c (A r m H N).1 (A r m H N).2
 ·rcases aN hr with⟨rfl,rfl⟩|⟨H,N⟩;·exact aY.ty hown
  ·obtain⟨cur,hc⟩:=h.ty r m N;exact⟨cur,by rw[c.block m.rg (h.lt N).2 (A r m H N).2];exact hc⟩
 ·have l:∀r m,r≠p->M r=aD m->n'.rg≠m.rg:=by
   intro r m hr a;rcases o:hr with _;rcases ‹(n'.rg=n.rg/\n.own=true)\/X.heap.size<=n'.rg› with⟨e,b⟩|e
   ·rw[e];rcases h.apart p r n m hp a (fun e=>hr e.symm) with E|⟨E,_⟩;·exact E
    ·rw[b] at E;cases E
   ·have:=(h.lt a).2;omega
  rcases aN j with⟨rfl,rfl⟩|⟨u,f⟩;·grind [aN]
  ·rcases aN K with⟨rfl,rfl⟩|⟨L,g⟩;·grind
   ·exact h.apart r r' m i f g H
 ·rcases aN hr with⟨rfl,rfl⟩|⟨H,N⟩;·exact⟨d,hown⟩
  ·obtain⟨q,s⟩:=h.own r m N b;refine⟨q,Own.but s c fun k t=> ?_⟩;have e:aD m.rg=aD k:=t;injection e with e;rw[<-e];exact (A r m H N).2
def Dom (M M':Nat->Option NV):Prop:=∀r y,M r=aD y->∃Y,M' r=aD Y
theorem Dom.refl (M:Nat->Option NV):Dom M M:=fun _ y h=>⟨y,h⟩
theorem Dom.trans {M M1 M2:Nat->Option NV} (h:Dom M M1) (h':Dom M1 M2):Dom M M2:=fun r y hy=>by obtain⟨Y,H⟩:=h r y hy;exact h' r Y H
theorem Dom.upd (M:Nat->Option NV) (p:Nat) (n:NV):Dom M (upd M p n):=fun r y hy=>by
 by_cases e:r=p;·simp_all[bG]
 ·simp_all[aW]
theorem Dom.but {M M':Nat->Option NV} {p:Nat} {n:NV} (hp:M' p=aD n) (h:∀r m,r≠p->M r=aD m->M' r=aD m):Dom M M':=fun r y hy=>by
 by_cases e:r=p;·subst e;exact⟨n,hp⟩
 ·exact⟨y,h r y e hy⟩
structure SS (E:Ev) (X0:World) (R0 R:Nat->Prop) (ps:List (Nat×List UInt8)) (pg:List (Option Wl.Text)) (rt:List Nat) (M:Nat->Option NV) (X:World) (sb:Nat) (sv:Value) (l:List Int):Prop where
 ts:TS E X0 R0 R ps pg rt M X
 blk:aU X sb 169 [ptr E.tb,sv]
 sp:oq 0 X sv l
 uO:R sb/\X0.heap.size<=sb/\¬MB M sb
 Pg:∀k,sv.ownBlock=aD k->R k/\X0.heap.size<=k/\¬MB M k
variable {sb:Nat} {sv:Value} {l:List Int}
theorem SS.still (h:SS E X0 R0 R ps pg rt M X sb sv l) (H:Below X.heap.size X X'):SS E X0 R0 R ps pg rt M X' sb sv l:=
 ⟨h.ts.still H (fun _ h=>h) (fun _ h=>dc h),h.blk.below H h.blk.lt,Own.below h.sp H (ah _),h.uO,h.Pg⟩
theorem SS.nodes (h:SS E X0 R0 R ps pg rt M X sb sv l) (e:TS E X0 R0 R' ps pg rt M' X') (b:aG S X X') (hS:∀k,S k->MB M k) (c:∀k,R k->R' k) (d:∀k,MB M' k->MB M k\/X.heap.size<=k):SS E X0 R0 R' ps pg rt M' X' sb sv l:=by
 have f:=h.blk.lt;have g:=Own.block h.sp;refine⟨e,h.blk.but b fun hs=>h.uO.2.2 (hS _ hs),Own.but h.sp b fun k H hs=>(h.Pg k H).2.2 (hS _ hs),⟨c _ h.uO.1,h.uO.2.1,fun H=> ?_⟩,fun k H=>⟨c _ (h.Pg k H).1,(h.Pg k H).2.1,fun a=> ?_⟩⟩
 ·rcases d _ H with H|H;·exact h.uO.2.2 H
  ·omega
 ·rcases d _ a with a|a;·exact (h.Pg k H).2.2 a
  ·grind
theorem SS.left (h:SS E X0 R0 R ps pg rt M X sb sv l) {x:Int} {e:Ending} (hl:j_ X sb E.tb sv (l++[x]) e X'):∃eT R',SS E X0 R0 R' ps pg rt M X' sb eT (l++[x])/\(∀k,R k->R' k)/\(∀k,R' k->R k\/X.heap.size<=k)/\aG (fun k=>k=sb\/sv.ownBlock=aD k) X X'/\(∀k,eT.ownBlock=aD k->sv.ownBlock=aD k\/X.heap.size<=k):=by
 obtain⟨_,eT,c,b,h3,h4⟩:=hl;have hS:∀k,(k=sb\/sv.ownBlock=aD k)->R k/\X0.heap.size<=k/\¬MB M k:=by
  intro k H;rcases H with rfl|H;·exact h.uO
  ·exact h.Pg k H
 have a:=h.ts.mem.keep h3 fun k H hs=>(hS k hs).2.2 H;have d:=Own.block b;have V:=Own.block h.sp;refine⟨eT,fun k=>R k\/(eT.ownBlock=aD k),⟨h.ts.own h3 (fun k _ hs=>⟨(hS k hs).1,(hS k hs).2.1⟩) a (fun k H=>⟨dc (h.ts.kM k H).1,(h.ts.kM k H).2⟩) (fun k H=>dc H) (fun k H=> ?_),c,b,⟨dc h.uO.1,h.uO.2⟩,fun k H=>⟨dn H, ?_⟩⟩,fun k H=>dc H,fun k H=> ?_,h3,fun k H=> ?_⟩;·grind
 ·rcases h4 with h4|h4;·grind
  ·refine⟨aH h.ts.but.size (h4 k H),fun f=> ?_⟩;have:=h.ts.mem.mu f;have:=h4 k H;omega
 ·grind
 ·grind
end
namespace Tr
theorem Ok.mix:∀{k:Nat} {X Z:Tx} {H h:Option Tx} {n:E (k+1)},Ok (k+1) X H n->Ok (k+1) Z h n->Ok (k+1) X h n
 |0,_,_,_,_,_,o1,o2=>⟨o1.1,o1.2.1,o1.2.2.1,o2.2.2.2⟩
 |k+1,X,Z,H,h,n,o1,o2=>by
  obtain⟨a1,c,d,A⟩:=o1;obtain⟨_,_,_,B⟩:=o2;refine⟨a1,c,d, ?_⟩;rw[dN] at A B |-;cases hi:its n with
  |nil=>trivial
  |cons a r=>
   rw[hi] at A B;cases r with
   |nil=>exact Ok.mix (show Ok (k+1) X H a.2 from A) (show Ok (k+1) Z h a.2 from B)
   |cons b r=>exact⟨A.1,A.2.1,B.2.2⟩
end Tr
section
variable {E:Ev} {X0 X X':World} {R0 R R' S:Nat->Prop} {ps ps':List (Nat×List UInt8)} {pg dh:List (Option Wl.Text)} {rt rt':List Nat} {M M':Nat->Option NV} {p q:Nat} {n m:NV} {sb:Nat} {sv:Value} {l:List Int}
def NV.lB (n:NV) (its:List It) (g c:Nat) (hi:List UInt8):NV:=⟨n.level,its,g,0,c,n.page,n.lo,hi,n.was,n.at_,true,true⟩
theorem SS.row (h:SS E X0 R0 R ps pg rt M X sb sv l) (hp:M p=aD n) {d x:World} (z:Below X.heap.size X d) {its:List It} {g c:Nat} {hi:List UInt8} {hh:ByteArray} (s:bs hi=hh) (t:aY X.heap.size d (cx (aD ⟨g,0,av⟩) its.length c) its) (hl:its.length<=400) (B:∀i∈its,i.key.length<=200/\i.val.length<=200)
  {L:Nat} (C:L=its.length) (A:x=((d.setCell ⟨p,1,av⟩ (cx (aD ⟨g,0,av⟩) L c)).setCell ⟨p,4,av⟩ (bR hh)).setCell ⟨p,7,av⟩ (eX true)):
  ∃R',SS E X0 R0 R' ps pg rt (upd M p (n.lB its g c hi)) x sb sv l/\(∀k,R k->R' k)/\(∀k,R' k->R k\/X.heap.size<=k)/\aG (fun k=>k=p) X x/\∀k,MB (upd M p (n.lB its g c hi)) k->MB M k\/X.heap.size<=k:=by
 subst C;have u:=h.still z;have o:X.heap.size<=g/\g<d.heap.size:=Own.block t g rfl;have F:=h.ts.mem.lt hp;have N:g≠p:=by omega
 have J:aG (fun k=>k=p) d x:=by rw[A];exact (((aG.refl (fun k=>k=p) d).setCell _ _ fun _=>rfl).setCell _ _ fun _=>rfl).setCell _ _ fun _=>rfl
 have f:aY 0 x (cx (aD ⟨g,0,av⟩) its.length c) its:=Own.but (Own.mono t (aB _)) J fun k H e=>N (by have v:aD g=aD k:=H;injection v with v;rw[v,e]);have a:=iB t;have S:=u.ts.mem.nd p n hp;have w:Nd x p (n.lB its g c hi):=by refine⟨?_,Own.lies f,⟨hl,B,a.2.1,a.2.2⟩⟩;rw[A,<-s];exact ((S.blk.set 1 _).set 4 _).set 7 _
 have q:aG (fun k=>k=p) X x:=(aG.aJ z (fun k=>k=p)).trans J fun _ _ h=>h;have j:Mem x (upd M p (n.lB its g c hi)):=h.ts.mem.renew hp _ q (fun k H=>dc H) w rfl f (dn o.1);have b:∀k,MB (upd M p (n.lB its g c hi)) k->MB M k\/k=g:=by
  rintro k ⟨r,m,hr,H⟩;rcases aN hr with⟨rfl,rfl⟩|⟨_,hr⟩
  ·rcases H with rfl|rfl;·exact dc ⟨_,n,hp,dc rfl⟩
   ·exact dn rfl
  ·exact dc ⟨r,m,hr,H⟩
 have D:X.heap.size<=X0.heap.size\/X0.heap.size<=X.heap.size:=Nat.le_total _ _;have y:TS E X0 R0 (fun k=>R k\/k=g) ps pg rt (upd M p (n.lB its g c hi)) x:=by
  refine h.ts.own q (fun k _ e=> ?_) j (fun k H=> ?_) (fun _ h=>dc h) (fun k H=> ?_);·rw[e];exact h.ts.kM p ⟨p,n,hp,dc rfl⟩
  ·rcases b k H with H|rfl;·exact⟨dc (h.ts.kM k H).1,(h.ts.kM k H).2⟩
   ·exact⟨dn rfl,aH h.ts.but.size o.1⟩
  ·rcases H with H|rfl;·exact dc H
   ·simp_all
 refine⟨fun k=>R k\/k=g,h.nodes y q (fun k e=>by rw[e];exact⟨p,n,hp,dc rfl⟩) (fun _ h=>dc h) (fun k H=> ?_),fun _ h=>dc h,fun k H=> ?_,q,fun k H=> ?_⟩
 ·rcases b k H with H|rfl;·exact dc H
  ·exact dn o.1
 ·grind
 ·rcases b k H with H|rfl;·exact dc H
  ·exact dn o.1
end
section
variable {E:Ev} {X0 X X':World} {R0 R R' S:Nat->Prop} {ps ps':List (Nat×List UInt8)} {pg dh:List (Option Wl.Text)} {rt rt':List Nat} {M M':Nat->Option NV} {p q:Nat} {n m:NV} {sb:Nat} {sv:Value} {l:List Int}
def I5 (E:Ev) (X0:World) (R0 R:Nat->Prop) (ps:List (Nat×List UInt8)) (pg:List (Option Wl.Text)) (rt:List Nat) (M:Nat->Option NV) (X:World) (sb:Nat) (sv:Value) (M':Nat->Option NV) (l':List Int) (X':World):Prop:=
 ∃R' eT,SS E X0 R0 R' ps pg rt M' X' sb eT l'/\(∀k,R k->R' k)/\(∀k,R' k->R k\/X.heap.size<=k)/\aG (fun k=>k=sb\/sv.ownBlock=aD k\/MB M k) X X'/\(∀k,MB M' k->MB M k\/X.heap.size<=k)/\(∀k,eT.ownBlock=aD k->sv.ownBlock=aD k\/X.heap.size<=k)/\Dom M M'
theorem rH {W a w:World} {n':NV} {r:Nat->Prop} (_:SS E X0 R0 R ps pg rt M W sb sv l) (b:SS E X0 R0 r ps pg rt (upd M p n') a sb sv l/\(∀k,R k->r k)/\(∀k,r k->R k\/W.heap.size<=k)/\aG (fun k=>k=p) W a/\∀k,MB (upd M p n') k->MB M k\/W.heap.size<=k) {x:Int} {e:Ending} (hl:j_ a sb E.tb sv (l++[x]) e w) (hp:MB M p):
  I5 E X0 R0 R ps pg rt M W sb sv (upd M p n') (l++[x]) w:=by
 obtain⟨c,d,h3,h4,f⟩:=b;obtain⟨eT,R',K,g,i,j,m⟩:=c.left hl;refine⟨R',eT,K,fun k H=>g k (d k H),fun k H=> ?_, ?_,f,fun k H=> ?_,Dom.upd _ _ _⟩
 ·rcases i k H with H|H;·exact h3 k H
  ·right;have:=h4.size;omega
 ·refine (aG.refl (fun k=>k=sb\/sv.ownBlock=aD k\/MB M k) W).trans h4 (fun k _ e=>dn (dn (by rw[e];exact hp)))|>.trans j fun k _ e=> ?_
  rcases e with e|e;·exact dc e
  ·exact dn (dc e)
 ·rcases m k H with H|H;·exact dc H
  ·right;have:=h4.size;omega
theorem nk (W V:World) (its rs:List It) {kR kS NL eU rg ro RL gA:Nat} (H:Below W.heap.size W V) (d:aU V W.heap.size 123 [cx (aD ⟨kR,kS,av⟩) NL eU,cx (aD ⟨rg,ro,av⟩) RL gA]) (f:bu ak W kR kS its) (i:bu ak W rg ro rs) (j:NL=its.length) (k:RL=rs.length) (hl:its.length+rs.length<=400) (hpos:0<its.length):
  Calls Tryz.prog 208 #[cx (aD ⟨W.heap.size,0,av⟩) 2 2] V fun e w'=>∃g c,e=eb (cx (aD ⟨g,0,av⟩) ((NL:Nat)+(RL:Nat)) c)/\aY W.heap.size w' (cx (aD ⟨g,0,av⟩) (its++rs).length c) (its++rs)/\Below V.heap.size V w':=by
 subst j k;refine (Az V W.heap.size kR kS eU rg ro gA its rs d (ez f H) (ez i H) (by omega) (by omega) (by omega)).mono ?_;rintro e w' ⟨v,rfl,b,a⟩;obtain⟨g,c,rfl,_,_,_⟩:=Own.form b (by rw[au];omega);have h:(its++rs).length=its.length+rs.length:=au;exact⟨g,c,by rw[h],Own.mono b H.size,a⟩
theorem I6 (h:SS E X0 R0 R ps pg rt M X sb sv l) (hp:M p=aD n) (O:M q=aD m) (t:p≠q) (u:n.level=0) (key:ByteArray) (hl:l.length<=100000) (hn:n.its.length+m.its.length<=400) (hpos:0<n.its.length):
  Calls Tryz.prog 175 #[ptr sb,ptr p,ptr q,bR key] X fun e X'=>e=eb (bf cu 0)/\∃g c,I5 E X0 R0 R ps pg rt M X sb sv (upd M p (n.lB (n.its++m.its) g c m.hi)) (l++[m.page]) X':=by
 have b:=h.ts.mem.nd p n hp;have N:=h.ts.mem.nd q m O;have c0:=b.c0;rw[u] at c0;have c1:=b.c1;have c4:=b.c4;have c7:=b.c7;have P:=N.c1;have Q:=N.c4;have S:=h.blk.lt;obtain⟨hh,T⟩:∃hh,bs m.hi=hh:=⟨_,rfl⟩;rw[T] at Q;have TP:=aa T;obtain⟨NL,w⟩:∃NL,NL=n.its.length:=⟨_,rfl⟩;obtain⟨RL,x⟩:∃RL,RL=m.its.length:=⟨_,rfl⟩;rw[<-w] at c1;rw[<-x] at P;obtain⟨kR,U⟩:∃g,g=n.rg:=⟨_,rfl⟩;obtain⟨kS,Y⟩:∃g,g=n.ro:=⟨_,rfl⟩;obtain⟨eU,zh⟩:∃g,g=n.cap:=⟨_,rfl⟩;obtain⟨rg,Z⟩:∃g,g=m.rg:=⟨_,rfl⟩;obtain⟨ro,r⟩:∃g,g=m.ro:=⟨_,rfl⟩;obtain⟨gA,zi⟩:∃g,g=m.cap:=⟨_,rfl⟩;rw[<-U,<-Y,<-zh] at c1;rw[<-Z,<-r,<-zi] at P;obtain⟨W,s⟩:∃W,W=X:=⟨_,rfl⟩;have y:=aa (fun V hb hk=>nk W V n.its m.its (kR:=kR) (kS:=kS) (NL:=NL) (eU:=eU) (rg:=rg) (ro:=ro) (RL:=RL) (gA:=gA) hb hk (by rw[s,U,Y];exact b.row) (by rw[s,Z,r];exact N.row) w x hn hpos);have k:(n.its++m.its).length=NL+RL:=by rw[au,w,x]
 have rI:=aa (show (n.its++m.its).length<=400/\(∀i∈n.its++m.its,i.key.length<=200/\i.val.length<=200)/\NL+RL=(n.its++m.its).length from⟨by rw[au];omega,fun i hi=>by
  rcases aj.1 hi with hi|hi;·exact b.small.each i hi
  ·exact N.small.each i hi,k.symm⟩)
 have sH:=aa (show l.length<=1000000 by omega);have d:=aa (show p<W.heap.size/\q<W.heap.size by rw[s];exact⟨b.blk.lt,N.blk.lt⟩);have f:=aa (show Nd W p n by rw[s];exact b);have Bq:=aa (show SS E X0 R0 R ps pg rt M W sb sv l by rw[s];exact h);have HP:=aa hp;have HQ:=aa O;have TQ:=aa (Ne.symm t);rw[<-s] at c0 c1 c4 c7 P Q S |-;have dV:=d.o.1;have GN:=d.o.2;clear h hp O t u hl hn hpos b N T w x U Y zh Z r zi k s;go_enter Tryz.func175,Tryz.ntmps175;unfold ptr;go_wp2_with (refine wp_region_any (by kernel_rfl) ?_;refine Hid.o ?_);refine aa ?_;try (change wpAny _ _ _ _ _ _ _ (bJ _))
 refine tk 0 ?_;refine tk 1 ?_;refine tk 2 ?_;refine tk 3 ?_;refine tk 4 ?_;refine tk 5 ?_;refine tk 7 ?_;refine tk 10 ?_;refine tk 11 ?_;refine tk 12 ?_;refine tk 13 ?_;try simp only[Act.put,aA,az,ay]
 refine rd [6,14] (AllReady.cons rfl (fun K H=> ?_) (rn fun K H=> ?_))
 focus
  go_simp
  refine H _ _ ?_;clear H K
  refine rd [8,14] (AllReady.cons rfl (fun K H=> ?_) (rn fun K H=> ?_))
  focus
   go_simp
   have I:=aa (show Below W.heap.size W ((W.alloc (ey #[cx (aD ⟨kR,kS,av⟩) NL eU,cx (aD ⟨rg,ro,av⟩) RL gA] 123)).drew) from ((Below.refl _ W).alloc (ah _) _).drew)
   refine H _ _ ?_;clear H K
   refine rd [9,14] (AllReady.cons rfl (fun K H=> ?_) (rn fun K H=> ?_))
   focus
    go_simp
    refine (y.o _ I.o (by have:=aU.new W #[cx (aD ⟨kR,kS,av⟩) NL eU,cx (aD ⟨rg,ro,av⟩) RL gA] 123;exact this)).mono ?_
    rintro e z ⟨g,c,rfl,j,F⟩
    have a:=aa (And.intro j (I.o.trans (F.mono I.o.size)))
    clear F j
    have D:=(a.o.2.cell (p:=⟨p,1,av⟩) d.o.1).trans c1
    have A:=(a.o.2.cell (p:=⟨p,4,av⟩) d.o.1).trans c4
    have B:=(a.o.2.cell (p:=⟨p,7,av⟩) d.o.1).trans c7
    have C:=(a.o.2.cell (p:=⟨q,4,av⟩) d.o.2).trans Q
    have G:=(f.o.still a.o.2).blk.frozen 1
    have J:=(f.o.still a.o.2).blk.frozen 4
    have L:=(f.o.still a.o.2).blk.frozen 7
    refine H _ _ ?_;clear H K
    refine rd [14] (rn fun K H=> ?_)
    go_simp
    refine H _ _ ?_;clear H K
   rotate_left
   focus
    go_simp
    refine H _ _ ?_;clear H K
    refine rd [9] (rn fun K H=> ?_)
    go_simp
    refine (y.o _ I.o (by have:=aU.new W #[cx (aD ⟨kR,kS,av⟩) NL eU,cx (aD ⟨rg,ro,av⟩) RL gA] 123;exact this)).mono ?_
    rintro e z ⟨g,c,rfl,j,F⟩
    have a:=aa (And.intro j (I.o.trans (F.mono I.o.size)))
    clear F j
    have D:=(a.o.2.cell (p:=⟨p,1,av⟩) d.o.1).trans c1
    have A:=(a.o.2.cell (p:=⟨p,4,av⟩) d.o.1).trans c4
    have B:=(a.o.2.cell (p:=⟨p,7,av⟩) d.o.1).trans c7
    have C:=(a.o.2.cell (p:=⟨q,4,av⟩) d.o.2).trans Q
    have G:=(f.o.still a.o.2).blk.frozen 1
    have J:=(f.o.still a.o.2).blk.frozen 4
    have L:=(f.o.still a.o.2).blk.frozen 7
    refine H _ _ ?_;clear H K
  rotate_left 2
  focus
   go_simp
   refine H _ _ ?_;clear H K
   refine rd [8] (rn fun K H=> ?_)
   go_simp
   have I:=aa (show Below W.heap.size W ((W.alloc (ey #[cx (aD ⟨kR,kS,av⟩) NL eU,cx (aD ⟨rg,ro,av⟩) RL gA] 123)).drew) from ((Below.refl _ W).alloc (ah _) _).drew)
   refine H _ _ ?_;clear H K
   refine rd [9] (rn fun K H=> ?_)
   go_simp
   refine (y.o _ I.o (by have:=aU.new W #[cx (aD ⟨kR,kS,av⟩) NL eU,cx (aD ⟨rg,ro,av⟩) RL gA] 123;exact this)).mono ?_
   rintro e z ⟨g,c,rfl,j,F⟩
   have a:=aa (And.intro j (I.o.trans (F.mono I.o.size)))
   clear F j
   have D:=(a.o.2.cell (p:=⟨p,1,av⟩) d.o.1).trans c1
   have A:=(a.o.2.cell (p:=⟨p,4,av⟩) d.o.1).trans c4
   have B:=(a.o.2.cell (p:=⟨p,7,av⟩) d.o.1).trans c7
   have C:=(a.o.2.cell (p:=⟨q,4,av⟩) d.o.2).trans Q
   have G:=(f.o.still a.o.2).blk.frozen 1
   have J:=(f.o.still a.o.2).blk.frozen 4
   have L:=(f.o.still a.o.2).blk.frozen 7
   refine H _ _ ?_;clear H K
 rotate_left 3
 focus
  go_simp
  refine H _ _ ?_;clear H K
  refine rd [6] (rn fun K H=> ?_)
  go_simp
  refine H _ _ ?_;clear H K
  refine rd [8] (rn fun K H=> ?_)
  go_simp
  have I:=aa (show Below W.heap.size W ((W.alloc (ey #[cx (aD ⟨kR,kS,av⟩) NL eU,cx (aD ⟨rg,ro,av⟩) RL gA] 123)).drew) from ((Below.refl _ W).alloc (ah _) _).drew)
  refine H _ _ ?_;clear H K
  refine rd [9] (rn fun K H=> ?_)
  go_simp
  refine (y.o _ I.o (by have:=aU.new W #[cx (aD ⟨kR,kS,av⟩) NL eU,cx (aD ⟨rg,ro,av⟩) RL gA] 123;exact this)).mono ?_
  rintro e z ⟨g,c,rfl,j,F⟩
  have a:=aa (And.intro j (I.o.trans (F.mono I.o.size)))
  clear F j
  have D:=(a.o.2.cell (p:=⟨p,1,av⟩) d.o.1).trans c1
  have A:=(a.o.2.cell (p:=⟨p,4,av⟩) d.o.1).trans c4
  have B:=(a.o.2.cell (p:=⟨p,7,av⟩) d.o.1).trans c7
  have C:=(a.o.2.cell (p:=⟨q,4,av⟩) d.o.2).trans Q
  have G:=(f.o.still a.o.2).blk.frozen 1
  have J:=(f.o.still a.o.2).blk.frozen 4
  have L:=(f.o.still a.o.2).blk.frozen 7
  refine H _ _ ?_;clear H K
 all_goals
  try simp only[Act.put,aA,az,ay]
  refine tk 15 ?_
  refine tk 16 ?_
  refine rd [17] (rn fun K H=> ?_)
  go_simp
  refine H _ _ ?_;clear H K
  refine tk 18 ?_
  refine tk 19 ?_
  refine tk 20 ?_
  refine rd [21] (rn fun K H=> ?_)
  go_simp
  refine H _ _ ?_;clear H K
  refine tk 22 ?_
  refine tk 23 ?_
  refine rd [24] (rn fun K H=> ?_)
  go_simp
  refine H _ _ ?_;clear H K
  refine wpAny_done (by kernel_rfl) ?_ _
  obtain⟨W9,sN⟩:∃W9,W9=((z.setCell ⟨p,1,av⟩ (cx (aD ⟨g,0,av⟩) (NL+RL) c)).setCell ⟨p,4,av⟩ (bR hh)).setCell ⟨p,7,av⟩ (eX true):=⟨_,rfl⟩
  rw[<-sN]
  obtain⟨R9,v,LR,wz,jR,LS⟩:=Bq.o.row HP.o a.o.2 TP.o a.o.1 rI.o.1 rI.o.2.1 rI.o.2.2 sN
  have H9:=aa (And.intro v (And.intro LR (And.intro wz (And.intro jR LS))))
  have Ci:=aa (jh W9 sb E.tb q sv l m v.blk v.sp (v.ts.mem.nd q m ((aW TQ.o).trans HQ.o)) sH.o)
  clear v LR wz jR LS sN D A B C G J L
  unfold ptr at Ci
  go_wp2_with fail
  refine Ci.o.mono ?_
  intro e W10 qj
  have he:=qj.1
  subst he
  have H10:=aa qj
  clear qj Ci
  go_wp2_with fail
  go_ret
  exact⟨rfl,g,c,rH Bq.o H9.o H10.o ⟨p,n,HP.o,dc rfl⟩⟩
end
namespace Tr
theorem AF:∀{k:Nat} {n m:E (k+1)} {x:Tx},its n≠[]->its m≠[]->hd (join k n m x).1=⟨(hd n).page,true⟩
 |0,_,_,_,_,_=>rfl
 |k+1,n,m,x,hn,hm=>by
  obtain⟨A,a,hA⟩:=dR hn;cases h:its m with
  |nil=>exact absurd h hm
  |cons b r=>
   rw[mm hA h]
   split<;>rfl
end Tr
section
variable {E:Ev} {X0 X X':World} {R0 R R' S:Nat->Prop} {ps ps':List (Nat×List UInt8)} {pg dh:List (Option Wl.Text)} {rt rt':List Nat} {M M':Nat->Option NV} {p q:Nat} {n m:NV} {sb:Nat} {sv:Value} {l:List Int}
def gP (l:List Nat):List Int:=l.map fun (p:Nat)=>(p:Int)
theorem jm {o:Option Nat} (h:o.isSome=true):[zf o]=gP o.toList:=by
 cases o with
 |none=>cases h
 |some p=>rfl
def rJ (E:Ev) (X0:World) (R0 R:Nat->Prop) (ps:List (Nat×List UInt8)) (pg:List (Option Wl.Text)) (rt:List Nat) (M:Nat->Option NV) (X:World) (sb:Nat) (sv:Value) (k p:Nat) (n m:NV) (F:List Nat) (j:Tr.E (k+1)) (l':List Int) (X':World):Prop:=
 ∃M' n' f,I5 E X0 R0 R ps pg rt M X sb sv M' l' X'/\dO M' pg k p j f/\M' p=aD n'/\n'.lo=n.lo/\n'.hi=m.hi/\f.Nodup/\(∀r∈f,r∈F\/X.heap.size<=r)/\(∀r x,r∉F->M r=aD x->M' r=aD x)
theorem sV {k:Nat} {t:Tr.E (k+1)} {lo:Tr.Tx} {h:Option Tr.Tx} (H:kQ pg k n t) (hs:Tr.Ok (k+1) lo h t):Tr.Ok (k+1) n.lo (jA n.hi) t:=H.near.ok hs.1 hs.2.1
theorem rK {k:Nat} {lo:Tr.Tx} {h:Option Tr.Tx} {t:Tr.E (k+1)} (H:Tr.Ok (k+1) lo h t):(Tr.its t).length<=255/\0<(Tr.its t).length:=by have:=Tr.jk k (Tr.its t);have a:=H.2.1;exact⟨by omega,eL.2 H.1⟩
theorem I7 {tn tm:Tr.E 1} {F j:List Nat} {x:Tr.Tx} {v:Tr.Tx} {B:Option Tr.Tx} (h:SS E X0 R0 R ps pg rt M X sb sv l) (r1:dO M pg 0 p tn F) (r2:dO M pg 0 q tm j) (hp:M p=aD n) (t:M q=aD m) (w:(F++j).Nodup)
  (on:Tr.Ok 1 v (aD x) tn) (o:Tr.Ok 1 x B tm) (z:x.length<=96) (hc:¬Tr.cut 1 tn x tm) (hold:Tr.Old 1 tm) (hl:l.length<=100000):
  Calls Tryz.prog 175 #[ptr sb,ptr p,ptr q,bR (bs x)] X fun e X'=>e=eb (bf cu 0)/\rJ E X0 R0 R ps pg rt M X sb sv 0 p n m (F++j) (Tr.join 0 tn tm x).1 (l++gP (Tr.join 0 tn tm x).2) X':=by
 obtain⟨n',H,f,a,rfl⟩:=r1;rw[hp] at H;injection H with H;subst H;obtain⟨C,i,u,b,rfl⟩:=r2;rw[t] at i;injection i with i;subst i;have k:p≠q:=by grind
 have D:n.its.length=(Tr.its tn).length:=by rw[a];unfold aq;rw[aT]
 have G:m.its.length=(Tr.its tm).length:=by rw[b];unfold aq;rw[aT]
 have I:=rK on;have K:=rK o;have d:n.its.length+m.its.length<=400:=by have s1:=Tr.jk 0 (Tr.its tn);have s2:=Tr.jk 0 (Tr.its tm);rw[Tr.uG] at hc;omega
 refine (I6 h hp t k f.level (bs x) hl d (by omega)).mono ?_;rintro e X' ⟨rfl,g,c,s⟩;have J:=Tr.qV 0 (Tr.Ok.mix (sV f on) on) (Tr.Ok.mix o (sV u o)) z hc;have P:=Tr.AF (x:=x) on.1 o.1;have A:(Tr.hd tm).page.isSome=true:=hold.1;refine⟨rfl,upd M p (n.lB (n.its++m.its) g c m.hi),n.lB (n.its++m.its) g c m.hi,[p], ?_,⟨_,bG _ _ _,⟨f.level, ?_, ?_,J.ok.near,fun hf=> ?_⟩, ?_,rfl⟩,bG _ _ _,rfl,rfl,by simp,fun r hr=>dc ?_,fun r y hr hy=> ?_⟩
 ·have:[m.page]=gP (Tr.join 0 tn tm x).2:=by rw[u.page];exact jm A
  rw[<-this];exact s
 ·rw[P];exact f.page
 ·rw[P];rfl
 ·grind
 ·show n.its++m.its=aq 0 (Tr.its tn++Tr.its tm);rw[a,b];unfold aq;rw[bQ]
 ·grind
 ·simp_all[aW]
end
section
variable {E:Ev} {X0 X X' X1 X2:World} {R0 R R' R1 R2 S:Nat->Prop} {ps ps':List (Nat×List UInt8)} {pg dh:List (Option Wl.Text)} {rt rt':List Nat} {M M' M1 M2:Nat->Option NV} {p q:Nat} {n m:NV} {sb:Nat} {sv sv1 XL:Value} {l:List Int}
structure mQ (R:Nat->Prop) (M:Nat->Option NV) (X:World) (sb:Nat) (sv:Value) (R':Nat->Prop) (M':Nat->Option NV) (eT:Value) (X':World):Prop where
 sub:∀k,R k->R' k
 new:∀k,R' k->R k\/X.heap.size<=k
 but:aG (fun k=>k=sb\/sv.ownBlock=aD k\/MB M k) X X'
 mb:∀k,MB M' k->MB M k\/X.heap.size<=k
 sp:∀k,eT.ownBlock=aD k->sv.ownBlock=aD k\/X.heap.size<=k
 dom:Dom M M'
theorem mQ.trans (H:mQ R M X sb sv R1 M1 sv1 X1) (a:mQ R1 M1 X1 sb sv1 R2 M2 XL X2):mQ R M X sb sv R2 M2 XL X2:=by
 have hs:=H.but.size;refine⟨fun k h=>a.sub k (H.sub k h),fun k h=> ?_,H.but.trans a.but fun k b h=> ?_,fun k h=> ?_,fun k h=> ?_,H.dom.trans a.dom⟩
 ·rcases a.new k h with h|h;·exact H.new k h
  ·right;omega
 ·rcases h with h|h|h;·exact dc h
  ·rcases H.sp k h with h|h;·exact dn (dc h)
   ·omega
  ·rcases H.mb k h with h|h;·exact dn (dn h)
   ·omega
 ·rcases a.mb k h with h|h;·exact H.mb k h
  ·right;omega
 ·rcases a.sp k h with h|h;·exact H.sp k h
  ·right;omega
theorem mF {l':List Int}:I5 E X0 R0 R ps pg rt M X sb sv M' l' X'↔∃R' eT,SS E X0 R0 R' ps pg rt M' X' sb eT l'/\mQ R M X sb sv R' M' eT X':=
 ⟨fun ⟨R',eT,a,b,c,d,e,f,g⟩=>⟨R',eT,a,⟨b,c,d,e,f,g⟩⟩,fun ⟨R',eT,a,s⟩=>⟨R',eT,a,s.sub,s.new,s.but,s.mb,s.sp,s.dom⟩⟩
theorem mQ.nodes (H:aG S X X') (hS:∀k,S k->MB M k) (a:∀k,R k->R' k) (D:∀k,R' k->R k\/X.heap.size<=k) (b:∀k,MB M' k->MB M k\/X.heap.size<=k) (hd:Dom M M'):mQ R M X sb sv R' M' sv X':=
 ⟨a,D,(aG.refl (fun k=>k=sb\/sv.ownBlock=aD k\/MB M k) X).trans H fun k _ c=>dn (dn (hS k c)),b,fun _ h=>dc h,hd⟩
theorem mQ.still (H:Below X.heap.size X X'):mQ R M X sb sv R M sv X':=
 ⟨fun _ h=>h,fun _ h=>dc h,aG.aJ H _,fun _ h=>dc h,fun _ h=>dc h,Dom.refl _⟩
theorem SS.key (h:SS E X0 R0 R ps pg rt M X sb sv l) (b:M q=aD m) (hpos:0<m.its.length) (x:List UInt8) (f:x.length<=200) {xb:ByteArray} (T:bs x=xb):
  SS E X0 R0 R ps pg rt (upd M q {m with its:=m.its.set 0 {m.its[0] with key:=x}}) (X.setCell ⟨m.rg,m.ro,av⟩ (bR xb)) sb sv l/\mQ R M X sb sv R (upd M q {m with its:=m.its.set 0 {m.its[0] with key:=x}}) sv (X.setCell ⟨m.rg,m.ro,av⟩ (bR xb)):=by
 have B:=(h.ts.mem.nd q m b).small;have g:=h.ts.mem.item b 0 0 hpos (by decide) {m.its[0] with key:=x} (bR xb) (by rw[<-T];rfl) ⟨f,(B.each _ (bI hpos)).2⟩;have c:aG (fun k=>k=m.rg) X (X.setCell ⟨m.rg,m.ro,av⟩ (bR xb)):=(aG.refl (fun k=>k=m.rg) X).setCell _ _ fun _=>rfl;have a:∀k,MB (upd M q {m with its:=m.its.set 0 {m.its[0] with key:=x}}) k->MB M k:=by
  rintro k ⟨r,y,hr,H⟩;rcases aN hr with⟨rfl,rfl⟩|⟨_,hr⟩;·exact⟨_,m,b,H⟩
  ·exact⟨r,y,hr,H⟩
 have d:=h.ts.own c (fun k _ e=>by rw[e];exact h.ts.kM _ ⟨q,m,b,dn rfl⟩) g (fun k H=>h.ts.kM k (a k H)) (fun _ h=>h) (fun _ h=>dc h);have hS:∀k,k=m.rg->MB M k:=fun k e=>by rw[e];exact⟨q,m,b,dn rfl⟩
 exact⟨h.nodes d c hS (fun _ h=>h) fun k H=>dc (a k H),mQ.nodes c hS (fun _ h=>h) (fun _ h=>dc h) (fun k H=>dc (a k H)) (Dom.upd _ _ _)⟩
end
section
variable {E:Ev} {X0 X X' V:World} {R0 R R' S:Nat->Prop} {ps ps':List (Nat×List UInt8)} {pg dh:List (Option Wl.Text)} {rt rt':List Nat} {M M':Nat->Option NV} {p q:Nat} {n m:NV}
structure Zp (E:Ev) (X0:World) (R0 R:Nat->Prop) (ps:List (Nat×List UInt8)) (pg:List (Option Wl.Text)) (rt:List Nat) (M:Nat->Option NV) (X:World) (p:Nat) (n:NV) (k:Nat) (I1:List It) (i:It) (I2:List It) (c:Tr.E (k+1)) (f:List Nat) (q:Nat) (M':Nat->Option NV) (R':Nat->Prop) (fq:List Nat) (X':World):Prop where
 ts:TS E X0 R0 R' ps pg rt M' X'
 at_:M' p=aD {n with its:=I1++{i with node:=aD q}::I2}
 zg:dO M' pg k q c fq
 same:∀r m,r≠p->M r=aD m->M' r=aD m
 news:∀r∈fq,r∈f\/X.heap.size<=r
 pn:p∉fq
 nd:fq.Nodup
 size:X.heap.size<=X'.heap.size
 but:aG (fun b=>b=n.rg) X X'
 sub:∀b,R b->R' b
 new:∀b,R' b->R b\/X.heap.size<=b
 mb:∀b,MB M' b->MB M b\/X.heap.size<=b
theorem zj {k:Nat} {I1 I2:List It} {i:It} {key:Tr.Tx} {c:Tr.E (k+1)} {f:List Nat} {j:Int}
  (h:TS E X0 R0 R ps pg rt M X) (a:Below X.heap.size X V) (hp:M p=aD n) (u:n.level=k+1) (hi:n.its=I1++i::I2) (G:jB pg k (dO M pg k) i (key,c) f) (I:i.node=av->Tr.Ok (k+1) (eW n I1.length) (jA (eu n I1.length)) c) (v:p∉f) (w:f.Nodup) (L:k<=15) (t:j=I1.length):
  Calls Tryz.prog 79 #[ptr E.tb,ptr p,bf cu j] V fun e X'=>∃q M' R' fq,e=eb (gu #[ptr q,bf cu 0])/\Zp E X0 R0 R ps pg rt M X p n k I1 i I2 c f q M' R' fq X':=by
 subst t;have t:I1.length<n.its.length:=by rw[hi,au,a_];omega
 have J:n.its[I1.length]=i:=by grind
 have hS:=h.still a (fun _ h=>h) (fun _ h=>dc h);obtain⟨N,O,Q⟩:=G;rcases Q with⟨H,S,hval,x⟩|⟨q,y,hr⟩
 ·obtain⟨⟨page,C,P,Y⟩,l,B⟩:=x;have hs:=I H;have T:=h_ L ⟨⟨page,C,P,Y⟩,l,B⟩ C hs;have U:n.its[I1.length].val=pv page:=by rw[J,hval];show pv ((Tr.hd c).page.getD 0)=_;rw[C];rfl
  refine (sQ hS hp I1.length t (by rw[J];exact H) page P U k u (aq k (Tr.its c)) T).mono ?_;rintro e X' ⟨q,rg,cap,R',rfl,d,Z,W,VJ,hR,Zr⟩;have D:=aH a.size Z;have Pf:=aH a.size W;have DU:∀b,R' b->R b\/X.heap.size<=b:=fun b o=>(Zr b o).imp_right fun h=>aH a.size h;have K:aG (fun b=>b=n.rg) X X':=(aG.aJ a (fun b=>b=n.rg)).trans VJ fun _ _ h=>h;have pP:n.its.set I1.length {(n.its.getD I1.length ⟨[],[],av⟩) with node:=aD q}=I1++{i with node:=aD q}::I2:=by grind
  rw[pP] at d;obtain⟨M',A⟩:∃M',M'=upd (upd M q (NV.got k (aq k (Tr.its c)) rg cap page (eW n I1.length) (eu n I1.length))) p {n with its:=I1++{i with node:=aD q}::I2}:=⟨_,rfl⟩;rw[<-A] at d;have dV:=(h.mem.lt hp).1;have s:q≠p:=by omega
  have g:∀r m,r≠p->M r=aD m->M' r=aD m:=by intro r m hr F;have y8:r≠q:=(by have:=(h.mem.lt F).1;omega);rw[A,aW hr,aW y8];exact F
  refine⟨q,M',R',[q],rfl,⟨d,by rw[A,bG], ?_,g,fun r hr=>by rw[cQ.1 hr];exact dn D,by simpa using Ne.symm s,by simp,K.size,K,hR,DU, ?_⟩⟩;·exact GK ⟨⟨page,C,P,Y⟩,l,B⟩ C hs (by rw[A,aW s,bG])
  ·rintro b ⟨r,m,hr,o⟩;rw[A] at hr;rcases aN hr with⟨rfl,rfl⟩|⟨_,hr⟩;·exact dc ⟨_,n,hp,o⟩
   ·rcases aN hr with⟨rfl,rfl⟩|⟨_,hr⟩
    ·right;rcases o with rfl|rfl;·exact D
     ·exact Pf
    ·exact dc ⟨r,m,hr,o⟩
 ·refine (ud hS hp I1.length t (by rw[J];exact y)).mono ?_;rintro e X' ⟨rfl,rfl⟩;have z:{i with node:=aD q}=i:=by cases i;simp only at y;subst y;rfl
  refine⟨q,M,R,f,rfl,⟨hS, ?_,hr,fun _ _ _ h=>h,fun r hr=>dc hr,v,w,a.size,aG.aJ a _,fun _ h=>h,fun _ h=>dc h,fun _ h=>dc h⟩⟩;rw[z,<-hi];exact hp
end
section
variable {E:Ev} {X0 Xs X X':World} {R0 Rs R R' S:Nat->Prop} {ps:List (Nat×List UInt8)} {pg:List (Option Wl.Text)} {rt:List Nat} {Ms M M':Nat->Option NV} {p q:Nat} {n m:NV} {sb:Nat} {gG sv eT lv:Value} {l l':List Int} {L LI:List It}
structure Row (E:Ev) (X0:World) (R0:Nat->Prop) (ps:List (Nat×List UInt8)) (pg:List (Option Wl.Text)) (rt:List Nat) (Rs:Nat->Prop) (Ms:Nat->Option NV) (Xs:World) (sb:Nat) (gG:Value) (R:Nat->Prop) (M:Nat->Option NV) (X:World) (sv:Value) (l:List Int) (lv:Value) (LI:List It):Prop where
 base:X0.heap.size<=Xs.heap.size
 ss:SS E X0 R0 R ps pg rt M X sb sv l
 zk:mQ Rs Ms Xs sb gG R M sv X
 own:aY Xs.heap.size X lv LI
 Q6:∀b,lv.ownBlock=aD b->R b/\¬MB M b/\b≠sb/\sv.ownBlock≠aD b
theorem Row.step (h:Row E X0 R0 ps pg rt Rs Ms Xs sb gG R M X sv l lv LI) (hs:SS E X0 R0 R' ps pg rt M' X' sb eT l') (a:mQ R M X sb sv R' M' eT X'):Row E X0 R0 ps pg rt Rs Ms Xs sb gG R' M' X' eT l' lv LI:=by
 refine⟨h.base,hs,h.zk.trans a,Own.but h.own a.but fun b c H=> ?_,fun b c=> ?_⟩
 ·obtain⟨_,d,h3,h4⟩:=h.Q6 b c;rcases H with H|H|H;·exact h3 H
  ·exact h4 H
  ·exact d H
 ·obtain⟨e,d,h3,h4⟩:=h.Q6 b c;have f:=(Own.block h.own b c).2;refine⟨a.sub b e,fun H=> ?_,h3,fun H=> ?_⟩
  ·rcases a.mb b H with H|H;·exact d H
   ·omega
  ·rcases a.sp b H with H|H;·exact h4 H
   ·omega
theorem Row.add {e:Ending} (h:Row E X0 R0 ps pg rt Rs Ms Xs sb gG R M X sv l lv LI) (ha:za Xs.heap.size X lv L e X'):
  ∃mA R',e=eb (gu #[mA,bf cu 0])/\Row E X0 R0 ps pg rt Rs Ms Xs sb gG R' M X' sv l mA L/\aG (fun b=>lv.ownBlock=aD b) X X'/\(∀b,mA.ownBlock=aD b->lv.ownBlock=aD b\/X.heap.size<=b):=by
 obtain⟨mA,rfl,i,c,a⟩:=ha;have hS:∀k,lv.ownBlock=aD k->R k/\X0.heap.size<=k/\¬MB M k:=fun k H=>⟨(h.Q6 k H).1,aH h.base (Own.block h.own k H).1,(h.Q6 k H).2.1⟩;have d:=h.ss.ts.mem.keep c fun k H hs=>(hS k hs).2.2 H;have g:=Own.block i;have y:=h.ss.blk.lt;have j:=Own.block h.ss.sp;have f:∀k,mA.ownBlock=aD k->R k\/X.heap.size<=k:=fun k H=>by
  rcases a with a|a;·grind
  ·exact dn (a k H)
 have I:∀k,(R k\/mA.ownBlock=aD k)->R k\/X.heap.size<=k:=fun k H=>by
  rcases H with H|H;·exact dc H
  ·exact f k H
 refine⟨mA,fun k=>R k\/mA.ownBlock=aD k,rfl,⟨h.base,⟨h.ss.ts.own c (fun k _ hs=>⟨(hS k hs).1,(hS k hs).2.1⟩) d (fun k H=>⟨dc (h.ss.ts.kM k H).1,(h.ss.ts.kM k H).2⟩) (fun k H=>dc H) (fun k H=> ?_),h.ss.blk.but c fun hs=>(h.Q6 _ hs).2.2.1 rfl,Own.but h.ss.sp c fun k H hs=>(h.Q6 k hs).2.2.2 H,⟨dc h.ss.uO.1,h.ss.uO.2⟩,fun k H=>⟨dc (h.ss.Pg k H).1,(h.ss.Pg k H).2⟩⟩,⟨fun k H=>dc (h.zk.sub k H),fun k H=> ?_,h.zk.but.trans c fun k g H=> ?_,h.zk.mb,h.zk.sp,h.zk.dom⟩,i,fun k H=>⟨dn H, ?_⟩⟩,c,fun k H=> ?_⟩;·grind
 ·rcases I k H with H|H;·exact h.zk.new k H
  ·exact dn (aH h.zk.but.size H)
 ·have:=(Own.block h.own k H).1;omega
 ·rcases a with a|a;·rw[a] at H;exact (h.Q6 k H).2
  ·have o:=a k H;refine⟨fun m=> ?_,by omega,fun n=> ?_⟩;·have:=h.ss.ts.mem.mu m;omega
   ·grind
 ·grind
end
section
variable {E:Ev} {X0 X X1 X2:World} {R0 R R1 R2:Nat->Prop} {ps:List (Nat×List UInt8)} {pg:List (Option Wl.Text)} {rt:List Nat} {M M1 M2:Nat->Option NV} {p q:Nat} {n m:NV} {sb:Nat} {sv:Value} {l:List Int}
structure Zs (E:Ev) (X0:World) (R0 R:Nat->Prop) (ps:List (Nat×List UInt8)) (pg:List (Option Wl.Text)) (rt:List Nat) (M:Nat->Option NV) (X:World) (sb:Nat) (sv:Value) (l:List Int) (k p q:Nat) (n m:NV) (I1:List It) (i j:It) (J:List It) (A r:List (Tr.Tx×Tr.E (k+1))) (a b:Tr.E (k+1)) (x:Tr.Tx) (f1 f2:List (List Nat)) (fa fb:List Nat) (R3:Nat->Prop) (M3:Nat->Option NV) (X3:World) (la lb:Nat) (jV pQ:List Nat) (m3:NV):Prop where
 ss:SS E X0 R0 R3 ps pg rt M3 X3 sb sv l
 zk:mQ R M X sb sv R3 M3 sv X3
 Zt:M3 p=aD {n with its:=I1++[{i with node:=aD la}]}
 atq:M3 q=aD m3
 its:m3.its=⟨x,j.val,aD lb⟩::J
 like:m3.hi=m.hi/\m3.page=m.page/\m3.rg=m.rg/\m3.ro=m.ro/\m3.cap=m.cap
 ra:dO M3 pg k la a jV
 rb:dO M3 pg k lb b pQ
 kl:bp pg k (dO M3 pg k) I1 A f1
 kr:bp pg k (dO M3 pg k) J r f2
 nd:(p::(f1.flatten++(jV++(pQ++f2.flatten)))).Nodup
 qn:q∉p::(f1.flatten++(jV++(pQ++f2.flatten)))
 na:∀r∈jV,r∈fa\/X.heap.size<=r
 nb:∀r∈pQ,r∈fb\/X.heap.size<=r
 same:∀r y,r≠p->r≠q->M r=aD y->M3 r=aD y
theorem LU {k:Nat} {I1:List It} {i j:It} {J:List It} {A r:List (Tr.Tx×Tr.E (k+1))} {a b:Tr.E (k+1)} {x ka kb:Tr.Tx} {f1 f2:List (List Nat)} {fa fb jV pQ:List Nat} {la lb:Nat}
  (h:SS E X0 R0 R ps pg rt M X sb sv l) (hp:M p=aD n) (hq:M q=aD m) (k1:bp pg k (dO M pg k) I1 A f1) (k2:jB pg k (dO M pg k) i (ka,a) fa) (k3:jB pg k (dO M pg k) j (kb,b) fb) (k4:bp pg k (dO M pg k) J r f2)
  (v:((p::(f1++[fa]).flatten)++(q::(fb::f2).flatten)).Nodup) (hx:x.length<=96)
  (B:Ax E X0 R0 R ps pg rt M X p n k I1 i [] A a [] f1 [] fa la M1 R1 jV X1) (s1:SS E X0 R0 R1 ps pg rt M1 X1 sb sv l)
  (f:Ax E X0 R0 R1 ps pg rt M1 X1 q m k [] j J [] b r [] f2 fb lb M2 R2 pQ X2) (s2:SS E X0 R0 R2 ps pg rt M2 X2 sb sv l) (t2:mQ R M X sb sv R2 M2 sv X2):
  ∃M3 m3,Zs E X0 R0 R ps pg rt M X sb sv l k p q n m I1 i j J A r a b x f1 f2 fa fb R2 M3 (X2.setCell ⟨m.rg,m.ro,av⟩ (bR (bs x))) la lb jV pQ m3:=by
 have c:∀r,(∃y,M r=aD y)->r<X.heap.size:=fun r ⟨y,hy⟩=>(h.ts.mem.lt hy).1;have VH:∀r,(∃y,M1 r=aD y)->r<X1.heap.size:=fun r ⟨y,hy⟩=>(s1.ts.mem.lt hy).1;have IU:=B.size;have Zu:(f1++[fa]).flatten=f1.flatten++fa:=by simp
 rw[Zu,dA] at v;have VK:=k1.dom;have VL:=k4.dom;have Zv:∀r∈fa,∃y,M r=aD y:=by
  obtain⟨_,_,hi⟩:=k2;rcases hi with⟨_,e,_⟩|⟨y,_,hr⟩;·rw[e];intro r hr;cases hr
  ·exact hr.dom
 have Zw:∀r∈fb,∃y,M r=aD y:=by
  obtain⟨_,_,hi⟩:=k3;rcases hi with⟨_,e,_⟩|⟨y,_,hr⟩;·rw[e];intro r hr;cases hr
  ·exact hr.dom
 obtain⟨uI,G,w⟩:=aR.1 v;obtain⟨I,Zx⟩:=cL.1 uI;obtain⟨z,Zy⟩:=cL.1 G;obtain⟨n1,na0,K⟩:=aR.1 Zx;obtain⟨nb0,n2,L⟩:=aR.1 Zy;have C:p≠q:=fun e=>w p aE q aE e;have u:∀s t,s∈p::(f1.flatten++fa)->t∈q::(fb++f2.flatten)->s≠t:=fun s t hs H=>w s hs t H;have hpX:=c p ⟨n,hp⟩;have hqX:=c q ⟨m,hq⟩;have aa_:∀r,r≠p->(∃y,M r=aD y)->M1 r=M r:=fun r hr ⟨y,hy⟩=>by rw[hy];exact B.same r y hr hy
 have VM:∀r,r≠q->(∃y,M1 r=aD y)->M2 r=M1 r:=fun r hr ⟨y,hy⟩=>by rw[hy];exact f.same r y hr hy
 have N:∀r y,r≠p->r≠q->M r=aD y->M2 r=aD y:=fun r y O F hy=>f.same r y F (B.same r y O hy);have Z:q∉jV:=fun e=>by
  rcases B.news q e with e|e;·grind [aI,aE]
  ·omega
 have P:p∉jV:=fun e=>by
  rcases B.news p e with e|e;·grind
  ·omega
 have Q:q∉pQ:=fun e=>by
  rcases f.news q e with e|e;·grind
  ·omega
 have S:p∉pQ:=fun e=>by
  rcases f.news p e with e|e;·grind
  ·omega
 have Q7:=B.zg.dom;have ZA:dO M2 pg k la a jV:=B.zg.frame fun r hr=>VM r (fun e=>Z (by rw[<-e];exact hr)) (Q7 r hr);have ZB:bp pg k (dO M2 pg k) I1 A f1:=B.left.frame fun r hr=>VM r (fun e=>u q q (aI _ (aj.2 (dc (by rw[<-e];exact hr)))) aE rfl) (B.left.dom r hr);have VN:M2 p=aD {n with its:=I1++[{i with node:=aD la}]}:=f.same p _ C B.at_;obtain⟨g,o⟩:∃g:NV,g={m with its:=[]++{j with node:=aD lb}::J}:=⟨_,rfl⟩;have LV:M2 q=aD g:=by rw[o];exact f.at_
 have hpos:0<g.its.length:=by rw[o];show 0<([]++{j with node:=aD lb}::J).length;simp
 have xP:g.rg=m.rg:=by rw[o]
 have T:g.ro=m.ro:=by rw[o]
 obtain⟨m3,Gq⟩:∃m3:NV,m3={g with its:=g.its.set 0 {g.its[0] with key:=x}}:=⟨_,rfl⟩;obtain⟨s3,t3⟩:SS E X0 R0 R2 ps pg rt (upd M2 q m3) (X2.setCell ⟨m.rg,m.ro,av⟩ (bR (bs x))) sb sv l/\mQ R2 M2 X2 sb sv R2 (upd M2 q m3) sv (X2.setCell ⟨m.rg,m.ro,av⟩ (bR (bs x))):=by rw[<-xP,<-T,Gq];exact s2.key LV hpos x (by omega) rfl
 have ZC:m3.its=⟨x,j.val,aD lb⟩::J:=by grind
 have Y:∀r,r≠q->upd M2 q m3 r=M2 r:=fun r hr=>aW hr;refine⟨upd M2 q m3,m3,⟨s3,t2.trans t3, ?_,bG _ _ _,ZC, ?_, ?_, ?_, ?_, ?_, ?_, ?_,B.news,fun r hr=>(f.news r hr).imp_right fun h=>aH IU h,fun r y O F hy=> ?_⟩⟩;·grind
 ·grind
 ·exact ZA.frame fun r hr=>Y r fun e=>Z (by rw[<-e];exact hr)
 ·exact f.zg.frame fun r hr=>Y r fun e=>Q (by rw[<-e];exact hr)
 ·exact ZB.frame fun r hr=>Y r fun e=>u q q (aI _ (aj.2 (dc (by rw[<-e];exact hr)))) aE rfl
 ·exact f.right.frame fun r hr=>Y r fun e=>z (aj.2 (dn (by rw[<-e];exact hr)))
 ·have U:∀s∈jV,∀t∈pQ,s≠t:=by
   intro s hs t H e;subst e;rcases B.news s hs with d|d
   ·rcases f.news s H with D|D;·exact u s s (aI _ (aj.2 (dn d))) (aI _ (aj.2 (dc D))) rfl
    ·have:=c s (Zv s d);omega
   ·rcases f.news s H with D|D;·have:=c s (Zw s D);omega
    ·have:=VH s (Q7 s hs);omega
  have V:∀s∈jV,∀t∈f2.flatten,s≠t:=by
   intro s hs t H e;subst e;rcases B.news s hs with d|d;·exact u s s (aI _ (aj.2 (dn d))) (aI _ (aj.2 (dn H))) rfl
   ·have:=c s (VL s H);omega
  have ZD:∀s∈pQ,∀t∈f2.flatten,s≠t:=by
   intro s hs t H e;subst e;rcases f.news s hs with d|d;·exact L s d s H rfl
   ·have:=c s (VL s H);omega
  have ZE:∀s∈f1.flatten,∀t∈jV,s≠t:=by
   intro s hs t H e;subst e;rcases B.news s H with d|d;·exact K s hs s d rfl
   ·have:=c s (VK s hs);omega
  have W:∀s∈f1.flatten,∀t∈pQ,s≠t:=by
   intro s hs t H e;subst e;rcases f.news s H with d|d;·exact u s s (aI _ (aj.2 (dc hs))) (aI _ (aj.2 (dc d))) rfl
   ·have:=c s (VK s hs);omega
  have d12:∀s∈f1.flatten,∀t∈f2.flatten,s≠t:=fun s hs t H=>u s t (aI _ (aj.2 (dc hs))) (aI _ (aj.2 (dn H)));refine cL.2 ⟨?_,aR.2 ⟨n1,aR.2 ⟨B.nd,aR.2 ⟨f.nd,n2,ZD⟩, ?_⟩, ?_⟩⟩
  ·intro e;rcases aj.1 e with e|e;·exact I (aj.2 (dc e))
   ·rcases aj.1 e with e|e;·exact P e
    ·rcases aj.1 e with e|e;·exact S e
     ·exact u p p aE (aI _ (aj.2 (dn e))) rfl
  ·intro s hs t H;rcases aj.1 H with H|H;·exact U s hs t H
   ·exact V s hs t H
  ·intro s hs t H;rcases aj.1 H with H|H;·exact ZE s hs t H
   ·rcases aj.1 H with H|H;·exact W s hs t H
    ·exact d12 s hs t H
 ·intro e;rcases aX.1 e with e|e;·exact C e.symm
  ·rcases aj.1 e with e|e;·exact u q q (aI _ (aj.2 (dc e))) aE rfl
   ·rcases aj.1 e with e|e;·exact Z e
    ·rcases aj.1 e with e|e;·exact Q e
     ·exact z (aj.2 (dn e))
 ·rw[aW F];exact N r y O F hy
end
section
variable {E:Ev} {X0 X X3 X4 X5 X':World} {R0 R R3:Nat->Prop} {ps:List (Nat×List UInt8)} {pg:List (Option Wl.Text)} {rt:List Nat} {M M3 M5:Nat->Option NV} {p q:Nat} {n m m3:NV} {sb:Nat} {sv:Value} {l:List Int}
 {k:Nat} {I1:List It} {i j:It} {J:List It} {A r:List (Tr.Tx×Tr.E (k+1))} {a b:Tr.E (k+1)} {x ka kb:Tr.Tx} {f1 f2:List (List Nat)} {fa fb jV pQ:List Nat} {la lb:Nat} {tn tm:Tr.E (k+2)}
theorem bp.cons {R1:Nat->Tr.E (k+1)->List Nat->Prop} {is:List It} {xs:List (Tr.Tx×Tr.E (k+1))} {fs:List (List Nat)} {y:Tr.Tx×Tr.E (k+1)} {f:List Nat} (h:jB pg k R1 i y f) (h':bp pg k R1 is xs fs):bp pg k R1 (i::is) (y::xs) (f::fs):=⟨h,h'⟩
theorem jB.ij {R1 R2:Nat->Tr.E (k+1)->List Nat->Prop} {f f':List Nat} {a':Tr.E (k+1)} (h:jB pg k R1 i (ka,a) f) (q:Nat) (hr:R2 q a' f'):jB pg k R2 {i with node:=aD q} (ka,a') f':=⟨h.1,h.2.1,dn ⟨q,rfl,hr⟩⟩
theorem wA {g c:Nat} {its:List It} {t:Tr.E (k+2)} {n0:NV} (r:kQ pg (k+1) n tn) (H:n0.level=n.level) (a:n0.page=n.page) (h3:n0.lo=n.lo) (P:Tr.hd t=⟨(Tr.hd tn).page,true⟩) (h:Tr.iP (k+1) n.lo (jA m.hi) t):kQ pg (k+1) (n0.lB its g c m.hi) t:=by
 refine⟨H.trans r.level, ?_, ?_, ?_,fun hf=> ?_⟩;·show n0.page=_;rw[a,P];exact r.page
 ·rw[P];rfl
 ·show Tr.iP (k+1) n0.lo (jA m.hi) t;rw[h3];exact h
 ·grind
theorem yp {I:Tr.Tx} {K:Option Tr.Tx} (md:Zs E X0 R0 R ps pg rt M X sb sv l k p q n m I1 i j J A r a b x f1 f2 fa fb R3 M3 X3 la lb jV pQ m3)
  (u:Below X3.heap.size X3 X4) (F:kQ pg (k+1) n tn) (G:kQ pg (k+1) m tm) (hA:Tr.its tn=A++[(ka,a)]) (P:Tr.its tm=(kb,b)::r) (Q:jB pg k (dO M pg k) i (ka,a) fa) (T:jB pg k (dO M pg k) j (kb,b) fb)
  (on:Tr.Ok (k+2) I (aD x) tn) (O:Tr.Ok (k+2) x K tm) (U:x.length<=96) (hc:¬Tr.cut (k+2) tn x tm) (hold:Tr.Old (k+2) tm) (hcut:Tr.cut (k+1) a x b) {g c:Nat}
  (v:I5 E X0 R0 R3 ps pg rt M3 X4 sb sv (upd M3 p (NV.lB {n with its:=I1++[{i with node:=aD la}]} ((I1++[{i with node:=aD la}])++m3.its) g c m3.hi)) (l++[m3.page]) X'):
  rJ E X0 R0 R ps pg rt M X sb sv (k+1) p n m ((p::(f1++[fa]).flatten)++(q::(fb::f2).flatten)) (Tr.join (k+1) tn tm x).1 (l++gP (Tr.join (k+1) tn tm x).2) X':=by
 have V:=Tr.qV (k+1) (Tr.Ok.mix (sV F on) on) (Tr.Ok.mix O (sV G O)) U hc;have W:=Tr.AF (x:=x) on.1 O.1;have w:=Tr.mm (x:=x) hA P;rw[if_pos hcut] at w;have Z:(Tr.hd tm).page.isSome=true:=hold.1;have z:(Tr.join (k+1) tn tm x).2=(Tr.hd tm).page.toList:=by rw[w]
 have B:Tr.its (Tr.join (k+1) tn tm x).1=A++(ka,a)::(x,b)::r:=by rw[w];rfl
 obtain⟨R5,TR,S,t⟩:=mF.1 v;obtain⟨yO,C,_⟩:=md.like;rw[yO] at S t;have tZ:p∉f1.flatten++(jV++(pQ++f2.flatten)):=(cL.1 md.nd).1;obtain⟨N,L⟩:∃N,N=NV.lB {n with its:=I1++[{i with node:=aD la}]} ((I1++[{i with node:=aD la}])++m3.its) g c m.hi:=⟨_,rfl⟩;rw[<-L] at S t;obtain⟨d,D⟩:∃d,d=upd M3 p N:=⟨_,rfl⟩;rw[<-D] at S t;have hat:d p=aD N:=by rw[D];exact bG _ _ _
 have Y:∀s,s≠p->d s=M3 s:=fun s hs=>by rw[D];exact aW hs
 have H:∀s,s∈f1.flatten++(jV++(pQ++f2.flatten))->d s=M3 s:=fun s hs=>Y s fun e=>tZ (by rw[<-e];exact hs);have fQ:N.its=I1++{i with node:=aD la}::⟨x,j.val,aD lb⟩::J:=by rw[L];show (I1++[{i with node:=aD la}])++m3.its=_;rw[md.its,aF];rfl
 have e2:(l++[m3.page]:List Int)=l++gP (Tr.join (k+1) tn tm x).2:=by rw[C,G.page,z,jm Z]
 rw[e2] at S;have f:(f1++(jV::(pQ::f2))).flatten=f1.flatten++(jV++(pQ++f2.flatten)):=by simp
 refine⟨_,_,p::(f1++(jV::(pQ::f2))).flatten,mF.2 ⟨R5,TR,S,(md.zk.trans (mQ.still u)).trans t⟩,⟨N,f1++(jV::(pQ::f2)),hat,by rw[L];exact wA F rfl rfl rfl W V.ok.near, ?_,rfl⟩,hat,by rw[L];rfl,by rw[L];rfl,by rw[f];exact md.nd,fun s hs=> ?_,fun s y hs hy=> ?_⟩
 ·rw[B,fQ];refine (md.kl.frame fun s hs=>H s (aj.2 (dc hs))).append (bp.cons (Q.ij la (md.ra.frame fun s hs=>H s ?_)) (bp.cons (y:=(x,b)) ⟨rfl,T.2.1,dn ⟨lb,rfl,md.rb.frame fun s hs=>H s ?_⟩⟩ (md.kr.frame fun s hs=>H s ?_)));·grind
  ·grind
  ·grind
 ·rw[f] at hs;rcases aX.1 hs with hs|hs;·exact dc (aj.2 (dc (by rw[hs];exact aE)))
  ·rcases aj.1 hs with hs|hs;·exact dc (aj.2 (dc (aI _ (by simp only[dL,aj];exact dc hs))))
   ·rcases aj.1 hs with hs|hs;·exact (md.na s hs).imp_left fun h=>aj.2 (dc (aI _ (by simp only[dL,aj];right;simpa using h)))
    ·rcases aj.1 hs with hs|hs;·exact (md.nb s hs).imp_left fun h=>aj.2 (dn (aI _ (by rw[dA];exact aj.2 (dc h))))
     ·grind
 ·have o:s≠p:=fun e=>hs (by rw[e];exact aj.2 (dc aE));have ZF:s≠q:=fun e=>hs (by rw[e];exact aj.2 (dn aE));rw[Y s o];exact md.same s y o ZF hy
theorem yq (C:∀s y,M s=aD y->s<X.heap.size) {xR:Tr.Tx} {Br:Option Tr.Tx} {TR:Value} {R5:Nat->Prop} {F:List Nat} {D:List Int} (md:Zs E X0 R0 R ps pg rt M X sb sv l k p q n m I1 i j J A r a b x f1 f2 fa fb R3 M3 X3 la lb jV pQ m3)
  (o:Below X3.heap.size X3 X4) (r_:kQ pg (k+1) n tn) (fF:kQ pg (k+1) m tm) (hA:Tr.its tn=A++[(ka,a)]) (hB:Tr.its tm=(kb,b)::r) (k2:jB pg k (dO M pg k) i (ka,a) fa)
  (on:Tr.Ok (k+2) xR (aD x) tn) (O:Tr.Ok (k+2) x Br tm) (hx:x.length<=96) (hc:¬Tr.cut (k+2) tn x tm) (hold:Tr.Old (k+2) tm) (hcut:¬Tr.cut (k+1) a x b)
  (t5:mQ R3 M3 X4 sb sv R5 M5 TR X5) (Pj:D=l++gP (Tr.join k a b x).2) (VO:dO M5 pg k la (Tr.join k a b x).1 F) (VP:F.Nodup) (H:∀s∈F,s∈jV++pQ\/X4.heap.size<=s) (d:∀s y,s∉jV++pQ->M3 s=aD y->M5 s=aD y) {g c:Nat}
  (G:I5 E X0 R0 R5 ps pg rt M5 X5 sb TR (upd M5 p (NV.lB {n with its:=I1++[{i with node:=aD la}]} ((I1++[{i with node:=aD la}])++J) g c m3.hi)) (D++[m3.page]) X'):
  rJ E X0 R0 R ps pg rt M X sb sv (k+1) p n m ((p::(f1++[fa]).flatten)++(q::(fb::f2).flatten)) (Tr.join (k+1) tn tm x).1 (l++gP (Tr.join (k+1) tn tm x).2) X':=by
 have J0:=Tr.qV (k+1) (Tr.Ok.mix (sV r_ on) on) (Tr.Ok.mix O (sV fF O)) hx hc;have Ph:=Tr.AF (x:=x) on.1 O.1;have I:=Tr.mm (x:=x) hA hB;rw[if_neg hcut] at I;have py:(Tr.hd tm).page.isSome=true:=hold.1;have K:(Tr.join (k+1) tn tm x).2=(Tr.join k a b x).2++(Tr.hd tm).page.toList:=by rw[I]
 have P:Tr.its (Tr.join (k+1) tn tm x).1=A++(ka,(Tr.join k a b x).1)::r:=by rw[I];rfl
 obtain⟨R6,Q,S,T⟩:=mF.1 G;obtain⟨yO,U,_⟩:=md.like;rw[yO] at S T;obtain⟨tZ,V⟩:=cL.1 md.nd;have hdom:∀s,s∈f1.flatten++(jV++(pQ++f2.flatten))->∃y,M3 s=aD y:=by
  intro s hs;rcases aj.1 hs with hs|hs;·exact md.kl.dom s hs
  ·rcases aj.1 hs with hs|hs;·exact md.ra.dom s hs
   ·rcases aj.1 hs with hs|hs;·exact md.rb.dom s hs
    ·exact md.kr.dom s hs
 have u:∀s y,M3 s=aD y->s<X4.heap.size:=fun s y hy=>dD (md.ss.ts.mem.lt hy).1 o.size;have XM:X.heap.size<=X3.heap.size:=md.zk.but.size;have hpX:p<X4.heap.size:=u p _ md.Zt;have VQ:p∉F:=fun e=>by
  rcases H p e with e|e;·grind
  ·omega
 obtain⟨n1,jJ,d1⟩:=aR.1 V;obtain⟨_,AG,d2⟩:=aR.1 jJ;obtain⟨_,n2,d3⟩:=aR.1 AG;have VR:∀s∈f1.flatten,s∉jV++pQ:=fun s hs e=>by
  rcases aj.1 e with e|e;·grind
  ·grind
 have VS:∀s∈f2.flatten,s∉jV++pQ:=fun s hs e=>by
  rcases aj.1 e with e|e;·grind
  ·exact d3 s e s hs rfl
 have v:∀s,s∉jV++pQ->(∃y,M3 s=aD y)->M5 s=M3 s:=fun s hs ⟨y,hy⟩=>by rw[hy];exact d s y hs hy
 obtain⟨N,L⟩:∃N,N=NV.lB {n with its:=I1++[{i with node:=aD la}]} ((I1++[{i with node:=aD la}])++J) g c m.hi:=⟨_,rfl⟩;rw[<-L] at S T;obtain⟨B,W⟩:∃B,B=upd M5 p N:=⟨_,rfl⟩;rw[<-W] at S T;have hat:B p=aD N:=by rw[W];exact bG _ _ _
 have Y:∀s,s≠p->B s=M5 s:=fun s hs=>by rw[W];exact aW hs
 have fQ:N.its=I1++{i with node:=aD la}::J:=by rw[L];show (I1++[{i with node:=aD la}])++J=_;rw[aF];rfl
 have VT:∀s∈f1.flatten,s≠p:=fun s hs e=>tZ (by rw[<-e];exact aj.2 (dc hs));have VU:∀s∈f2.flatten,s≠p:=fun s hs e=>tZ (by rw[<-e];exact aj.2 (dn (aj.2 (dn (aj.2 (dn hs))))));have e2:(D++[m3.page]:List Int)=l++gP (Tr.join (k+1) tn tm x).2:=by rw[Pj,U,fF.page,K,jm py,aF];unfold gP;rw[bQ]
 rw[e2] at S;have w:(f1++(F::f2)).flatten=f1.flatten++(F++f2.flatten):=by simp
 have Z:∀s∈f1.flatten,∀t∈F,s≠t:=by
  intro s hs t f e;subst e;rcases H s f with e|e;·exact VR s hs e
  ·obtain⟨y,hy⟩:=md.kl.dom s hs;have:=u s y hy;omega
 have dj2:∀s∈F,∀t∈f2.flatten,s≠t:=by
  intro s hs t f e;subst e;rcases H s hs with e|e;·exact VS s f e
  ·obtain⟨y,hy⟩:=md.kr.dom s f;have:=u s y hy;omega
 refine⟨_,_,p::(f1++(F::f2)).flatten,mF.2 ⟨R6,Q,S,((md.zk.trans (mQ.still o)).trans t5).trans T⟩,⟨N,f1++(F::f2),hat,by rw[L];exact wA r_ rfl rfl rfl Ph J0.ok.near, ?_,rfl⟩,hat,by rw[L];rfl,by rw[L];rfl, ?_,fun s hs=> ?_,fun s y hs hy=> ?_⟩;·rw[P,fQ];exact (md.kl.frame fun s hs=>(Y s (VT s hs)).trans (v s (VR s hs) (md.kl.dom s hs))).append (bp.cons (k2.ij la (VO.frame fun s hs=>Y s fun e=>VQ (by rw[<-e];exact hs))) (md.kr.frame fun s hs=>(Y s (VU s hs)).trans (v s (VS s hs) (md.kr.dom s hs))))
 ·rw[w];refine cL.2 ⟨fun e=> ?_,aR.2 ⟨n1,aR.2 ⟨VP,n2,dj2⟩,fun s hs t f=> ?_⟩⟩
  ·rcases aj.1 e with e|e;·exact VT p e rfl
   ·rcases aj.1 e with e|e;·exact VQ e
    ·exact VU p e rfl
  ·rcases aj.1 f with f|f;·exact Z s hs t f
   ·exact d1 s hs t (aj.2 (dn (aj.2 (dn f))))
 ·rw[w] at hs;have hin:∀s,s∈jV++pQ->s∈(p::(f1++[fa]).flatten)++(q::(fb::f2).flatten)\/X.heap.size<=s:=by
   intro s hs;rcases aj.1 hs with hs|hs;·exact (md.na s hs).imp_left fun h=>aj.2 (dc (aI _ (by simp only[dL,aj];right;simpa using h)))
   ·exact (md.nb s hs).imp_left fun h=>aj.2 (dn (aI _ (by rw[dA];exact aj.2 (dc h))))
  rcases aX.1 hs with hs|hs;·exact dc (aj.2 (dc (by rw[hs];exact aE)))
  ·rcases aj.1 hs with hs|hs;·exact dc (aj.2 (dc (aI _ (by simp only[dL,aj];exact dc hs))))
   ·rcases aj.1 hs with hs|hs
    ·rcases H s hs with e|e;·exact hin s e
     ·right;have:=o.size;omega
    ·exact dc (aj.2 (dn (aI _ (by rw[dA];exact aj.2 (dn hs)))))
 ·have z:s≠p:=fun e=>hs (by rw[e];exact aj.2 (dc aE));have ZF:s≠q:=fun e=>hs (by rw[e];exact aj.2 (dn aE));rw[Y s z];refine d s y (fun e=> ?_) (md.same s y z ZF hy);have hyX:s<X.heap.size:=C s y hy;rcases aj.1 e with e|e
  ·rcases md.na s e with e|e;·exact hs (aj.2 (dc (aI _ (by simp only[dL,aj];right;simpa using e))))
   ·omega
  ·rcases md.nb s e with e|e;·exact hs (aj.2 (dn (aI _ (by rw[dA];exact aj.2 (dc e)))))
   ·omega
end
end
end Go.Proofs.YtlpfhjbpknbndaaGreatDoor
