/- Elder texts, cut down and merged (5). -/
import Derived.Test.YtgfdijemhanfkaaGreatDoorP4
import Derived.Test.YtgfdijemhanfkaaGreatDoorPTk
set_option maxRecDepth 100000
set_option maxHeartbeats 8000000
namespace Go.Proofs.YtgfdijemhanfkaaGreatDoor
open Or renaming inl→cS,inr→dc
open Option renaming some→av,none→aK
open List renaming pairwise_singleton->pZ,pairwise_cons->cC,mem_cons->aM,length_map->aL,getElem_map->gS,getElem_mem->bp,pairwise_iff_getElem->gh,pairwise_append->lD,mem_append->ah,mem_cons_self->au,mem_cons_of_mem->aH,length_append->aq,length_cons->a_,length_eq_zero_iff->ff,map_cons->bI,sum_cons->mJ,length_singleton->gi,length_nil->gd,length_pos_iff->d_,mem_singleton->bB,filter_append->kg,filter_cons->c9,drop_eq_getElem_cons->cE,take_append_drop->b_,mem_filter->dU,nil_append->cM,filter_sublist->sG,cons_append->fQ,append_assoc->aD,append_nil->bh,length_drop->aS,map_append->bM,map_congr_left->mK,mem_map->bY,mem_append_left->jF,mem_append_right->fH,getLast?_concat->sJ,dropLast_concat->Dl,tail_cons->p4,drop_eq_nil_of_le->gj,take_of_length_le->bD,length_take->aJ
open Nat renaming zero_le->aA,mul_succ->mI,succ_ne_zero->dS,mul_one->eR,le_refl->af,zero_add->bG,sub_self->dm,min_eq_left->bT
open Bool renaming false_eq_true->sF,and_eq_true->fk
open UInt8 renaming toNat_ofNat'->bR,ofNat->az
namespace Tr
theorem Mx:∀(k:Nat) (n m:E (k+1)) (x:Tx),(hd (join k n m x).1).page=(hd n).page
 |0,_,_,_=>rfl
 |k+1,n,m,x=>by
  unfold join
  split
  ·split<;>rfl
  ·rfl
theorem oC {k:Nat} {x:Tx} {acc:List (Tx×E (k+1))} {sp:Δ} {i e:Tx×E (k+1)} (H:e∈(bP k x acc sp i).1):
  (∃a∈acc,a.1=e.1/\(hd a.2).page=(hd e.2).page)\/((hd i.2).page=(hd e.2).page/\(e.1=i.1\/(acc=[]/\e.1=x))):=by
 by_cases h:acc=[];·simp_all[jZ]
 ·obtain⟨A,a,rfl⟩:=dX h;rw[dY] at H
  split at H
  ·grind
  ·grind [Mx]
theorem y4 (k:Nat) (x:Tx) (acc:List (Tx×E (k+1))) (sp:Δ) (i:Tx×E (k+1)):(bP k x acc sp i).1≠[]:=by
 by_cases h:acc=[];·subst h;rw[jZ];simp
 ·obtain⟨A,a,rfl⟩:=dX h;rw[dY]
  split<;>simp
theorem IB {k:Nat} {acc:List (Tx×E (k+1))} {sp:Δ} {c e:Tx×E (k+1)} (h:e∈(bK k (acc,sp) c).1):
  (∃a∈acc,a.1=e.1/\(hd a.2).page=(hd e.2).page)\/(c.1=e.1/\(hd c.2).page=(hd e.2).page)\/(510<sz k (its c.2)/\e.1=(part k c.2).key):=by
 unfold bK dM at h
 split at h
 ·grind
 ·split at h
  ·grind [oC]
  ·rename_i hs;rcases oC h with⟨a,ha,d,H⟩|⟨_,H|⟨H,_⟩⟩
   ·rcases oC ha with⟨b,f,h3,h4⟩|⟨h3,h4|⟨_,h4⟩⟩;·grind
    ·exact dc (cS ⟨h4.symm.trans d,h3.trans H⟩)
    ·exact dc (cS ⟨h4.symm.trans d,h3.trans H⟩)
   ·grind
   ·simp_all[y4]
theorem BU {k:Nat} {e:Tx×E (k+1)}:∀(W:List (Tx×E (k+1))) (acc:List (Tx×E (k+1))) (sp:Δ),e∈(W.foldl (bK k) (acc,sp)).1->
  (∃a∈acc,a.1=e.1/\(hd a.2).page=(hd e.2).page)\/(∃w∈W,w.1=e.1/\(hd w.2).page=(hd e.2).page)\/(∃A c B,W=A++c::B/\510<sz k (its c.2)/\e.1=(part k c.2).key)
 |[],_,_,he=>cS ⟨e,he,rfl,rfl⟩
 |c::W,acc,sp,he=>by
  rcases BU W (bK k (acc,sp) c).1 (bK k (acc,sp) c).2 he with⟨a,ha,H,f⟩|⟨w,g,h⟩|⟨A,d,B,H,f⟩
  ·rcases IB ha with⟨b,i,h3,h4⟩|⟨h3,h4⟩|⟨h3,h4⟩;·grind
   ·grind
   ·exact dc (dc ⟨[],c,W,rfl,h3,H.symm.trans h4⟩)
  ·grind
  ·grind
theorem jG.ni {k:Nat} {h:Option Tx}:∀{W:List (Tx×E (k+1))},jG k h W->W.Pairwise fun a b=>lt a.1 b.1=true
 |[],_=>.nil
 |[_],_=>pZ _ _
 |a::b::r,hn=>by
  have i:=jG.ni (W:=b::r) hn.2.2;refine cC.2 ⟨fun y hy=> ?_,i⟩;rcases aM.1 hy with rfl|hy;·exact hn.2.1.1
  ·exact lt_trans hn.2.1.1 ((cC.1 i).1 y hy)
theorem BV {k:Nat} {h:Option Tx} {B:List (Tx×E (k+1))}:∀{A:List (Tx×E (k+1))},jG k h (A++B)->jG k h B
 |[],hn=>hn
 |_::A,hn=>BV (A:=A) hn.at.2.2.2.1
theorem My {k:Nat} {h:Option Tx} {W:List (Tx×E (k+1))} (sp:Δ) (hn:jG k h W) (r:(W.foldl (bK k) ([],sp)).1.map (·.1)=W.map (·.1)):
  (W.foldl (bK k) ([],sp)).1.map (fun p=>(p.1,(hd p.2).page))=W.map fun p=>(p.1,(hd p.2).page):=by
 have hr:=hn.ni;have hl:(W.foldl (bK k) ([],sp)).1.length=W.length:=by have:=congrArg List.length r;rwa [aL,aL] at this
 refine List.ext_getElem (by rw[aL,aL,hl]) fun j g f=> ?_;rw[aL] at g f;rw[gS,gS];obtain⟨e,l⟩:=ξx ((W.foldl (bK k) ([],sp)).1[j]);have H:e.1=(W[j]).1:=by
  have s:((W.foldl (bK k) ([],sp)).1.map (·.1))[j]'(by rw[aL];exact g)=(W.map (·.1))[j]'(by rw[aL];exact f):=by simp only[r]
  rw[gS,gS] at s;rw[l];exact s
 rw[<-l];rcases BU W [] sp (show e∈_ by rw[l];exact bp g) with⟨_,h3,_⟩|⟨w,hw,h3,h4⟩|⟨A,c,B,h3,h4,h5⟩;·cases h3
 ·obtain⟨i,hi,rfl⟩:=List.mem_iff_getElem.1 hw;have m:i=j:=by
   rcases Nat.lt_trichotomy i j with d|rfl|d;·have:=gh.1 hr i j hi f d;rw[h3,H] at this;rw[lt_irrefl] at this;cases this
   ·rfl
   ·have:=gh.1 hr j i f hi d;rw[h3,H] at this;rw[lt_irrefl] at this;cases this
  subst m;rw[H,h4]
 ·exfalso;have hc:jG k h (c::B):=BV (A:=A) (by rw[<-h3];exact hn);have n:=hc.at;have hp:=qP k n.1 h4;have t:lt c.1 (part k c.2).key=true:=hp.low.lt;have o:xe (part k c.2).key (x7 h B):=hp.up.lt;have q:W[j]∈A++c::B:=by rw[<-h3];exact bp f
  rw[H] at h5;rw[h3] at hr;have N:=lD.1 hr;rcases ah.1 q with a|a;·grind [lt_trans,au,lt_irrefl]
  ·rcases aM.1 a with a|a;·simp_all[lt_irrefl]
   ·have P:=N.2.1;cases B with
    |nil=>cases a
    |cons b B=>
     have u:lt (part k c.2).key b.1=true:=o;rcases aM.1 a with a|a;·simp_all[lt_irrefl]
     ·have:=lt_trans u ((cC.1 (cC.1 P).2).1 _ a);rw[<-h5,lt_irrefl] at this;cases this
theorem vX {k:Nat} {h:Option Tx} {kc:Tx} {c0 c:E (k+1)} {N:List (Tx×E (k+1))} (hs:sz k (its c0)<=sz k (its c)):∀{P:List (Tx×E (k+1))},dz (Ok (k+1)) (cut (k+1)) h (P++(kc,c0)::N)->Ok (k+1) kc (x7 h N) c->dz (Ok (k+1)) (cut (k+1)) h (P++(kc,c)::N)
 |[],s,o=>by
  cases N with
  |nil=>exact o
  |cons b N=>exact⟨o,⟨s.2.1.1,s.2.1.2.1,pV s.2.1.2.2 hs⟩,s.2.2⟩
 |[a],s,o=>by
  have i:=vX (P:=[]) hs s.2.2 o;exact⟨s.1,⟨s.2.1.1,s.2.1.2.1,mZ s.2.1.2.2 hs⟩,i⟩
 |a::b::P,s,o=>⟨s.1,s.2.1,vX (P:=b::P) hs s.2.2 o⟩
theorem PK {k:Nat} {lo:Tx} {h:Option Tx} {P N:List (Tx×E (k+1))} {kc:Tx} {c0 c:E (k+1)} (o:Rw (k+1) lo h (P++(kc,c0)::N)) (n:jz k (if P=[] then lo else kc) (x7 h N) c) (H:sz k (its c)<=510) (b:its c≠[]) (hs:sz k (its c0)<=sz k (its c)):
  Rw (k+1) lo h (P++(kc,c)::N):=by
 obtain⟨h3,h4⟩:=o;rw[dN] at h4;rw[ng] at h3;refine⟨?_, ?_⟩
 ·rw[ng];intro p hp;cases P with
  |nil=>cases hp;exact h3 (kc,c0) rfl
  |cons a P=>cases hp;exact h3 _ rfl
 ·rw[dN,nh];rw[nh] at h4;refine vX hs h4 ?_;have e:(if P.isEmpty=true then lo else kc)=if P=[] then lo else kc:=by cases P<;>rfl
  rw[e];exact n.ok b H
end Tr
namespace Tr
theorem E9 {k:Nat} {h:Option Tx} {a a':Tx} {x:E (k+1)}:∀{r:List (Tx×E (k+1))},jG k h ((a,x)::r)->le a' a->jG k h ((a',x)::r)
 |[],hn,hl=>⟨hn.1.lo hl,yP hl hn.2.1,hn.2.2⟩
 |_::_,hn,hl=>⟨hn.1.lo hl,⟨lt_of_le_of_lt hl hn.2.1.1,hn.2.1.2⟩,hn.2.2⟩
theorem E_ {k:Nat} {lo:Tx} {h:Option Tx} {P A B N:List (Tx×E (k+1))} {kc:Tx} {c0 c:E (k+1)} (o:Rw (k+1) lo h (P++((A++(kc,c0)::B)++N))) (n:jz k (if P=[]/\A=[] then lo else kc) (x7 h (B++N)) c)
  (f:∀p∈A,Old (k+1) p.2) (O:Old (k+1) c) (b:∀p∈B,Old (k+1) p.2):∃h',jG k h' (A++(kc,c)::B):=by
 obtain⟨h3,h4⟩:=o;rw[dN] at h4;rw[ng] at h3;refine⟨x7 h N, ?_⟩;rw[yY] at n;cases P with
 |cons a P=>
  have H:=(dz.yX (dz.behind (A:=(lo,a.2)::P) h4)).1;exact qS H (by rw[if_neg ν] at n;exact n) f O b
 |nil=>
  have H:dz (Ok (k+1)) (cut (k+1)) (x7 h N) (bH lo (A++(kc,c0)::B)):=by grind [f_,dz.yX]
  cases A with
  |nil=>
   have d:=qS (P:=[]) (c:=c) H (by rw[if_pos ⟨rfl,rfl⟩] at n;exact n) (fun _ h=>χ) O b;have e:kc=[]:=h3 (kc,c0) rfl;rw[e];exact E9 d (nil_le _)
  |cons a A=>
   have d:=qS (P:=(lo,a.2)::A) (c:=c) H (by rw[if_neg ν] at n;exact n) (fun p hp=>by
    rcases aM.1 hp with rfl|hp;·grind
    ·exact f p (aH _ hp)) O b
   have e:a.1=[]:=h3 a rfl;obtain⟨ka,x⟩:=a;cases e;exact E9 d (nil_le _)
theorem y5:∀(k:Nat) (n m:E (k+1)) (x:Tx),(join k n m x).2.length<=k+1
 |0,n,m,x=>by rw[vR];cases (hd m).page<;>simp
 |k+1,n,m,x=>by
  unfold join
  split
  ·rename_i a b r _ _;have i:=y5 k a.2 b.2 x;have e:(hd m).page.toList.length<=1:=by cases (hd m).page<;>simp
   split
   ·grind
   ·grind
  ·exact aA _
theorem xj (k:Nat) (x:Tx) (acc:List (Tx×E (k+1))) (sp:Δ) (i:Tx×E (k+1)):(bP k x acc sp i).1.length<=acc.length+1/\(bP k x acc sp i).2.length<=sp.length+(k+1):=by
 by_cases h:acc=[];·simp_all[jZ,Nat.le_add_right]
 ·obtain⟨A,a,rfl⟩:=dX h;rw[dY]
  split
  ·grind
  ·simp_all[aq,y5]
theorem Mz (k:Nat) (st:List (Tx×E (k+1))×Δ) (c:Tx×E (k+1)):(bK k st c).1.length<=st.1.length+2/\(bK k st c).2.length<=st.2.length+(2*k+3):=by
 unfold bK dM
 split
 ·grind
 ·grind [xj,part,bP]
theorem qT (k:Nat):∀(W:List (Tx×E (k+1))) (st:List (Tx×E (k+1))×Δ),(W.foldl (bK k) st).1.length<=st.1.length+2*W.length/\(W.foldl (bK k) st).2.length<=st.2.length+(2*k+3)*W.length
 |[],st=>⟨ν,ν⟩
 |c::W,st=>by
  have h:=Mz k st c;have H:=qT k W (bK k st c);rw[List.foldl_cons,a_];refine⟨κ, ?_⟩;rw[mI];omega
end Tr
namespace Tr
def lU {α:Type} (R:α->α->Prop):List (Tx×α)->List (Tx×α)->Prop
 |[],[]=>True
 |x::xs,y::ys=>(x.1=y.1/\R x.2 y.2)/\lU R xs ys
 |_,_=>False
def Sm:(k:Nat)->E k->E k->Prop
 |0,a,b=>a=b
 |k+1,a,b=>lU (Sm k) (its a) (its b)
section
variable {α:Type} {R:α->α->Prop}
theorem lU.refl (h:∀a,R a a):∀l:List (Tx×α),lU R l l
 |[]=>trivial
 |_::l=>⟨⟨rfl,h _⟩,lU.refl h l⟩
theorem lU.len:∀{a b:List (Tx×α)},lU R a b->a.length=b.length
 |[],[],_=>rfl
 |_::_,_::_,h=>by rw[a_,a_,lU.len h.2]
 |[],_::_,h=>h.elim
 |_::_,[],h=>h.elim
theorem lU.append:∀{a b a' B:List (Tx×α)},lU R a b->lU R a' B->lU R (a++a') (b++B)
 |[],[],_,_,_,h=>h
 |_::_,_::_,_,_,h,h'=>⟨h.1,lU.append h.2 h'⟩
 |[],_::_,_,_,h,_=>h.elim
 |_::_,[],_,_,h,_=>h.elim
end
theorem Sm.refl:∀(k:Nat) (a:E k),Sm k a a
 |0,_=>rfl
 |k+1,_=>lU.refl (Sm.refl k) _
theorem Sm.Ml:∀{k:Nat} {a b:E k},Sm k a b->Ml k a=Ml k b
 |0,_,_,h=>by cases h;rfl
 |_+1,_,_,_=>rfl
theorem lU.sz {k:Nat}:∀{a b:List (Tx×E k)},lU (Sm k) a b->sz k a=sz k b
 |[],[],_=>rfl
 |x::a,y::b,h=>by
  have e:jY k x=jY k y:=by unfold jY;rw[h.1.1,h.1.2.Ml]
  rw[Tr.sz,Tr.sz,lU.sz h.2,e]
 |[],_::_,h=>h.elim
 |_::_,[],h=>h.elim
theorem Sm.sz {k:Nat} {a b:E (k+1)} (h:Sm (k+1) a b):Tr.sz k (its a)=Tr.sz k (its b):=lU.sz h
theorem Sm.cH:∀{k:Nat} {a b:List (Tx×E k)},lU (Sm k) a b->cH k a=cH k b
 |0,[],[],_=>rfl
 |0,x::a,y::b,h=>by
  have i:=Sm.cH (k:=0) h.2;have e:x=y:=Prod.ext h.1.1 h.1.2;show x::a=y::b;rw[e];exact congrArg _ i
 |_+1,[],[],_=>rfl
 |k+1,x::a,y::b,h=>by
  have i:=Sm.cH (k:=k+1) h.2;have e:Tr.cH k (its x.2)=Tr.cH k (its y.2):=Sm.cH h.1.2;show Tr.cH (k+1) ([x]++a)=Tr.cH (k+1) ([y]++b);rw[bW,bW,eE,eE,i,e]
 |_,[],_::_,h=>h.elim
 |_,_::_,[],h=>h.elim
theorem Sm.cut:∀{k:Nat} {a a' b B:E k} {x:Tx},Sm k a a'->Sm k b B->cut k a x b->cut k a' x B
 |0,_,_,_,_,_,_,_,_=>trivial
 |k+1,a,a',b,B,x,h1,h2,h=>by
  have h':510<Tr.sz k (its a)+Tr.sz k (its b)+(if k=0 then 0 else x.length):=h;show 510<Tr.sz k (its a')+Tr.sz k (its B)+(if k=0 then 0 else x.length);rw[<-h1.sz,<-h2.sz];exact h'
theorem lU.seg {k:Nat} {h:Option Tx} (H:∀{lo:Tx} {u:Option Tx} {a b:E k},Sm k a b->Ok k lo u a->Ok k lo u b):∀{a b:List (Tx×E k)},lU (Sm k) a b->dz (Ok k) (Tr.cut k) h a->dz (Ok k) (Tr.cut k) h b
 |[],[],_,_=>trivial
 |[x],[y],hs,s=>by
  have s1:Ok k x.1 h x.2:=s;show Ok k y.1 h y.2;rw[<-hs.1.1];exact H hs.1.2 s1
 |x::x2::a,y::y2::b,hs,s=>by
  obtain⟨s1,s2,S⟩:=s;refine⟨?_, ?_,lU.seg H hs.2 S⟩;·rw[<-hs.1.1,<-hs.2.1.1];exact H hs.1.2 s1
  ·rw[<-hs.1.1,<-hs.2.1.1];exact⟨s2.1,s2.2.1,Sm.cut hs.1.2 hs.2.1.2 s2.2.2⟩
 |[],_::_,h,_=>h.elim
 |_::_,[],h,_=>h.elim
 |[_],_::_::_,h,_=>h.2.elim
 |_::_::_,[_],h,_=>h.2.elim
theorem lU.bH {α:Type} {R:α->α->Prop} (x:Tx):∀{a b:List (Tx×α)},lU R a b->lU R (bH x a) (bH x b)
 |[],[],_=>trivial
 |_::_,_::_,h=>⟨⟨rfl,h.1.2⟩,h.2⟩
 |[],_::_,h=>h.elim
 |_::_,[],h=>h.elim
theorem lU.vF {k:Nat} {lo:Tx} {a b:List (Tx×E k)} (h:lU (Sm k) a b):lU (Sm k) (vF k lo a) (vF k lo b):=by
 unfold Tr.vF
 split
 ·exact h
 ·exact h.bH lo
theorem lU.head {k:Nat} {lo:Tx} {a b:List (Tx×E k)} (h:lU (Sm k) a b) (hh:Head k lo a):Head k lo b:=by
 intro p hp
 match a,b,h with
 |[],[],_=>cases hp
 |x::a,y::b,h=>cases hp;have:=hh x rfl;rw[h.1.1] at this;exact this
 |[],_::_,h=>exact h.elim
 |_::_,[],h=>exact h.elim
theorem Sm.ok:∀{k:Nat} {lo:Tx} {u:Option Tx} {a b:E k},Sm k a b->Ok k lo u a->Ok k lo u b
 |0,_,_,_,_,h,o=>by cases h;exact o
 |k+1,lo,u,a,b,h,o=>by obtain⟨O,c,d,f⟩:=o;refine⟨fun e=>O (ff.1 (by rw[lU.len h,e];rfl)),by rw[<-h.sz];exact c,lU.head h d,lU.seg (fun hs H=>Sm.ok hs H) (lU.vF h) f⟩
theorem Sm.cons {k:Nat} {h h':Hd} {l l':List (Tx×E k)} (hs:lU (Sm k) l l'):Sm (k+1) (mk h l) (mk h' l'):=hs
def cnt:(k:Nat)->E k->Nat
 |0,_=>0
 |k+1,n=>1+((its n).map fun p=>cnt k p.2).sum
theorem y6:∀(k:Nat) (n:E k),cnt k n=(cF k n).length+fV k n
 |0,_=>rfl
 |k+1,n=>by
  have h:∀l:List (Tx×E k),(l.map fun p=>cnt k p.2).sum=(ed k l).length+lS k l:=by
   intro l;induction l with
   |nil=>rfl
   |cons x l i=>rw[bI,mJ,i,y6 k x.2,gR,fD,aq];omega
  show 1+_=_;rw[h,bE,b7,aq];cases (hd n).page with
  |none=>simp;omega
  |some x=>simp;omega
end Tr
namespace Tr
theorem De {α:Type} (f:α->Nat) (A:Nat) (hA:2<=A) (P:α->α->Prop) (h:∀a b,P a b->A<=f a+f b):∀(l:List α),(∀a∈l,1<=f a)->l.Pairwise (fun _ _=>True)->(∀(L R:List α) a b,l=L++a::b::R->P a b)->A*l.length<=2*(l.map f).sum+(A-2)
 |[],_,_,_=>ν
 |[a],h1,_,_=>by
  have:=h1 a au;simp only[gi,bI,List.map_nil,mJ,List.sum_nil];omega
 |a::b::r,h1,_,h2=>by
  have i:=De f A hA P h r (fun c hc=>h1 c (aH _ (aH _ hc))) (gh.2 fun _ _ _ _ _=>trivial) (fun L R c d e=>h2 (a::b::L) R c d zaF);have H:=h a b (h2 [] r a b rfl);simp only[a_,bI,mJ];have e:A*(r.length+1+1)=A*r.length+2*A:=by rw[mI,mI];omega
  omega
theorem BW {α:Type} {O:Tx->Option Tx->α->Prop} {C:α->Tx->α->Prop} {h:Option Tx} {l L R:List (Tx×α)} {a b:Tx×α} (s:dz O C h l) (e:l=L++a::b::R):O a.1 (av b.1) a.2/\(∃u,O b.1 u b.2)/\C a.2 b.1 b.2/\b.1.length<=96:=by
 subst e;have s2:=dz.behind s;refine⟨s2.1, ?_,s2.2.1.2.2,s2.2.1.2.1⟩;cases R with
 |nil=>exact⟨_,s2.2.2⟩
 |cons c R=>exact⟨_,s2.2.2.1⟩
theorem Df {k:Nat}:∀{l:List (Tx×E (k+1))},(∀p∈l,p.1.length<=96)->sz (k+1) l<=100*l.length
 |[],_=>aA _
 |p::l,h=>by
  have i:=Df (l:=l) fun q H=>h q (aH _ H);have:=h p au;rw[sz,eS,a_];omega
theorem KP {k:Nat} {lo:Tx} {h:Option Tx} {n:E (k+2)} (o:Ok (k+2) lo h n):sz (k+1) (its n)+96<=100*(its n).length:=by
 obtain⟨H,_,h3,h4⟩:=o;rw[dN] at h4;cases hi:its n with
 |nil=>exact absurd hi H
 |cons a l=>
  rw[hi] at h4 h3;have ha:a.1=[]:=by have:=h3 a rfl;rw[if_neg (dS k)] at this;exact this
  have hl:∀p∈l,p.1.length<=96:=dz.lens (a:=(lo,a.2)) h4;have:=Df hl;rw[sz,eS,ha,a_,gd];omega
theorem IC {k:Nat} {lo x:Tx} {h h':Option Tx} {a b:E (k+2)} (o:Ok (k+2) lo h a) (ob:Ok (k+2) x h' b) (H:x.length<=96) (hc:cut (k+2) a x b):7<=(its a).length+(its b).length:=by have c:=KP o;have d:=KP ob;rw[x6] at hc;omega
theorem KQ {l:List (Tx×E 0)} (h:∀p∈l,jY 0 p<=154):sz 0 l<=154*l.length:=by
 induction l with
 |nil=>exact aA _
 |cons p l i=>
  have:=i fun q H=>h q (aH _ H);have:=h p au;rw[sz,a_];omega
theorem MA {lo x:Tx} {h h':Option Tx} {a b:E 1} (o:Ok 1 lo h a) (ob:Ok 1 x h' b) (hc:cut 1 a x b):4<=(its a).length+(its b).length:=by have H:=KQ (Rw.size o.2.2);have c:=KQ (Rw.size ob.2.2);rw[xZ] at hc;omega
theorem PL {k:Nat} {lo:Tx} {h:Option Tx} {n:E (k+1)} (o:Ok (k+1) lo h n):1<=(its n).length:=d_.2 o.1
theorem MC {k:Nat} {h:Option Tx} {l:List (Tx×E (k+2))} (s:dz (Ok (k+2)) (cut (k+2)) h l):7*l.length<=2*(l.map fun p=>(its p.2).length).sum+5:=
 De (fun p:Tx×E (k+2)=>(its p.2).length) 7 ξ (fun a b=>7<=(its a.2).length+(its b.2).length) (fun _ _ h=>h) l (fun a ha=>by obtain⟨u,hu⟩:=dz.each s a ha;exact PL hu) (gh.2 fun _ _ _ _ _=>trivial) fun L R a b e=>by obtain⟨H,⟨u,c⟩,h3,h4⟩:=BW s e;exact IC H c h4 h3
theorem PM {h:Option Tx} {l:List (Tx×E 1)} (s:dz (Ok 1) (cut 1) h l):4*l.length<=2*(l.map fun p=>(its p.2).length).sum+2:=
 De (fun p:Tx×E 1=>(its p.2).length) 4 ξ (fun a b=>4<=(its a.2).length+(its b.2).length) (fun _ _ h=>h) l (fun a ha=>by obtain⟨u,hu⟩:=dz.each s a ha;exact PL hu) (gh.2 fun _ _ _ _ _=>trivial) fun L R a b e=>by obtain⟨H,⟨u,c⟩,h3,_⟩:=BW s e;exact MA H c h3
theorem Dg {k:Nat}:∀(l:List (Tx×E (k+1))),(cH (k+1) l).length=(l.map fun p=>(cH k (its p.2)).length).sum
 |[]=>rfl
 |p::l=>by rw[show p::l=[p]++l from rfl,bW,eE,aq,Dg l];simp
theorem qU {k:Nat} (x:Tx) (f:E (k+1)->Nat) (l:List (Tx×E (k+1))):((bH x l).map fun p=>f p.2).sum=(l.map fun p=>f p.2).sum/\(bH x l).length=l.length:=by cases l<;>exact⟨rfl,rfl⟩
theorem y7 (n:E 1):cnt 1 n=1:=by
 have:∀l:List (Tx×E 0),(l.map fun p=>cnt 0 p.2).sum=0:=by
  intro l;induction l with
  |nil=>rfl
  |cons a l i=>rw[bI,mJ,i];rfl
 show 1+_=1;rw[this]
theorem KR {α:Type} (f g h e:α->Nat) (B c d:Nat):∀{l:List α},(∀a∈l,f a+B*e a<=c*g a+h a+d)->(l.map f).sum+B*(l.map e).sum<=c*(l.map g).sum+(l.map h).sum+d*l.length
 |[],_=>ν
 |a::l,hh=>by
  have i:=KR f g h e B c d (l:=l) fun b H=>hh b (aH _ H);have:=hh a au;simp only[bI,mJ,a_,Nat.mul_add,eR];omega
theorem IE (k:Nat):k<=2^k:=Nat.le_of_lt Nat.lt_two_pow_self
theorem oD:∀(k:Nat) {lo:Tx} {h:Option Tx} {n:E (k+2)},its n≠[]->Rw (k+1) lo h (its n)->
  cnt (k+2) n+3*2^k*(its n).length<=2*(cH (k+1) (its n)).length+k+3*2^k/\2^k*(its n).length+1<=cnt (k+2) n+2^k
 |0,lo,h,n,hne,⟨_,s⟩=>by
  rw[dN] at s;have d:=PM s;have H:((bH lo (its n)).map fun p=>(its p.2).length).sum=((its n).map fun p=>(its p.2).length).sum:=(qU lo (fun x:E 1=>(its x).length) (its n)).1;have b:(bH lo (its n)).length=(its n).length:=(qU lo (fun x:E 1=>(its x).length) (its n)).2;rw[H,b] at d;have hc:cnt 2 n=1+(its n).length:=by
   show 1+_=_;have:∀l:List (Tx×E 1),(l.map fun p=>cnt 1 p.2).sum=l.length:=by
    intro l;induction l with
    |nil=>rfl
    |cons a l i=>rw[bI,mJ,i,y7,a_];omega
   rw[this]
  have hp:=Dg (its n);have f:((its n).map fun p=>(cH 0 (its p.2)).length).sum=((its n).map fun p=>(its p.2).length).sum:=rfl;have hpos:1<=(its n).length:=d_.2 hne;rw[hc,hp,f];simp only[Nat.pow_zero,eR];omega
 |k+1,lo,h,n,hne,⟨_,s⟩=>by
  rw[dN] at s;have d:=MC s;have H:((bH lo (its n)).map fun p=>(its p.2).length).sum=((its n).map fun p=>(its p.2).length).sum:=(qU lo (fun x:E (k+2)=>(its x).length) (its n)).1;have b:(bH lo (its n)).length=(its n).length:=(qU lo (fun x:E (k+2)=>(its x).length) (its n)).2;rw[H,b] at d;have hpos:1<=(its n).length:=d_.2 hne;have c:∀p∈its n,its p.2≠[]/\∃lo h,Rw (k+1) lo h (its p.2):=by
   intro p hp;have g:∃q∈bH lo (its n),q.2=p.2:=by
    cases hi:its n with
    |nil=>rw[hi] at hp;cases hp
    |cons a l=>
     rw[hi] at hp;rcases aM.1 hp with rfl|hp;·simp_all
     ·exact⟨p,aH _ hp,rfl⟩
   obtain⟨q,g,e⟩:=g;obtain⟨u,hu⟩:=dz.each s q g;rw[e] at hu;exact⟨hu.1,_,_,hu.2.2⟩
  have i:∀p∈its n,cnt (k+2) p.2+3*2^k*(its p.2).length<=2*(cH (k+1) (its p.2)).length+k+3*2^k/\2^k*(its p.2).length+1<=cnt (k+2) p.2+2^k:=fun p hp=>by obtain⟨G,o,h',r⟩:=c p hp;exact oD k G r
  have hc:cnt (k+3) n=1+((its n).map fun p=>cnt (k+2) p.2).sum:=rfl;have hp:=Dg (its n);have U:=KR (fun p:Tx×E (k+2)=>cnt (k+2) p.2) (fun p=>(cH (k+1) (its p.2)).length) (fun _=>0) (fun p=>(its p.2).length) (3*2^k) 2 (k+3*2^k) (l:=its n) fun p hp=>by have:=(i p hp).1;omega
  have z:((its n).map fun _=>0).sum=0:=by
   induction its n with
   |nil=>rfl
   |cons a l i=>rw[bI,mJ,i]
  have L:2^k*((its n).map fun p=>(its p.2).length).sum+(its n).length<=((its n).map fun p=>cnt (k+2) p.2).sum+2^k*(its n).length:=by
   have:∀l:List (Tx×E (k+2)),(∀p∈l,2^k*(its p.2).length+1<=cnt (k+2) p.2+2^k)->2^k*(l.map fun p=>(its p.2).length).sum+l.length<=(l.map fun p=>cnt (k+2) p.2).sum+2^k*l.length:=by
    intro l;induction l with
    |nil=>intro _;simp
    |cons a l i=>intro hl;have t:=i fun p hp=>hl p (aH _ hp);have v:=hl a au;simp only[bI,mJ,a_,Nat.mul_add,eR];omega
   exact this _ fun p hp=>(i p hp).2
  rw[z] at U;rw[hp];obtain⟨D,m⟩:∃D,(its n).length=D+1:=⟨(its n).length-1,κ⟩;obtain⟨S,hS⟩:∃S,((its n).map fun p=>(its p.2).length).sum=D+1+S:=⟨((its n).map fun p=>(its p.2).length).sum-(D+1),κ⟩;rw[m,hS] at U L d;rw[hc,m];have w:5*D<=2*S:=κ
  have j:2^(k+1)=2*2^k:=by rw[Nat.pow_succ];omega
  have y:=IE k;rw[j];generalize 2^k=B at*;generalize ((its n).map fun p=>cnt (k+2) p.2).sum=C at*;generalize ((its n).map fun p=>(cH (k+1) (its p.2)).length).sum=N at*;have t:5*(B*D)<=2*(B*S):=by simp_all[Nat.mul_le_mul_left,Nat.mul_left_comm]
  have v:k*D<=B*D:=Nat.mul_le_mul_right D y;have f1:3*B*(D+1+S)=3*(B*D)+3*B+3*(B*S):=by rw[Nat.mul_add,Nat.mul_add,Nat.mul_assoc,Nat.mul_assoc 3 B S];omega
  have f2:(k+3*B)*(D+1)=k*D+k+3*(B*D)+3*B:=by rw[mI,Nat.add_mul,Nat.mul_assoc];omega
  have f3:3*(2*B)*(D+1)=6*(B*D)+6*B:=by rw[mI,show 3*(2*B)=6*B by omega,Nat.mul_assoc]
  have f4:B*(D+1+S)=B*D+B+B*S:=by rw[Nat.mul_add,Nat.mul_add];omega
  have F:B*(D+1)=B*D+B:=mI B D;have A:2*B*(D+1)=2*(B*D)+2*B:=by rw[mI,Nat.mul_assoc]
  rw[f1,f2] at U;rw[f4,F] at L;rw[f3,A];constructor<;>omega
end Tr
namespace Tr
structure Ord (lo:Tx) (h:Option Tx) (l:List (Tx×Tx)):Prop where
 ni:l.Pairwise fun a b=>lt a.1 b.1=true
 low:∀p∈l,le lo p.1
 high:∀p∈l,xe p.1 h
 keys:∀p∈l,p.1.length<=96
 vals:∀p∈l,p.2.length<=56
theorem Ord.glue {lo x:Tx} {h:Option Tx} {a b:List (Tx×Tx)} (H:Ord lo (av x) a) (c:Ord x h b) (d:le lo x) (hh:xe x h):Ord lo h (a++b):=by
 refine⟨lD.2 ⟨H.ni,c.ni,fun p hp q e=> ?_⟩,fun p hp=> ?_,fun p hp=> ?_,fun p hp=> ?_,fun p hp=> ?_⟩;·exact lt_of_lt_of_le (H.high p hp) (c.low q e)
 ·rcases ah.1 hp with hp|hp;·exact H.low p hp
  ·exact le_trans d (c.low p hp)
 ·rcases ah.1 hp with hp|hp;·exact yP (le_of_lt (H.high p hp)) hh
  ·exact c.high p hp
 ·rcases ah.1 hp with hp|hp;·exact H.keys p hp
  ·exact c.keys p hp
 ·rcases ah.1 hp with hp|hp;·exact H.vals p hp
  ·exact c.vals p hp
theorem Fa {h:Option Tx}:∀{l:List (Tx×E 0)} {lo:Tx},dz (Ok 0) (cut 0) h l->(∀p,l.head?=av p->le lo p.1/\p.1.length<=96)->Ord lo h (cH 0 l)
 |[],_,_,_=>⟨.nil,fun _ h=>χ,fun _ h=>χ,fun _ h=>χ,fun _ h=>χ⟩
 |[a],lo,s,h1=>by
  have s:Ok 0 a.1 h a.2:=s;have H:∀p∈cH 0 [a],p=a:=fun p hp=>bB.1 hp;exact⟨pZ _ _,fun p hp=>by rw[H p hp];exact (h1 a rfl).1,fun p hp=>by rw[H p hp];exact s.2,fun p hp=>by rw[H p hp];exact (h1 a rfl).2,fun p hp=>by rw[H p hp];exact s.1⟩
 |a::b::r,lo,s,h1=>by
  have i:=Fa (l:=b::r) (lo:=b.1) s.2.2 fun p hp=>by cases hp;exact⟨le_refl _,s.2.1.2.1⟩
  have c:xe b.1 h:=i.high b au;have ha:Ord lo (av b.1) [(a.1,(a.2:Tx))]:=by have H:∀p∈[(a.1,(a.2:Tx))],p=a:=fun p hp=>bB.1 hp;exact⟨pZ _ _,fun p hp=>by rw[H p hp];exact (h1 a rfl).1,fun p hp=>by rw[H p hp];exact s.2.1.1,fun p hp=>by rw[H p hp];exact (h1 a rfl).2,fun p hp=>by rw[H p hp];exact s.1.1⟩
  exact ha.glue i (le_trans (h1 a rfl).1 (le_of_lt s.2.1.1)) c
theorem x9 {k:Nat} {h:Option Tx} (I:∀{lo:Tx} {u:Option Tx} {n:E (k+1)},Ok (k+1) lo u n->Ord lo u (cH k (its n))):∀{l:List (Tx×E (k+1))} {lo:Tx},dz (Ok (k+1)) (cut (k+1)) h l->(∀p,l.head?=av p->le lo p.1)->Ord lo h (cH (k+1) l)
 |[],_,_,_=>by rw[me];exact⟨.nil,fun _ h=>χ,fun _ h=>χ,fun _ h=>χ,fun _ h=>χ⟩
 |[a],lo,s,h1=>by rw[eE];have o:=I (show Ok (k+1) a.1 h a.2 from s);exact⟨o.ni,fun p hp=>le_trans (h1 a rfl) (o.low p hp),o.high,o.keys,o.vals⟩
 |a::b::r,lo,s,h1=>by
  have i:=x9 I (l:=b::r) (lo:=b.1) s.2.2 fun p hp=>by cases hp;exact le_refl _
  have o:=I s.1;have O:Ord lo (av b.1) (cH k (its a.2)):=⟨o.ni,fun p hp=>le_trans (h1 a rfl) (o.low p hp),o.high,o.keys,o.vals⟩;have d:xe b.1 h:=by
   have s2:=s.2.2;cases r with
   |nil=>exact Ok.lt (k:=k+1) s2
   |cons c r=>
    have:=dz.behind (A:=[b]) s2;have h3:∀{l:List (Tx×E (k+1))} {x:Tx×E (k+1)},dz (Ok (k+1)) (cut (k+1)) h (x::l)->xe x.1 h:=by
     intro l;induction l with
     |nil=>intro x H;exact Ok.lt (k:=k+1) H
     |cons y l I=>intro x H;exact yP (le_of_lt H.2.1.1) (I H.2.2)
    exact h3 s2
  rw[show a::b::r=[a]++(b::r) from rfl,bW,eE];exact O.glue i (le_trans (h1 a rfl) (le_of_lt s.2.1.1)) d
theorem vY:∀{k:Nat} {lo:Tx} {h:Option Tx} {n:E (k+1)},Ok (k+1) lo h n->Ord lo h (cH k (its n))
 |0,lo,h,n,o=>by
  obtain⟨_,_,h3,h4⟩:=o;have e:vF 0 lo (its n)=its n:=by unfold vF;rw[if_pos rfl]
  rw[e] at h4;refine Fa h4 fun p hp=> ?_;have:=h3 p hp;rw[if_pos rfl] at this;exact this
 |k+1,lo,h,n,o=>by
  obtain⟨H,_,_,h4⟩:=o;rw[dN] at h4;have:=x9 (fun o=>vY o) (lo:=lo) h4 fun p hp=>by
   cases hi:its n with
   |nil=>exact absurd hi H
   |cons a l=>rw[hi] at hp;cases hp;exact le_refl _
  rw[kQ] at this;exact this
theorem vZ {k:Nat} {lo:Tx} {h:Option Tx} {A B:List (Tx×E (k+1))} {kc key:Tx} {c:E (k+1)} (o:Rw (k+1) lo h (A++(kc,c)::B)) (H:le kc key) (d:∀b B',B=b::B'->lt key b.1=true):(∀p∈cH (k+1) A,lt p.1 key=true)/\∀p∈cH (k+1) B,lt key p.1=true:=by
 obtain⟨_,h4⟩:=o;rw[dN,nh] at h4;obtain⟨s1,s2,_⟩:=dz.yX h4;constructor
 ·intro p hp;cases A with
  |nil=>rw[me] at hp;cases hp
  |cons a A=>
   have O:=x9 (fun o=>vY o) (lo:=lo) s1 fun p hp=>by cases hp;exact le_refl _
   rw[kQ] at O;exact lt_of_lt_of_le (O.high p hp) H
 ·intro p hp;cases B with
  |nil=>rw[me] at hp;cases hp
  |cons b B=>
   have e:=x9 (fun o=>vY o) (lo:=b.1) (dz.tail s2) fun p hp=>by cases hp;exact le_refl _
   exact lt_of_lt_of_le (d b B rfl) (e.low p hp)
end Tr
namespace Tr
abbrev eO:=List (Tx×Tx)
def put (l:eO) (key v:Tx):eO:=l.filter (fun p=>lt p.1 key)++(key,v)::l.filter (fun p=>lt key p.1)
def del (l:eO) (key:Tx):eO:=l.filter (fun p=>p.1 !=key)
def got (l:eO) (key:Tx):Option Tx:=(l.find? fun p=>p.1==key).map (·.2)
abbrev cB (l:eO):Prop:=l.Pairwise fun a b=>lt a.1 b.1=true
theorem filter_all {l:eO} {f:Tx×Tx->Bool} (h:∀p∈l,f p=true):l.filter f=l:=List.filter_eq_self.2 h
theorem kR {l:eO} {f:Tx×Tx->Bool} (h:∀p∈l,f p=false):l.filter f=[]:=List.filter_eq_nil_iff.2 fun p hp=>by rw[h p hp];decide
section
variable {pre lf post:eO} {key v:Tx}
theorem Dh (h:∀p∈pre,lt p.1 key=true) (H:∀p∈post,lt key p.1=true):put (pre++lf++post) key v=pre++put lf key v++post:=by unfold put;rw[kg,kg,kg,kg,filter_all h,kR (l:=post) (f:=fun p=>lt p.1 key) fun p hp=>lt_asymm (H p hp),kR (l:=pre) (f:=fun p=>lt key p.1) fun p hp=>lt_asymm (h p hp),filter_all H];simp
theorem KU (h:∀p∈pre,lt p.1 key=true) (H:∀p∈post,lt key p.1=true):del (pre++lf++post) key=pre++del lf key++post:=by grind [del,filter_all,ne_of_lt]
theorem Fb {l:eO} (h:∀p∈l,p.1≠key):got l key=none:=by grind [got]
theorem y8 {a b:eO} (h:∀p∈a,p.1≠key):got (a++b) key=got b key:=by grind [got]
theorem MD {a b:eO} (h:∀p∈b,p.1≠key):got (a++b) key=got a key:=by grind [got]
theorem Di (h:∀p∈pre,lt p.1 key=true) (H:∀p∈post,lt key p.1=true):got (pre++lf++post) key=got lf key:=by grind [MD,ne_of_lt,y8]
theorem IF (h:cB lf):lf.takeWhile (fun p=>lt p.1 key)=lf.filter (fun p=>lt p.1 key)/\lf.dropWhile (fun p=>lt p.1 key)=lf.filter (fun p=> !lt p.1 key):=by
 induction lf with
 |nil=>exact⟨rfl,rfl⟩
 |cons a l i=>
  obtain⟨ha,hl⟩:=cC.1 h;cases e:lt a.1 key with
  |true=>
   have:=i hl;rw[List.takeWhile_cons,List.dropWhile_cons,c9,c9];simp only[e,if_true,Bool.not_true,sF,if_false];exact⟨by rw[this.1],this.2⟩
  |false=>
   have H:∀p∈l,lt p.1 key=false:=fun p hp=>by
    cases E:lt p.1 key with
    |false=>rfl
    |true=>have:=lt_trans (ha p hp) E;rw[e] at this;cases this
   rw[List.takeWhile_cons,List.dropWhile_cons,c9,c9];simp only[e,if_false,Bool.not_false,if_true,sF];refine⟨(kR H).symm, ?_⟩;rw[filter_all (l:=l) fun p hp=>by rw[H p hp];rfl]
theorem kS (h:cB lf) {p:Nat} (hp:p=(lf.takeWhile fun x=>lt x.1 key).length):lf.take p=lf.filter (fun x=>lt x.1 key)/\lf.drop p=lf.filter (fun x=> !lt x.1 key):=by
 obtain⟨H,a⟩:=IF (key:=key) h;have e:lf=lf.takeWhile (fun x=>lt x.1 key)++lf.dropWhile (fun x=>lt x.1 key):=(List.takeWhile_append_dropWhile).symm;have hg:∀A B:eO,lf=A++B->lf.take A.length=A/\lf.drop A.length=B:=zaB
 obtain⟨g,G⟩:=hg _ _ e;rw[<-hp] at g G;exact⟨g.trans H,G.trans a⟩
theorem PN (h:cB lf) {p:Nat} (hp:p=(lf.takeWhile fun x=>lt x.1 key).length) (hn:∀x∈lf,x.1≠key):lf.take p++(key,v)::lf.drop p=put lf key v:=by
 obtain⟨H,a⟩:=kS h hp;unfold put;rw[H,a];congr 2;refine List.filter_congr fun x b=> ?_;cases e:lt key x.1 with
 |true=>rw[lt_asymm e];rfl
 |false=>
  cases E:lt x.1 key with
  |true=>rfl
  |false=>exact absurd (mY _ _ E e) (hn x b)
theorem y9 (h:cB lf) {p:Nat} (hp:p=(lf.takeWhile fun x=>lt x.1 key).length) (hl:p<lf.length) (c:(lf[p]).1=key):lf.drop (p+1)=lf.filter (fun x=>lt key x.1)/\lf.drop p=lf[p]::lf.drop (p+1):=by
 obtain⟨d,g⟩:=kS h hp;have hd:lf.drop p=lf[p]::lf.drop (p+1):=cE hl;refine⟨?_,hd⟩;have hr:(lf.drop p).Pairwise fun a b=>lt a.1 b.1=true:=h.sublist (List.drop_sublist _ _);rw[hd] at hr;have h3:=(cC.1 hr).1;have e:lf=lf.take p++lf[p]::lf.drop (p+1):=by rw[<-hd,b_]
 conv=>rhs;rw[e]
 rw[kg,c9,d,kR (l:=lf.filter _) (f:=fun x=>lt key x.1) fun x H=>lt_asymm (by simpa using (dU.1 H).2),c,lt_irrefl];simp only[sF,if_false,cM];exact (filter_all fun x H=>by rw[<-c];exact h3 x H).symm
theorem PO (h:cB lf) {p:Nat} (hp:p=(lf.takeWhile fun x=>lt x.1 key).length) (hl:p<lf.length) (H:(lf[p]).1=key):lf.set p (key,v)=put lf key v:=by obtain⟨a,b⟩:=y9 h hp hl H;unfold put;rw[<-a,<-(kS h hp).1,List.set_eq_take_append_cons_drop,if_pos hl]
theorem PR (h:cB lf) {p:Nat} (hp:p=(lf.takeWhile fun x=>lt x.1 key).length) (hl:p<lf.length) (a:(lf[p]).1=key):lf.take p++lf.drop (p+1)=del lf key:=by
 obtain⟨b,c⟩:=y9 h hp hl a;have h3:=(kS h hp).1;unfold del;have e:lf=lf.take p++lf[p]::lf.drop (p+1):=by rw[<-c,b_]
 conv=>rhs;rw[e]
 rw[kg,c9,a];simp only[bne_self_eq_false,sF,if_false];rw[filter_all (l:=lf.take p) fun x H=>bne_iff_ne.2 (ne_of_lt (by rw[h3] at H;simpa using (dU.1 H).2)),filter_all (l:=lf.drop (p+1)) fun x H=>bne_iff_ne.2 (ne_of_lt (by rw[b] at H;simpa using (dU.1 H).2)).symm]
theorem Fc (h:cB lf) {p:Nat} (hp:p=(lf.takeWhile fun x=>lt x.1 key).length) (hl:p<lf.length) (H:(lf[p]).1=key):got lf key=av (lf[p]).2:=by
 obtain⟨_,b⟩:=y9 h hp hl H;have h3:=(kS h hp).1;have e:lf=lf.take p++lf[p]::lf.drop (p+1):=by rw[<-b,b_]
 have E:got lf key=got (lf.take p++lf[p]::lf.drop (p+1)) key:=by rw[<-e]
 rw[E,y8 fun x a=>ne_of_lt (by rw[h3] at a;simpa using (dU.1 a).2)];unfold got;rw[List.find?_cons,show (lf[p].1==key)=true from by rw[H];simp];rfl
theorem PS {l:eO} (h:cB l) (d:(key,v)∈l):put l key v=l:=by obtain⟨a,b,rfl⟩:=List.append_of_mem d;have H:=lD.1 h;have c:=cC.1 H.2.1;unfold put;rw[kg,kg,c9,c9];simp only[lt_irrefl,sF,if_false];rw[filter_all (l:=a) fun p hp=>H.2.2 p hp (key,v) au,kR (l:=b) (f:=fun p=>lt p.1 key) fun p hp=>lt_asymm (c.1 p hp),kR (l:=a) (f:=fun p=>lt key p.1) fun p hp=>lt_asymm (H.2.2 p hp (key,v) au),filter_all c.1];simp
theorem Ord.put {lo:Tx} {h:Option Tx} {l:eO} (o:Ord lo h l) (b:le lo key) (c:xe key h) (h3:key.length<=96) (h4:v.length<=56):Ord lo h (put l key v):=by
 have H:∀p∈Tr.put l key v,p∈l\/p=(key,v):=fun p hp=>by
  unfold Tr.put at hp;rcases ah.1 hp with hp|hp;·grind
  ·grind
 refine⟨?_,fun p hp=> ?_,fun p hp=> ?_,fun p hp=> ?_,fun p hp=> ?_⟩
 ·unfold Tr.put;refine lD.2 ⟨o.ni.sublist sG,cC.2 ⟨fun p hp=>by simpa using (dU.1 hp).2,o.ni.sublist sG⟩,fun p hp q a=> ?_⟩;have e:lt p.1 key=true:=by simpa using (dU.1 hp).2
  rcases aM.1 a with rfl|a;·exact e
  ·grind [lt_trans]
 ·rcases H p hp with hp|rfl;·exact o.low p hp
  ·exact b
 ·rcases H p hp with hp|rfl;·exact o.high p hp
  ·exact c
 ·rcases H p hp with hp|rfl;·exact o.keys p hp
  ·exact h3
 ·rcases H p hp with hp|rfl;·exact o.vals p hp
  ·exact h4
theorem Ord.del {lo:Tx} {h:Option Tx} {l:eO} (o:Ord lo h l):Ord lo h (del l key):=
 ⟨o.ni.sublist sG,fun p hp=>o.low p (dU.1 hp).1,fun p hp=>o.high p (dU.1 hp).1,fun p hp=>o.keys p (dU.1 hp).1,fun p hp=>o.vals p (dU.1 hp).1⟩
theorem KV {h:Option Tx}:∀{l:eO} {lo:Tx},Ord lo h l->dz (Ok 0) (cut 0) h (l:List (Tx×E 0))
 |[],_,_=>trivial
 |[a],_,o=>⟨o.vals a au,o.high a au⟩
 |a::b::r,lo,o=>by
  have H:=cC.1 o.ni;have O:Ord lo h (b::r):=⟨H.2,fun p hp=>o.low p (aH _ hp),fun p hp=>o.high p (aH _ hp),fun p hp=>o.keys p (aH _ hp),fun p hp=>o.vals p (aH _ hp)⟩;exact⟨⟨o.vals a au,H.1 b au⟩,⟨H.1 b au,o.keys b (aH _ au),trivial⟩,KV O⟩
theorem PT {lo:Tx} {h:Option Tx} {l:eO} (o:Ord lo h l):Rw 0 lo h (l:List (Tx×E 0)):=by
 refine⟨fun p hp=> ?_, ?_⟩;·rw[if_pos rfl];exact⟨o.low p (List.mem_of_mem_head? hp),o.keys p (List.mem_of_mem_head? hp)⟩
 ·grind [dz,Ok,cut,vF,KV]
theorem v_ (f:Tx×Tx->Bool):∀l:eO,sz 0 ((l.filter f:eO):List (Tx×E 0))<=sz 0 (l:List (Tx×E 0))
 |[]=>af _
 |a::l=>by
  have i:=v_ f l;rw[c9]
  split
  ·simp_all[jY,sz]
  ·show _<=jY 0 a+sz 0 _;omega
theorem PU (f g:Tx×Tx->Bool) (h:∀p,¬(f p=true/\g p=true)):∀l:eO,sz 0 ((l.filter f:eO):List (Tx×E 0))+sz 0 ((l.filter g:eO):List (Tx×E 0))<=sz 0 (l:List (Tx×E 0))
 |[]=>af _
 |a::l=>by
  have i:=PU f g h l;have hl:sz 0 ((a::l:eO):List (Tx×E 0))=jY 0 a+sz 0 (l:List (Tx×E 0)):=rfl;rw[c9,c9,hl];have hc:∀r:eO,sz 0 ((a::r:eO):List (Tx×E 0))=jY 0 a+sz 0 (r:List (Tx×E 0)):=fun _=>rfl;cases e:f a<;>cases b:g a;·grind
  ·simp only[sF,if_false,if_true,hc];omega
  ·simp only[sF,if_false,if_true,hc];omega
  ·grind
theorem PV (l:eO):sz 0 (put l key v:List (Tx×E 0))<=sz 0 (l:List (Tx×E 0))+(2+key.length+v.length):=by
 have H:=PU (fun p=>lt p.1 key) (fun p=>lt key p.1) (fun p h=>by have:=lt_asymm h.1;rw[h.2] at this;cases this) l;have a:sz 0 (put l key v:List (Tx×E 0))=sz 0 ((l.filter (fun p=>lt p.1 key):eO):List (Tx×E 0))+((2+key.length+v.length)+sz 0 ((l.filter (fun p=>lt key p.1):eO):List (Tx×E 0))):=by exact eL 0 (l.filter (fun p=>lt p.1 key):eO) ((key,v)::l.filter (fun p=>lt key p.1):eO)
 omega
end
end Tr
namespace Pk
open Wl (enc dec bO nU ld)
abbrev Text:=List UInt8
theorem dec_lt (l:Text):dec l<256^l.length:=Wl.l9 l
theorem IG (l:Text) (n:Nat) (h:l.length=n+1):∃m b,l=m++[b]/\m.length=n:=by
 rcases List.eq_nil_or_concat l with rfl|⟨m,b,rfl⟩;·cases h
 ·exact⟨m,b,by rw[List.concat_eq_append],zax⟩
theorem KX:∀(w:Nat) (l:Text),l.length=w->enc w (dec l)=l
 |0,l,h=>by rw[ff.1 h];rfl
 |w+1,l,h=>by obtain⟨m,b,rfl,H⟩:=IG l w h;rw[ld,enc];have a:=b.toNat_lt;rw[show (dec m*256+b.toNat)/256=dec m by omega,KX w m H];congr 2;apply UInt8.toNat.inj;rw[bR];omega
def lt:Text->Text->Bool
 |_,[]=>false
 |[],_::_=>true
 |a::x,b::y=>a<b||(a==b&&lt x y)
theorem KZ:∀(x y:Text) (a b:UInt8),x.length=y.length->lt (x++[a]) (y++[b])=(lt x y||(x==y&&decide (a<b)))
 |[],[],a,b,_=>by simp[lt]
 |[],_::_,_,_,h=>by simp at h
 |_::_,[],_,_,h=>by simp at h
 |c::x,d::y,a,b,h=>by
  have i:=KZ x y a b zax;rw[fQ,fQ,lt,lt,i];by_cases H:c=d;·subst H;simp[UInt8.lt_irrefl]
  ·have e:(c==d)=false:=zaY;have f:((c::x)==(d::y))=false:=(by simp[H]);rw[e,f];simp
theorem TR:∀(w a b:Nat),a<256^w->b<256^w->enc w a=enc w b->a=b:=by intro w a b ha H h;rw[<-nU w a ha,h,nU w b H]
theorem PW:∀(w a b:Nat),a<256^w->b<256^w->lt (enc w a) (enc w b)=decide (a<b)
 |0,a,b,ha,hb=>by simp at ha hb;subst ha hb;rfl
 |w+1,a,b,ha,hb=>by
  have H:a/256<256^w:=Nat.div_lt_of_lt_mul (by rw[Nat.mul_comm,<-Nat.pow_succ];exact ha);have c:b/256<256^w:=Nat.div_lt_of_lt_mul (by rw[Nat.mul_comm,<-Nat.pow_succ];exact hb);rw[enc,enc,KZ _ _ _ _ (by rw[bO,bO]),PW w _ _ H c];have d:(enc w (a/256)==enc w (b/256))=decide (a/256=b/256):=by rw[Bool.eq_iff_iff,beq_iff_eq,decide_eq_true_eq];exact⟨fun h=>TR w _ _ H c h,fun h=>by rw[h]⟩
  have hd:decide (az a<az b)=decide (a%256<b%256):=by rw[Bool.eq_iff_iff,decide_eq_true_eq,decide_eq_true_eq,UInt8.lt_iff_toNat_lt,bR,bR]
  rw[d,hd,Bool.eq_iff_iff,Bool.or_eq_true,fk,decide_eq_true_eq,decide_eq_true_eq,decide_eq_true_eq,decide_eq_true_eq];omega
def width (c:UInt8):Nat:=if c=110 then 8 else if c=104 then 4 else if c=98 then 1 else 0
theorem tZ (c:UInt8):width c<=8:=by unfold width;split<;>(try split)<;>(try split)<;>omega
def letter (c:UInt8) (last:Bool):Bool:=decide (width c≠0)||decide (c=116)||(decide (c=114)&&last)
def right:Text->Bool
 |[]=>true
 |c::r=>letter c r.isEmpty&&right r
structure Fd where
 n:Nat
 s:Text
deriving DecidableEq
instance:Inhabited Fd:=⟨⟨0,[]⟩⟩
def iI (c:UInt8) (f:Fd):Option Text:=
 if width c≠0 then (if f.s=[]/\f.n<256^width c then av (enc (width c) f.n) else aK)
 else if f.n≠0 then aK
 else if c=114 then av f.s
 else if f.s.length>65535 then aK else av (enc 2 f.s.length++f.s)
def Ew:Text->Text->List Fd->Option Text
 |acc,[],[]=>av acc
 |acc,c::k,f::l=>match iI c f with
  |none=>aK
  |some a=>Ew (acc++a) k l
 |_,_,_=>aK
def write (k:Text) (l:List Fd):Option Text:=if right k=true/\k.length=l.length then Ew [] k l else aK
def dw (c:UInt8) (s:Text):Option (Fd×Text):=
 if c=114 then av (⟨0,s⟩,[])
 else if c=116 then (if s.length<2 then aK else if (s.drop 2).length<dec (s.take 2) then aK else av (⟨0,(s.drop 2).take (dec (s.take 2))⟩,(s.drop 2).drop (dec (s.take 2))))
 else if s.length<width c then aK else av (⟨dec (s.take (width c)),[]⟩,s.drop (width c))
def Ex:List Fd->Text->Text->Option (List Fd)
 |acc,[],s=>if s=[] then av acc else aK
 |acc,c::k,s=>match dw c s with
  |none=>aK
  |some (f,s')=>Ex (acc++[f]) k s'
def read (k s:Text):Option (List Fd):=if right k=true then Ex [] k s else aK
theorem t_ {c:UInt8} {b:Bool} (h:letter c b=true):(width c≠0/\c≠114/\c≠116)\/(c=116/\width c=0)\/(c=114/\width c=0/\b=true):=by
 unfold letter at h;simp only[Bool.or_eq_true,decide_eq_true_eq,fk] at h;rcases h with (h|rfl)|⟨rfl,h⟩;·refine cS ⟨h, ?_, ?_⟩<;>(rintro rfl;exact h ξ)
 ·exact dc (cS ⟨rfl,ξ⟩)
 ·exact dc (dc ⟨rfl,ξ,h⟩)
theorem Bc {c:UInt8} {b:Bool} {f:Fd} {a t:Text} (hc:letter c b=true) (e:b=true->t=[]) (h:iI c f=av a):dw c (a++t)=av (f,t):=by
 obtain⟨n,s⟩:=f;rcases t_ hc with⟨H,d,g⟩|⟨rfl,H⟩|⟨rfl,H,d⟩
 ·unfold iI at h;rw[if_pos H] at h
  split at h
  ·next h3=>
   obtain⟨h3,h4⟩:=h3;simp only at h3 h4;subst h3;injection h with h;subst h;unfold dw;rw[if_neg d,if_neg g,if_neg (by rw[aq,bO];omega),List.take_left' (bO _ _),List.drop_left' (bO _ _),nU _ _ h4]
  ·cases h
 ·unfold iI at h;rw[if_neg κ] at h
  split at h
  ·cases h
  ·next h3=>
   rw[if_neg ξ] at h
   split at h
   ·cases h
   ·next h4=>
    injection h with h;subst h;have hn:n=0:=(by simpa using h3);subst hn;unfold dw;have hd:dec (enc 2 s.length)=s.length:=nU 2 _ (by simp only at h4;omega);rw[if_neg ξ,if_pos rfl,if_neg (by rw[aq,aq,bO];omega),aD,List.take_left' (bO _ _),List.drop_left' (bO _ _)];simp only[hd];rw[if_neg zaV,List.take_left,List.drop_left]
 ·unfold iI at h;rw[if_neg κ] at h
  split at h
  ·cases h
  ·next h3=>
   rw[if_pos rfl] at h;injection h with h;subst h;have hn:n=0:=(by simpa using h3);subst hn;unfold dw;rw[if_pos rfl,e d,bh]
theorem K0:∀(k:Text) (l:List Fd) (acc t:Text),right k=true->Ew acc k l=av t->∃b,t=acc++b/\∀A,Ex A k b=av (A++l)
 |[],[],acc,t,_,h=>by simp only[Ew,Option.some.injEq] at h;subst h;exact⟨[],ν,fun A=>by simp[Ex]⟩
 |[],_::_,_,_,_,h=>by simp[Ew] at h
 |_::_,[],_,_,_,h=>by simp[Ew] at h
 |c::k,f::l,acc,t,hr,h=>by
  simp only[right,fk] at hr;rw[Ew] at h
  split at h
  ·cases h
  ·next a ha=>
   obtain⟨b,rfl,d⟩:=K0 k l (acc++a) t hr.2 h;refine⟨a++b,by rw[aD],fun A=> ?_⟩;rw[Ex,Bc hr.1 (fun e=> ?_) ha];·simp only;rw[d,aD];rfl
   ·have H:k=[]:=(by simpa using e);subst H;cases l with
    |nil=>simp only[Ew,Option.some.injEq] at h;exact List.append_cancel_left (by rw[<-h,bh])
    |cons _ _=>simp[Ew] at h
theorem K2:∀(k:Text) (acc l:List Fd) (s:Text),Ex acc k s=av l->∃m,l=acc++m/\m.length=k.length
 |[],acc,l,s,h=>by
  simp only[Ex] at h
  split at h
  ·injection h with h;exact⟨[],by simp[h],rfl⟩
  ·cases h
 |c::k,acc,l,s,h=>by
  rw[Ex] at h
  split at h
  ·cases h
  ·obtain⟨m,rfl,H⟩:=K2 k _ l _ h;exact⟨_::m,by rw[aD];rfl,by simp[H]⟩
theorem K3:∀(k:Text) (acc l:List Fd) (s:Text),right k=true->Ex acc k s=av l->k.length<=s.length+1
 |[],_,_,_,_,_=>ν
 |c::k,acc,l,s,hr,h=>by
  simp only[right,fk] at hr;rw[Ex] at h
  split at h
  ·cases h
  ·next f s' hf=>
   have i:=K3 k _ l s' hr.2 h;have hl:(c=114/\k=[])\/s'.length+1<=s.length:=by
    rcases t_ hr.1 with⟨a,H,b⟩|⟨rfl,a⟩|⟨rfl,a,H⟩
    ·right;unfold dw at hf;rw[if_neg H,if_neg b] at hf
     split at hf
     ·cases hf
     ·injection hf with hf;injection hf with e1 e2;subst e2;rw[aS];omega
    ·right;unfold dw at hf;rw[if_neg ξ,if_pos rfl] at hf
     split at hf
     ·cases hf
     ·split at hf
      ·cases hf
      ·injection hf with hf;injection hf with e1 e2;subst e2;rw[aS,aS];omega
    ·exact cS ⟨rfl,zaY⟩
   rcases hl with⟨_,rfl⟩|hl;·simp
   ·simp only[a_];omega
theorem II {k:Text} {l:List Fd} {t:Text} (h:write k l=av t):read k t=av l:=by
 unfold write at h
 split at h
 ·next hr=>
  obtain⟨b,rfl,H⟩:=K0 k l [] t hr.1 h;unfold read;rw[if_pos hr.1];simpa using H []
 ·cases h
theorem PX {k s:Text} {l:List Fd} (h:read k s=av l):k.length<=s.length+1/\l.length=k.length:=by
 unfold read at h
 split at h
 ·next hr=>
  refine⟨K3 k [] l s hr h, ?_⟩;obtain⟨m,rfl,H⟩:=K2 k [] l s h;simpa using H
 ·cases h
end Pk
namespace Ch
open Tr (eO lt got put del cB)
abbrev Text:=List UInt8
structure C where
 id:Text
 page:Nat
 text:Text
 count:Int
structure One (c:C):Prop where
 id:c.id.length=33
 page:c.page<=4096
 low:1<=c.text.length
 high:c.text.length<=128
 min:-4611686018427387904<=c.count
 max:c.count<=4611686018427387904
def cnt (n:Int):Nat:=(n%18446744073709551616).toNat
theorem IJ (n:Int):cnt n<2^64:=by unfold cnt;omega
def kinds:Text:=[104,98,110]
def rL (c:C):List Pk.Fd:=[⟨c.page,[]⟩,⟨c.text.length,[]⟩,⟨cnt c.count,[]⟩]
def val (c:C):Text:=Wl.enc 4 c.page++(Wl.enc 1 c.text.length++Wl.enc 8 (cnt c.count))
theorem Dj (c:C):(val c).length=13:=by unfold val;simp only[aq,Wl.bO]
theorem Xp {c:C} (h:One c):∀f∈rL c,f.n<2^64:=by
 have H:=h.page;have a:=h.high;have h3:=IJ c.count;intro f hf;unfold rL at hf;simp only[aM,List.not_mem_nil,or_false] at hf;rcases hf with rfl|rfl|rfl;·show c.page<2^64;omega
 ·show c.text.length<2^64;omega
 ·exact h3
theorem Xq (c:C):∀f∈rL c,f.s.length<=10000:=by intro f hf;unfold rL at hf;simp only[aM,List.not_mem_nil,or_false] at hf;rcases hf with rfl|rfl|rfl<;>exact aA _
theorem uc {k:UInt8} {w n:Nat} (h:Pk.width k=w) (H:w≠0) (hn:n<256^w):Pk.iI k ⟨n,[]⟩=av (Wl.enc w n):=by unfold Pk.iI;rw[h,if_pos H,if_pos ⟨rfl,hn⟩]
theorem BX {c:C} (h:One c):Pk.write kinds (rL c)=av (val c):=by
 have H:=h.page;have a:=h.high;have h3:=IJ c.count;have hr:Pk.right kinds=true:=ξ
 unfold Pk.write;rw[if_pos ⟨hr,rfl⟩];unfold kinds rL val;simp only[Pk.Ew];rw[uc (w:=4) rfl ξ κ];simp only;rw[uc (w:=1) rfl ξ κ];simp only;rw[uc (w:=8) rfl ξ κ];simp only[cM,aD]
theorem PY {c:C} (h:One c):Pk.read kinds (val c)=av (rL c):=Pk.II (BX h)
variable {l:List C} {n:Text} {c:C}
def gT (l:List C):eO:=l.map fun c=>(c.id,val c)
def find (l:List C) (n:Text):Option C:=l.find? fun c=>c.id==n
def ins (l:List C) (c:C):List C:=l.filter (fun x=>lt x.id c.id)++c::l.filter (fun x=>lt c.id x.id)
def upd (l:List C) (n:Text) (fO:Int):List C:=l.map fun c=>if c.id=n then {c with count:=c.count+fO} else c
abbrev Up (l:List C):Prop:=l.Pairwise fun a b=>lt a.id b.id=true
theorem iO:(gT l).length=l.length:=aL _
theorem TU:got (gT l) n=(find l n).map val:=by unfold gT got find;rw[List.find?_map,Option.map_map];congr 1
theorem sH (f:Text×Text->Bool) (g:C->Bool) (h:∀c∈l,f (c.id,val c)=g c):(gT l).filter f=gT (l.filter g):=by unfold gT;rw[List.filter_map];congr 1;exact List.filter_congr fun c hc=>h c hc
theorem K4 (c:C):put (gT l) c.id (val c)=gT (ins l c):=by unfold put ins;rw[sH _ (fun x=>lt x.id c.id) (fun _ _=>rfl),sH _ (fun x=>lt c.id x.id) (fun _ _=>rfl)];unfold gT;rw[bM,bI]
theorem nj (h:find l n=av c):c∈l/\c.id=n:=by unfold find at h;exact⟨List.mem_of_find?_eq_some h,by simpa using List.find?_some h⟩
theorem BZ (h:find l n=aK):∀c∈l,c.id≠n:=fun c hc e=>by have:=List.find?_eq_none.1 h c hc;simp[e] at this
theorem PZ (h:Up l) {a b:C} (ha:a∈l) (H:b∈l) (e:a.id=b.id):a=b:=by
 induction l with
 |nil=>cases ha
 |cons x l i=>
  obtain⟨c,d⟩:=cC.1 h;rcases aM.1 ha with rfl|X
  ·rcases aM.1 H with rfl|A;·rfl
   ·have:=c b A;rw[e,Tr.lt_irrefl] at this;cases this
  ·rcases aM.1 H with rfl|A;·have:=c a X;rw[e,Tr.lt_irrefl] at this;cases this
   ·exact i d X A
theorem TV (h:Up l) (hc:c∈l):find l c.id=av c:=by
 cases e:find l c.id with
 |none=>exact absurd rfl (BZ e c hc)
 |some d=>obtain⟨H,a⟩:=nj e;rw[PZ h H hc a]
theorem Xt {a b:Text} (h:lt a b=false) (H:lt b a=false):a=b:=Tr.mY _ _ h H
theorem ud (hn:find l c.id=aK):(ins l c).Perm (c::l):=by
 unfold ins;refine List.perm_middle.trans (List.Perm.cons _ ?_);have e:l.filter (fun x=>lt c.id x.id)=l.filter (fun x=> !lt x.id c.id):=by
  refine List.filter_congr fun x a=> ?_;have h:=BZ hn x a;cases H:lt x.id c.id with
  |true=>rw[Tr.lt_asymm H];rfl
  |false=>
   cases b:lt c.id x.id with
   |true=>rfl
   |false=>exact absurd (Xt H b) h
 rw[e];exact List.filter_append_perm _ _
theorem Xu (h:Up l):Up (ins l c):=by
 unfold ins;refine lD.2 ⟨h.sublist sG,cC.2 ⟨fun x e=> ?_,h.sublist sG⟩,fun a ha b H=> ?_⟩;·simpa using (dU.1 e).2
 ·have d:lt a.id c.id=true:=by simpa using (dU.1 ha).2
  rcases aM.1 H with rfl|H;·exact d
  ·exact Tr.lt_trans d (by simpa using (dU.1 H).2)
theorem TW (h:Up l) (hc:c∈l) (b:Int):ins l {c with count:=c.count+b}=upd l c.id b:=by
 unfold ins upd;show l.filter (fun x=>lt x.id c.id)++{c with count:=c.count+b}::l.filter (fun x=>lt c.id x.id)=_;induction l with
 |nil=>cases hc
 |cons x l i=>
  obtain⟨H,f⟩:=cC.1 h;rw[bI];rcases aM.1 hc with rfl|hc
  ·rw[if_pos rfl,c9,c9,Tr.lt_irrefl,if_neg ξ,if_neg ξ];have E:l.filter (fun x=>lt x.id c.id)=[]:=List.filter_eq_nil_iff.2 fun y hy=>by rw[Tr.lt_asymm (H y hy)];decide
   have j:l.filter (fun x=>lt c.id x.id)=l:=List.filter_eq_self.2 fun y hy=>H y hy;have k:l.map (fun d=>if d.id=c.id then {d with count:=d.count+b} else d)=l:=(by rw[mK (g:=id),List.map_id];intro y hy;rw[if_neg fun e=> ?_];rfl;have:=H y hy;rw[e,Tr.lt_irrefl] at this;cases this);rw[E,j,k];rfl
  ·have h3:=H c hc;have a:x.id≠c.id:=fun e=>by rw[e,Tr.lt_irrefl] at h3;cases h3
   rw[if_neg a,c9,if_pos h3,c9,Tr.lt_asymm h3,if_neg ξ,<-i f hc];rfl
end Ch
namespace Ch
open Tr (eO lt got put del cB)
theorem IK:∀{a b x y:Text},a.length=b.length->a≠b->lt (a++x) (b++y)=lt a b
 |[],[],_,_,_,h=>absurd rfl h
 |[],_::_,_,_,h,_=>χ
 |_::_,[],_,_,h,_=>χ
 |c::a,d::b,x,y,hl,hn=>by
  show (decide (c<d)||(c==d&&lt (a++x) (b++y)))=(decide (c<d)||(c==d&&lt a b));by_cases e:c=d;·subst e;rw[IK (by simpa using hl) (fun h=>hn (by rw[h]))]
  ·rw[beq_eq_false_iff_ne.2 e,Bool.false_and,Bool.false_and]
theorem oF:∀(p:Text) {x y:Text},lt (p++x) (p++y)=lt x y
 |[],_,_=>rfl
 |c::p,x,y=>by
  show (decide (c<c)||(c==c&&lt (p++x) (p++y)))=lt x y;rw[oF p,decide_eq_false (UInt8.lt_irrefl c),beq_self_eq_true];rfl
theorem TY {a p:Text} (k:UInt8) (h:a.length=p.length):(!lt (a++[k]) p&&lt (a++[k]) (p++[255,0]))=decide (a=p):=by
 by_cases e:a=p
 ·subst e;have H:lt (a++[k]) a=false:=by have:=oF a (x:=[k]) (y:=[]);rw[bh] at this;rw[this];rfl
  have b:lt [k] [255,0]=true:=by
   by_cases e:k=255;·subst e;decide
   ·show (decide (k<255)||_)=true;have:k<255:=(by rw[UInt8.lt_iff_toNat_lt];have h3:=k.toNat_lt;have h4:k.toNat≠255:=fun h=>e (UInt8.toNat_inj.1 h);show k.toNat<255;omega);rw[decide_eq_true this];rfl
  rw[H,oF,b];exact (decide_eq_true rfl).symm
 ·have H:=IK (x:=[k]) (y:=[]) h e;rw[bh] at H;rw[H,IK h e,decide_eq_false e];cases lt a p<;>rfl
def byB (b:Int):UInt8:=if b=1 then 1 else 255
def sI (x:Nat×Int):Text:=[az (x.1/256),az x.1,byB x.2]
def txt (l:List (Nat×Int)):Text:=l.flatMap sI
structure Rc where
 num:Nat
 en:List (Nat×Int)
def cg (rs:List Rc):eO:=rs.map fun r=>(Wl.enc 8 r.num,txt r.en)
def aZ (rs:List Rc):List (Nat×Int):=rs.flatMap (·.en)
def oG (x:Nat×Int):Prop:=x.1<=4096/\(x.2=1\/x.2=-1)
structure dG (rs:List Rc) (last:Nat):Prop where
 up:rs.Pairwise fun a b=>a.num<b.num
 num:∀r∈rs,r.num<=last
 few:last<4611686018427387904
 len:∀r∈rs,1<=r.en.length/\r.en.length<=18
 en:∀r∈rs,∀x∈r.en,oG x
 top:∀r,rs.getLast?=av r->r.num=last
 full:∀r∈rs.tail.dropLast,r.en.length=18
theorem qV (l:List (Nat×Int)):(txt l).length=3*l.length:=by
 unfold txt;induction l with
 |nil=>rfl
 |cons a l i=>rw[List.flatMap_cons,aq,i,a_];show 3+_=_;omega
theorem IL {a b:Nat} (ha:a<2^64) (H:b<2^64):lt (Wl.enc 8 a) (Wl.enc 8 b)=decide (a<b):=by
 have h:=Pk.PW 8 a b κ κ;have e:∀a b:Text,Pk.lt a b=lt a b:=by
  intro a;induction a with
  |nil=>intro b;cases b<;>rfl
  |cons c a i=>
   intro b;cases b with
   |nil=>rfl
   |cons d b=>
    show (decide (c<d)||(c==d&&Pk.lt a b))=_;rw[i];rfl
 rw[<-e];exact h
theorem j4 {rs:List Rc}:(cg rs).length=rs.length:=aL _
theorem nk {A B:List Rc}:cg (A++B)=cg A++cg B:=bM
section
variable {A B:List Rc} {r:Rc} {last:Nat} {v:Text}
theorem TZ (k v0 v:Text):put [(k,v0)] k v=[(k,v)]:=by unfold put;simp[Tr.lt_irrefl]
theorem parts (h:dG (A++r::B) last):(∀p∈cg A,lt p.1 (Wl.enc 8 r.num)=true)/\(∀p∈cg B,lt (Wl.enc 8 r.num) p.1=true):=by
 have hn:∀x∈A++r::B,x.num<2^64:=fun x H=>by have:=h.num x H;have:=h.few;omega
 obtain⟨b,a,h3⟩:=lD.1 h.up;obtain⟨h4,c⟩:=cC.1 a;refine⟨fun p hp=> ?_,fun p hp=> ?_⟩;·obtain⟨x,H,rfl⟩:=bY.1 hp;show lt (Wl.enc 8 x.num) (Wl.enc 8 r.num)=true;rw[IL (hn x (jF _ H)) (hn r (fH _ au))];exact decide_eq_true (h3 x H r au)
 ·obtain⟨x,H,rfl⟩:=bY.1 hp;show lt (Wl.enc 8 r.num) (Wl.enc 8 x.num)=true;rw[IL (hn r (fH _ au)) (hn x (fH _ (aH _ H)))];exact decide_eq_true (h4 x H)
theorem P0 (h:dG (A++r::B) last) (en:List (Nat×Int)):put (cg (A++r::B)) (Wl.enc 8 r.num) (txt en)=cg (A++⟨r.num,en⟩::B):=by
 obtain⟨H,a⟩:=parts h;have e:cg (A++r::B)=cg A++[(Wl.enc 8 r.num,txt r.en)]++cg B:=by rw[nk,aD];rfl
 rw[e,Tr.Dh H a,TZ,nk,aD];rfl
theorem Xv (h:dG (A++r::B) last):del (cg (A++r::B)) (Wl.enc 8 r.num)=cg (A++B):=by
 obtain⟨H,a⟩:=parts h;have e:cg (A++r::B)=cg A++[(Wl.enc 8 r.num,txt r.en)]++cg B:=by rw[nk,aD];rfl
 rw[e,Tr.KU H a,nk];simp[del]
theorem P5 (h:dG (A++r::B) last):got (cg (A++r::B)) (Wl.enc 8 r.num)=av (txt r.en):=by
 obtain⟨H,a⟩:=parts h;have e:cg (A++r::B)=cg A++[(Wl.enc 8 r.num,txt r.en)]++cg B:=by rw[nk,aD];rfl
 rw[e,Tr.Di H a];simp[got]
theorem x_ {rs:List Rc} (h:dG rs last) (en:List (Nat×Int)):put (cg rs) (Wl.enc 8 (last+1)) (txt en)=cg (rs++[⟨last+1,en⟩]):=by
 have H:∀p∈cg rs,lt p.1 (Wl.enc 8 (last+1))=true:=fun p hp=>by obtain⟨x,a,rfl⟩:=bY.1 hp;show lt (Wl.enc 8 x.num) _=true;have:=h.num x a;have:=h.few;rw[IL κ κ];exact decide_eq_true κ
 have e:=Tr.Dh (pre:=cg rs) (lf:=[]) (post:=[]) (v:=txt en) H (fun _ hp=>by cases hp);rw[bh,bh,bh] at e;rw[e,nk];rfl
theorem T3 (k:Text):got (cg []) k=none:=rfl
end
def enter (rs:List Rc) (last:Nat) (x:Nat×Int):List Rc×Nat:=
 match rs.getLast? with
 |some r=>if r.en.length<18 then (rs.dropLast++[⟨r.num,r.en++[x]⟩],last) else (rs++[⟨last+1,[x]⟩],last+1)
 |none=>([⟨last+1,[x]⟩],last+1)
theorem nr (A B:List Rc):aZ (A++B)=aZ A++aZ B:=List.flatMap_append
theorem oH (rs:List Rc):rs=[]\/∃A r,rs=A++[r]:=by
 rcases List.eq_nil_or_concat rs with h|⟨A,r,h⟩;·exact cS h
 ·exact dc ⟨A,r,by rw[h,List.concat_eq_append]⟩
theorem MF (last:Nat) (x:Nat×Int):enter [] last x=([⟨last+1,[x]⟩],last+1):=rfl
theorem oI {A:List Rc} {r:Rc} (last:Nat) (x:Nat×Int) (h:r.en.length<18):enter (A++[r]) last x=(A++[⟨r.num,r.en++[x]⟩],last):=by unfold enter;rw[sJ];simp only;rw[if_pos h,Dl]
theorem oJ {A:List Rc} {r:Rc} (last:Nat) (x:Nat×Int) (h:¬r.en.length<18):enter (A++[r]) last x=(A++[r]++[⟨last+1,[x]⟩],last+1):=by unfold enter;rw[sJ];simp only;rw[if_neg h]
theorem y_ (rs:List Rc) (last:Nat) (x:Nat×Int):aZ (enter rs last x).1=aZ rs++[x]:=by
 rcases oH rs with rfl|⟨A,r,rfl⟩;·rfl
 ·by_cases h:r.en.length<18;·rw[oI last x h,nr,nr,aD];unfold aZ;simp
  ·rw[oJ last x h,nr (A++[r])];unfold aZ;simp
theorem dG.nil {last:Nat} (h:last<4611686018427387904):dG [] last:=⟨.nil,fun _ h=>χ,h,fun _ h=>χ,fun _ h=>χ,fun _ h=>χ,fun _ h=>χ⟩
theorem dG.enter {rs:List Rc} {last:Nat} (h:dG rs last) (hl:last+1<4611686018427387904) {x:Nat×Int} (g:oG x):dG (enter rs last x).1 (enter rs last x).2:=by
 have d:∀(y:Nat×Int),y∈[x]->oG y:=fun y hy=>by rw[bB.1 hy];exact g
 rcases oH rs with rfl|⟨A,r,rfl⟩
 ·rw[MF];refine⟨pZ _ _,fun q H=> ?_,hl,fun q H=> ?_,fun q H=> ?_,fun q H=> ?_,fun q H=>by cases H⟩;·rw[bB.1 H];exact af _
  ·rw[bB.1 H];exact⟨af _,(by decide:1<=18)⟩
  ·rw[bB.1 H];exact d
  ·have H:av (⟨last+1,[x]⟩:Rc)=av q:=H;cases H;rfl
 ·have hr:=h.top r (sJ);have f:=h.len r (fH _ au);by_cases hf:r.en.length<18
  ·rw[oI last x hf];obtain⟨u,i,U⟩:=lD.1 h.up;refine⟨lD.2 ⟨u,pZ _ _,fun a ha b e=>by rw[bB.1 e];exact U a ha r au⟩,fun q H=> ?_,h.few,fun q H=> ?_,fun q H=> ?_,fun q H=> ?_, ?_⟩
   ·rcases ah.1 H with H|H;·exact h.num q (jF _ H)
    ·rw[bB.1 H];exact Nat.le_of_eq hr
   ·rcases ah.1 H with H|H;·exact h.len q (jF _ H)
    ·rw[bB.1 H];show 1<=(r.en++[x]).length/\(r.en++[x]).length<=18;rw[aq,gi];omega
   ·rcases ah.1 H with H|H;·exact h.en q (jF _ H)
    ·rw[bB.1 H];intro y hy;rcases ah.1 hy with hy|hy;·exact h.en r (fH _ au) y hy
     ·exact d y hy
   ·rw[sJ] at H;cases H;exact hr
   ·have c:=h.full;cases A with
    |nil=>intro q H;cases H
    |cons a A=>rw[fQ,p4,Dl] at c |-;exact c
  ·rw[oJ last x hf];have n:∀q∈A++[r],q.num<=last:=h.num;refine⟨lD.2 ⟨h.up,pZ _ _,fun a ha b e=>by rw[bB.1 e];exact Nat.lt_succ_of_le (n a ha)⟩,fun q H=> ?_,hl,fun q H=> ?_,fun q H=> ?_,fun q H=> ?_, ?_⟩
   ·rcases ah.1 H with H|H;·exact Nat.le_succ_of_le (n q H)
    ·rw[bB.1 H];exact af _
   ·rcases ah.1 H with H|H;·exact h.len q H
    ·rw[bB.1 H];exact⟨af _,(by decide:1<=18)⟩
   ·rcases ah.1 H with H|H;·exact h.en q H
    ·rw[bB.1 H];exact d
   ·rw[sJ] at H;cases H;rfl
   ·have c:=h.full;cases A with
    |nil=>intro q H;cases H
    |cons a A=>
     rw[fQ,p4,Dl] at c;rw[fQ,fQ,p4,Dl];intro q H;rcases ah.1 H with H|H;·exact c q H
     ·rw[bB.1 H];omega
def leave:List Rc->Nat->List Rc
 |[],_=>[]
 |r::rs,k=>if k=0 then r::rs else if k<r.en.length then⟨r.num,r.en.drop k⟩::rs else leave rs (k-r.en.length)
theorem lE:∀(rs:List Rc) (k:Nat),aZ (leave rs k)=(aZ rs).drop k
 |[],k=>by unfold aZ leave;simp
 |r::rs,k=>by
  have e:aZ (r::rs)=r.en++aZ rs:=List.flatMap_cons;rw[leave]
  split
  ·rename_i h;rw[h,List.drop_zero]
  ·split
   ·rename_i H a;rw[e,List.drop_append_of_le_length κ];exact List.flatMap_cons
   ·rename_i H a;rw[lE rs,e,List.drop_append,gj (by omega:r.en.length<=k),cM]
theorem dG.tail {r:Rc} {rs:List Rc} {last:Nat} (h:dG (r::rs) last):dG rs last:=by
 refine⟨(cC.1 h.up).2,fun q H=>h.num q (aH _ H),h.few,fun q H=>h.len q (aH _ H),fun q H=>h.en q (aH _ H),fun q H=>h.top q ?_,fun q H=>h.full q ?_⟩
 ·cases rs with
  |nil=>cases H
  |cons a rs=>rw[List.getLast?_cons_cons];exact H
 ·rw[p4];cases rs with
  |nil=>cases H
  |cons a rs=>
   rw[p4] at H;cases rs with
   |nil=>cases H
   |cons b rs=>exact aH _ H
theorem dG.head {r:Rc} {rs:List Rc} {last:Nat} (h:dG (r::rs) last) {en:List (Nat×Int)} (b:1<=en.length/\en.length<=18) (c:∀x∈en,oG x):dG (⟨r.num,en⟩::rs) last:=by
 obtain⟨u,U⟩:=cC.1 h.up;refine⟨cC.2 ⟨u,U⟩,fun q H=> ?_,h.few,fun q H=> ?_,fun q H=> ?_,fun q H=> ?_,h.full⟩
 ·rcases aM.1 H with rfl|H;·exact h.num r au
  ·exact h.num q (aH _ H)
 ·rcases aM.1 H with rfl|H;·exact b
  ·exact h.len q (aH _ H)
 ·rcases aM.1 H with rfl|H;·exact c
  ·exact h.en q (aH _ H)
 ·cases rs with
  |nil=>
   have H:av (⟨r.num,en⟩:Rc)=av q:=H;cases H;exact h.top r rfl
  |cons a rs=>rw[List.getLast?_cons_cons] at H;exact h.top q (by rw[List.getLast?_cons_cons];exact H)
theorem dG.leave:∀{rs:List Rc} {last:Nat},dG rs last->∀k,dG (Ch.leave rs k) last
 |[],_,h,_=>h
 |r::rs,last,h,k=>by
  rw[Ch.leave]
  split
  ·exact h
  ·split
   ·rename_i a b;have:=h.len r au;exact h.head (by rw[aS];omega) fun x H=>h.en r au x (List.mem_of_mem_drop H)
   ·exact h.tail.leave _
end Ch
namespace Ch
open Wl (ew)
def tot (l:List (Nat×Int)) (p:Nat):Int:=((l.filter fun x=>decide (x.1=p)).map (·.2)).sum
def there (l:List (Nat×Int)) (p:Nat):Bool:=l.any fun x=>decide (x.1=p)
def rM (n:Int):Text:=Wl.enc 8 (cnt n)
theorem P6 (l:List (Nat×Int)) (x:Nat×Int) (p:Nat):tot (l++[x]) p=tot l p+if x.1=p then x.2 else 0:=by
 unfold tot;rw[kg,bM,List.sum_append];by_cases h:x.1=p;·simp[h]
 ·simp[h]
theorem za (l m:List (Nat×Int)) (p:Nat):tot (l++m) p=tot l p+tot m p:=by unfold tot;rw[kg,bM,List.sum_append]
theorem IM (l:List (Nat×Int)) (x:Nat×Int) (p:Nat):there (l++[x]) p=(there l p||decide (x.1=p)):=by unfold there;rw[List.any_append];simp
theorem we:∀(l:List (Nat×Int)) (p:Nat),(∀x∈l,oG x)->-(l.length:Int)<=tot l p/\tot l p<=l.length
 |[],_,_=>by simp[tot]
 |x::l,p,h=>by
  have i:=we l p fun y hy=>h y (aH _ hy);have H:=(h x au).2;have e:tot (x::l) p=(if x.1=p then x.2 else 0)+tot l p:=by
   unfold tot;rw[c9];by_cases h:x.1=p;·simp[h]
   ·simp[h]
  rw[e,a_]
  split<;>omega
theorem Fe {l:List (Nat×Int)} {p:Nat} (h:there l p=false):tot l p=0:=by
 unfold tot there at*;rw[List.filter_eq_nil_iff.2 ?_];·rfl
 ·intro x H hd;have:=List.any_eq_false.1 h x H;exact this hd
structure nv (m:ew) (l:List (Nat×Int)):Prop where
 at_:∀p,Wl.look p m=if there l p=true then av (rM (tot l p)) else aK
theorem nv.nil:nv [] []:=⟨fun _=>rfl⟩
theorem nv.snoc {m:ew} {l:List (Nat×Int)} (h:nv m l) (x:Nat×Int):nv (Wl.ins x.1 (rM (tot l x.1+x.2)) m) (l++[x]):=by
 refine⟨fun p=> ?_⟩;rw[Wl.gA,IM,P6,h.at_ p];by_cases e:p=x.1;·subst e;simp
 ·have E:¬x.1=p:=fun h=>e h.symm;simp[e,E]
theorem lq (k:Nat) (t:Text):∀m:ew,(Wl.ins k t m).length<=m.length+1
 |[]=>af _
 |x::m=>by
  have:=lq k t m;unfold Wl.ins
  split
  ·simp only[a_];omega
  ·split
   ·simp only[a_];omega
   ·simp only[a_];omega
theorem T4 (n:Int):Wl.dec (rM n)=cnt n:=by unfold rM;exact Wl.nU 8 _ (by have:=IJ n;omega)
end Ch
namespace Ch
theorem sK (rs:List Rc):leave rs 0=rs:=by
 cases rs with
 |nil=>rfl
 |cons r rs=>rw[leave,if_pos rfl]
theorem qW:∀(A B:List Rc) (k:Nat),(∀r∈A,1<=r.en.length)->leave (A++B) ((aZ A).length+k)=leave B k
 |[],B,k,_=>by
  show leave B ((aZ []).length+k)=_;rw[show (aZ []).length=0 from rfl,bG]
 |r::A,B,k,h=>by
  have hr:=h r au;have e:(aZ (r::A)).length=r.en.length+(aZ A).length:=by show (r.en++aZ A).length=_;rw[aq]
  rw[fQ,leave,e,if_neg κ,if_neg κ,show r.en.length+(aZ A).length+k-r.en.length=(aZ A).length+k by omega];exact qW A B k fun q H=>h q (aH _ H)
theorem IP {A B:List Rc} {r:Rc} {k:Nat} (h:∀q∈A,1<=q.en.length) (a:1<=k) (H:k<r.en.length):leave (A++r::B) ((aZ A).length+k)=⟨r.num,r.en.drop k⟩::B:=by rw[qW A _ k h,leave,if_neg κ,if_pos H]
theorem MG {A B:List Rc} {r:Rc} (h:∀q∈A,1<=q.en.length) (H:1<=r.en.length):leave (A++r::B) ((aZ A).length+r.en.length)=B:=by rw[qW A _ _ h,leave,if_neg κ,if_neg κ,dm,sK]
theorem wj:∀(rs:List Rc) (k:Nat),(∀r∈rs,1<=r.en.length)->(aZ rs).length<=k->leave rs k=[]
 |[],_,_,_=>rfl
 |r::rs,k,h,hk=>by
  have hr:=h r au;have e:(aZ (r::rs)).length=r.en.length+(aZ rs).length:=by show (r.en++aZ rs).length=_;rw[aq]
  rw[leave,if_neg κ,if_neg κ];exact wj rs _ (fun q H=>h q (aH _ H)) κ
theorem ue:∀(rs:List Rc) (k:Nat),(leave rs k).length<=rs.length
 |[],_=>af _
 |r::rs,k=>by
  rw[leave]
  split
  ·exact af _
  ·split
   ·exact af _
   ·exact Nat.le_succ_of_le (ue rs _)
theorem B0:∀(l:List Rc),(∀r∈l,r.en.length=18)->(aZ l).length=18*l.length
 |[],_=>rfl
 |r::l,h=>by
  have e:(aZ (r::l)).length=r.en.length+(aZ l).length:=by show (r.en++aZ l).length=_;rw[aq]
  rw[e,h r au,B0 l fun q H=>h q (aH _ H),a_];omega
theorem Xw {rs:List Rc} {last k:Nat} (h:dG rs last):rs.take (k/18+2)=rs\/k<(aZ (rs.take (k/18+2))).length:=by
 by_cases hl:rs.length<=k/18+2;·exact cS (bD hl)
 ·refine dc ?_;cases rs with
  |nil=>exact absurd (aA _) hl
  |cons r rs=>
   have hr:=h.len r au;rw[a_] at hl;have e:aZ ((r::rs).take (k/18+2))=r.en++aZ (rs.take (k/18+1)):=(by rw[List.take_succ_cons];rfl);have hf:∀q∈rs.take (k/18+1),q.en.length=18:=(by intro q H;refine h.full q ?_;rw[p4];have E:rs.take (k/18+1)=rs.dropLast.take (k/18+1):=(by rw[List.dropLast_eq_take,List.take_take,bT κ]);rw[E] at H;exact List.mem_of_mem_take H);rw[e,aq,B0 _ hf,aJ,bT κ];omega
end Ch
namespace Ch
def added (cs:List C) (l:List (Nat×Int)) (ps:Δ):List C:=cs.map fun c=>{c with count:=c.count+if c.page∈ps then tot l c.page else 0}
theorem MH (cs:List C) (l:List (Nat×Int)):added cs l []=cs:=by unfold added;rw[mK (g:=id),List.map_id];intro c _;simp
theorem B1 {cs:List C} {l:List (Nat×Int)} {ps:Δ} {d:C} (h:d∈added cs l ps):∃c∈cs,d.id=c.id/\d.page=c.page/\d.text=c.text/\d.count=c.count+if c.page∈ps then tot l c.page else 0:=by obtain⟨c,hc,rfl⟩:=bY.1 h;exact⟨c,hc,rfl,rfl,rfl,rfl⟩
theorem MI {cs:List C} {l:List (Nat×Int)} {ps:Δ} {c:C} (h:c∈cs):({c with count:=c.count+if c.page∈ps then tot l c.page else 0}:C)∈added cs l ps:=bY.2 ⟨c,h,rfl⟩
theorem P7 {cs:List C} (h:Up cs) (l:List (Nat×Int)) (ps:Δ):Up (added cs l ps):=by unfold added;exact List.Pairwise.map _ (fun a b H=>H) h
theorem Dm (cs:List C) (l:List (Nat×Int)) (ps:Δ):(added cs l ps).length=cs.length:=aL _
theorem IQ {cs:List C} (n:Up cs) (o:∀c∈cs,∀d∈cs,c.page=d.page->c=d) {l:List (Nat×Int)} {ps:Δ} {c:C} (hc:c∈cs) (hn:c.page∉ps):upd (added cs l ps) c.id (tot l c.page)=added cs l (ps++[c.page]):=by
 unfold upd added;rw[List.map_map];refine mK fun d hd=> ?_;show (if d.id=c.id then _ else _)=_;by_cases h:d.id=c.id;·have H:=PZ n hd hc h;subst H;rw[if_pos rfl];simp[hn]
 ·rw[if_neg h];have a:d.page≠c.page:=fun e=>h (by rw[o d hd c hc e]);simp[a]
def merged (cs:List C) (l:List (Nat×Int)):List C:=cs.map fun c=>{c with count:=c.count+tot l c.page}
theorem MJ {cs:List C} {l:List (Nat×Int)} {ps:Δ} (h:∀p,there l p=true->p∈ps):added cs l ps=merged cs l:=by
 unfold added merged;refine mK fun c _=> ?_;by_cases hp:c.page∈ps;·rw[if_pos hp]
 ·rw[if_neg hp];cases H:there l c.page with
  |true=>exact absurd (h _ H) hp
  |false=>rw[Fe H]
end Ch
end Go.Proofs.YtgfdijemhanfkaaGreatDoor
