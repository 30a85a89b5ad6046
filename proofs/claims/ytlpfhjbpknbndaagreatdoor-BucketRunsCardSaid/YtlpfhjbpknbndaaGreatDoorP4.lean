/- Elder texts, cut down and merged (4). -/
import Derived.Test.YtlpfhjbpknbndaaGreatDoorP3
import Derived.Test.YtlpfhjbpknbndaaGreatDoorP1
import Derived.Test.YtlpfhjbpknbndaaGreatDoorP2
import Derived.Laws.BitsAllLaws
import Derived.Lib.Bytealg
import Derived.Lib.Strings
import Derived.Lib.Walk
import Derived.Test.YtlpfhjbpknbndaaGreatDoorPTk
set_option maxRecDepth 100000
set_option maxHeartbeats 8000000
namespace Go.Proofs.YtlpfhjbpknbndaaGreatDoor
open Option renaming none→av,some→aD
open Value renaming string→bR,pointer→e7,slice→cx,int→bf,bool→eX,agg→iK,tuple→gu
open IntKind renaming i64→cu,u8→gx
open Ending renaming returned→eb
open Or renaming inl→dc,inr→dn
open Obj renaming cells→ey
open List renaming mem_cons->aX,cons_append->gJ,take_succ_eq_append_getElem->cC,mem_cons_self->aE,mem_cons_of_mem->aI,length_cons->a_,length_take->aO,getElem_mem->bI,take_of_length_le->cg,nil_append->dI,take_append_drop->cP,drop_eq_getElem_cons->cw,append_nil->bA,pairwise_iff_getElem->ga,getElem?_eq_getElem->aK,append_assoc->aF,perm_append_comm->m7,mem_singleton->cQ,filter_cons->cW,getD_eq_getElem?_getD->bZ,getElem?_map->cD,setIfInBounds_toArray->aA,set_cons_succ->az,set_cons_zero->ay
open World renaming block_lt_of_cell?->bD,size_alloc->aS,drew->bJ
open Nat renaming le_refl->ah,zero_le->aB,add_zero->d_,succ_ne_zero->dy
open Bool renaming and_eq_true->eH,eq_iff_iff->jf
open UInt8 renaming not_lt->sE,ofNat->bz,toNat_ofNat'->eF
open _root_.Array renaming length_toList->bk
section
open Go.RowKit Lib
structure It where
 key:List UInt8
 val:List UInt8
 node:Option Nat
 deriving DecidableEq
def pa (q:Option Nat):Option Addr:=q.map fun b=>⟨b,0,av⟩
def ak:Elem It:=⟨fun i=>[bR (bs i.key),bR (bs i.val),e7 (pa i.node)],3,by decide,fun _=>rfl,by
 intro a u hu
 simp only[aX,List.not_mem_nil,or_false] at hu
 rcases hu with rfl|rfl|rfl<;>rfl⟩
theorem vD:dx Tryz.prog 123 122 ak.size:=dx.of (size:=3) (bytes:=40) (z:=.agg #[.string .empty,.string .empty,.pointer av]) Tryz.underlying123 (by kernel_rfl) rfl (by decide)
theorem iB {α:Type} {K:Elem α} {E:TypeId} {B:Nat} {w:World} {g n cap:Nat} {l:List α} (h:Own K E B w (cx (aD ⟨g,0,av⟩) n cap) l):n=l.length/\n<=cap/\cap<=maxLen:=by
 rcases h.2 with⟨e,_⟩|⟨G,c,cur,e,_,_,H,a,_⟩;·cases e
 ·grind
structure NV where
 level:Nat
 its:List It
 rg:Nat
 ro:Nat
 cap:Nat
 page:Int
 lo:List UInt8
 hi:List UInt8
 was:Int
 at_:Int
 fresh:Bool
 own:Bool
def NV.cells (n:NV):List Value:=[bf cu n.level,cx (aD ⟨n.rg,n.ro,av⟩) n.its.length n.cap,bf cu n.page,bR (bs n.lo),bR (bs n.hi),bf cu n.was,bf cu n.at_,eX n.fresh]
def jw (i:It):Nat:=2+i.key.length+i.val.length
def cz:List It->Nat
 |[]=>0
 |i::l=>jw i+cz l
theorem tQ:∀a b:List It,cz (a++b)=cz a+cz b
 |[],b=>by simp[cz]
 |i::a,b=>by simp only[gJ,cz,tQ a b];omega
structure NV.Small (n:NV):Prop where
 len:n.its.length<=400
 each:∀i∈n.its,i.key.length<=200/\i.val.length<=200
 cap:n.its.length<=n.cap/\n.cap<=maxLen
structure Nd (w:World) (p:Nat) (n:NV):Prop where
 blk:aU w p 127 n.cells
 row:bu ak w n.rg n.ro n.its
 small:n.Small
section
variable {w w':World} {p:Nat} {n:NV}
theorem Nd.below {B:Nat} (h:Nd w p n) (H:Below B w w') (hp:p<B) (hr:n.its≠[]->n.rg<B):Nd w' p n:=
 ⟨h.blk.below H hp,by
  by_cases e:n.its=[];·rw[e];intro j u hu;simp[Elem.cells] at hu
  ·exact h.row.below H (hr e),h.small⟩
theorem Nd.rlt (h:Nd w p n):n.its≠[]->n.rg<w.heap.size:=by
 intro e;cases hi:n.its with
 |nil=>exact absurd hi e
 |cons i l=>
  have:=h.row 0 (bR (bs i.key)) (by rw[hi];rfl);exact bD _ _ this
theorem Nd.still (h:Nd w p n) (H:Below w.heap.size w w'):Nd w' p n:=h.below H h.blk.lt h.rlt
theorem Nd.drew (h:Nd w p n):Nd w.drew p n:=⟨h.blk,h.row,h.small⟩
theorem bh {g o:Nat} {l:List It} (h:bu ak w g o l) (j:Nat) (H:j<l.length):
  w.cell? ⟨g,o+j*3,av⟩=aD (bR (bs l[j].key))/\w.cell? ⟨g,o+j*3+1,av⟩=aD (bR (bs l[j].val))/\w.cell? ⟨g,o+j*3+2,av⟩=aD (e7 (pa l[j].node)):=
 ⟨h.at j 0 (by decide) H _ rfl,h.at j 1 (by decide) H _ rfl,h.at j 2 (by decide) H _ rfl⟩
theorem uF {g o:Nat} {l:List It} (h:bu ak w g o l) {j:Nat} (H:j<l.length):g<w.heap.size:=
 bD _ _ (bh h j H).1
theorem ez {g o:Nat} {l:List It} (h:bu ak w g o l) (a:Below w.heap.size w w'):bu ak w' g o l:=by intro j u hu;have H:=h j u hu;rw[<-H];exact a.cell (bD _ _ H)
theorem Nd.item (h:Nd w p n) (j:Nat) (H:j<n.its.length):
  w.cell? ⟨n.rg,n.ro+j*3,av⟩=aD (bR (bs n.its[j].key))/\w.cell? ⟨n.rg,n.ro+j*3+1,av⟩=aD (bR (bs n.its[j].val))/\w.cell? ⟨n.rg,n.ro+j*3+2,av⟩=aD (e7 (pa n.its[j].node)):=by
 have a:=h.row.at j 0 (by decide) H _ rfl;have b:=h.row.at j 1 (by decide) H _ rfl;have c:=h.row.at j 2 (by decide) H _ rfl;exact⟨a,b,c⟩
end
theorem yJ (w:World) (i:It) (h:i.key.length<=1000000/\i.val.length<=1000000):
  Calls Tryz.prog 173 #[iK #[bR (bs i.key),bR (bs i.val),e7 (pa i.node)]] w fun e w'=>e=eb (bf cu (jw i))/\Below w.heap.size w w':=by
 have H:(bs i.key).size=i.key.length:=aP _;have a:(bs i.val).size=i.val.length:=aP _;unfold jw;generalize bs i.key=k at*;generalize bs i.val=v at*;generalize pa i.node=q;go_enter Tryz.func173,Tryz.ntmps173;go_wp2;go_ret;refine⟨?_,(Below.refl _ w).alloc (ah _) _⟩;go_num
theorem yK (l:List It) (j:Nat) (h:j<l.length):cz (l.take (j+1))=cz (l.take j)+jw l[j]:=by rw[cC h,tQ];rfl
theorem Aa:∀(l:List It),(∀i∈l,i.key.length<=200/\i.val.length<=200)->cz l<=402*l.length
 |[],_=>aB _
 |i::l,h=>by
  have a:=h i aE;have b:=Aa l fun x H=>h x (aI _ H);simp only[cz,jw,a_];omega
theorem NV.Small.size {n:NV} (h:n.Small):cz n.its<=160800:=by have H:=Aa n.its h.each;have:=h.len;omega
theorem NV.Small.part {n:NV} (h:n.Small) (j:Nat):cz (n.its.take j)<=160800:=by
 have a:=Aa (n.its.take j) fun x H=>h.each x (List.mem_of_mem_take H);have:=h.len;have:(n.its.take j).length<=n.its.length:=by rw[aO];omega
 omega
section
variable {w w':World} {p:Nat} {n:NV}
theorem Nd.c0 (h:Nd w p n):w.cell? ⟨p,0,av⟩=aD (bf cu n.level):=h.blk.cell rfl
theorem Nd.c1 (h:Nd w p n):w.cell? ⟨p,1,av⟩=aD (cx (aD ⟨n.rg,n.ro,av⟩) n.its.length n.cap):=h.blk.cell rfl
theorem Nd.c2 (h:Nd w p n):w.cell? ⟨p,2,av⟩=aD (bf cu n.page):=h.blk.cell rfl
theorem Nd.c3 (h:Nd w p n):w.cell? ⟨p,3,av⟩=aD (bR (bs n.lo)):=h.blk.cell rfl
theorem Nd.c4 (h:Nd w p n):w.cell? ⟨p,4,av⟩=aD (bR (bs n.hi)):=h.blk.cell rfl
theorem Nd.c5 (h:Nd w p n):w.cell? ⟨p,5,av⟩=aD (bf cu n.was):=h.blk.cell rfl
theorem Nd.c6 (h:Nd w p n):w.cell? ⟨p,6,av⟩=aD (bf cu n.at_):=h.blk.cell rfl
theorem Nd.c7 (h:Nd w p n):w.cell? ⟨p,7,av⟩=aD (eX n.fresh):=h.blk.cell rfl
theorem gZ (h:Nd w p n):Calls Tryz.prog 130 #[ptr p] w fun e w'=>e=eb (bf cu (cz n.its))/\Below w.heap.size w w':=by
 have c1:=h.c1;have hl:=h.small.len;have J:(n.its.length:Int)<=400:=by omega
 obtain⟨N,c⟩:∃N,N=cz n.its:=⟨_,rfl⟩;rw[<-c];have t:=aa c;have d:=aa h;clear h c;obtain⟨L,f⟩:∃L,L=n.its.length:=⟨_,rfl⟩;rw[<-f] at c1 hl J;have k:=aa f;clear f;generalize hg:n.rg=g at*;generalize l:n.ro=o at*;have m:=aa (And.intro hg l);clear hg l;go_enter Tryz.func130,Tryz.ntmps130;unfold ptr;go_wp2
 go_loopw [3,11] (fun sv i wr=>∃j:Nat,j<=L/\i=bf cu j/\∃s:Nat,sv=bf cu s/\s<=160800/\Hid (s=cz (n.its.take j))/\Hid (Below w.heap.size w wr)) (fun _ i _=>L-(RowKit.intOf i).toNat)
 case atStart=>exact⟨0,aB _,rfl,0,rfl,aB _,aa rfl,aa (Below.refl _ _)⟩
 case round=>
  obtain⟨j,q,rfl,s,rfl,hs,hS,b⟩:=hrel;have Y:(s:Int)<=160800:=by omega
  by_cases H:j<L
  ·have u:(j:Int)<L:=(by omega);have a:j<n.its.length:=(by rw[<-k.o];exact H);have s1:=(d.o.still b.o).item j a;have r:=aa (show s+jw n.its[j]=cz (n.its.take (j+1)) by rw[yK _ _ a,hS.o]);have hle:=d.o.small.part (j+1);rw[<-r.o] at hle;have v:=d.o.small.each _ (bI a);have x:=aa (fun W=>yJ W n.its[j] ⟨by omega,by omega⟩);rw[m.o.1,m.o.2] at s1;generalize n.its[j]=it at*;obtain⟨s2,S,A⟩:=s1;have D:=aa H;clear H q a v;go_wp2_with fail;refine (x.o _).mono ?_;rintro e w1 ⟨rfl,B⟩;have K:=aa (((b.o.alloc b.o.size _)).trans (B.mono (by simp only[aS];have:=b.o.size;omega)));clear B;generalize jw it=z at*;have C:(s:Int)+z<=160800:=(by omega);go_wp2;go_roundw
   case rel=>exact⟨j+1,D.o,by go_num,s+z,by go_num,hle,r,K⟩
   case measure=>have:=D.o;simp[RowKit.intOf];omega
  ·have u:¬(j:Int)<L:=(by omega);have y:=aa (show s=N by rw[t.o,hS.o,cg (by rw[<-k.o];omega)]);clear H q;go_wp2;go_ret;exact⟨by rw[y.o];rfl,b.o⟩
end
end
namespace Tr
abbrev Tx:=List UInt8
def lt:Tx->Tx->Bool
 |_,[]=>false
 |[],_::_=>true
 |a::x,b::y=>a<b||(a==b&&lt x y)
theorem lt_irrefl:∀a,lt a a=false
 |[]=>rfl
 |a::x=>by simp[lt,lt_irrefl x]
theorem lt_trans:∀{a b c:Tx},lt a b=true->lt b c=true->lt a c=true
 |[],[],_,h,_=>by cases h
 |[],_::_,[],_,h=>by simp[lt] at h
 |[],_::_,_::_,_,_=>rfl
 |_::_,[],_,h,_=>by simp[lt] at h
 |_::_,_::_,[],_,h=>by simp[lt] at h
 |a::x,b::y,c::z,d,H=>by
  simp only[lt,Bool.or_eq_true,decide_eq_true_eq,eH,beq_iff_eq] at d H |-;rcases d with d|⟨rfl,d⟩;·grind
  ·rcases H with H|⟨rfl,H⟩;·exact dc H
   ·exact dn ⟨rfl,lt_trans d H⟩
theorem j7:∀a b:Tx,lt a b=false->lt b a=false->a=b
 |[],[],_,_=>rfl
 |[],_::_,h,_=>by simp[lt] at h
 |_::_,[],_,h=>by simp[lt] at h
 |a::x,b::y,h1,h2=>by simp only[lt,Bool.or_eq_false_iff,decide_eq_false_iff_not,Bool.and_eq_false_iff,beq_eq_false_iff_ne,ne_eq] at h1 h2;have H:a=b:=UInt8.le_antisymm (sE.1 h2.1) (sE.1 h1.1);subst H;rw[j7 x y (by simpa using h1.2) (by simpa using h2.2)]
theorem lt_asymm {a b:Tx} (h:lt a b=true):lt b a=false:=by grind [lt,lt_trans,lt_irrefl]
def le (a b:Tx):Prop:=lt b a=false
theorem le_refl (a:Tx):le a a:=lt_irrefl a
theorem le_of_lt {a b:Tx} (h:lt a b=true):le a b:=lt_asymm h
theorem lt_of_le_of_lt {a b c:Tx} (h:le a b) (H:lt b c=true):lt a c=true:=by
 cases e:lt a b;·rw[j7 a b e h];exact H
 ·exact lt_trans e H
theorem lt_of_lt_of_le {a b c:Tx} (h:lt a b=true) (H:le b c):lt a c=true:=by
 cases e:lt b c;·rw[<-j7 b c e H];exact h
 ·exact lt_trans h e
theorem le_trans {a b c:Tx} (h:le a b) (H:le b c):le a c:=by grind [le,lt,lt_of_lt_of_le]
theorem nil_le (a:Tx):le [] a:=by cases a<;>rfl
theorem ne_of_lt {a b:Tx} (h:lt a b=true):a≠b:=by rintro rfl;rw[lt_irrefl] at h;cases h
def tT (a:Tx):Option Tx->Prop
 |none=>True
 |some b=>lt a b=true
def hle:Option Tx->Option Tx->Prop
 |_,av=>True
 |none,aD _=>False
 |some a,aD b=>le a b
theorem OB {a:Tx}:∀{h h':Option Tx},tT a h->hle h h'->tT a h'
 |_,av,_,_=>trivial
 |none,aD _,_,h2=>h2.elim
 |some _,aD _,h,h2=>lt_of_lt_of_le h h2
theorem Ec {a:Tx}:∀{h:Option Tx},tT a h->hle (aD a) h
 |none,_=>trivial
 |some _,h=>le_of_lt h
theorem vE {a b:Tx}:∀{h:Option Tx},le a b->tT b h->tT a h
 |none,_,_=>trivial
 |some _,h,h2=>lt_of_le_of_lt h h2
structure Hd where
 page:Option Nat
 fresh:Bool
def E:Nat->Type
 |0=>Tx
 |k+1=>Hd×List (Tx×E k)
def mk {k:Nat} (h:Hd) (l:List (Tx×E k)):E (k+1):=(h,l)
def hd {k:Nat} (n:E (k+1)):Hd:=Prod.fst n
def its {k:Nat} (n:E (k+1)):List (Tx×E k):=Prod.snd n
@[simp] theorem hd_mk {k:Nat} (h:Hd) (l:List (Tx×E k)):hd (mk h l)=h:=rfl
@[simp] theorem its_mk {k:Nat} (h:Hd) (l:List (Tx×E k)):its (mk h l)=l:=rfl
theorem RG {k:Nat} (n:E (k+1)):mk (hd n) (its n)=n:=rfl
def Ik:(k:Nat)->E k->Nat
 |0,t=>List.length (α:=UInt8) t
 |_+1,_=>2
def jw (k:Nat) (p:Tx×E k):Nat:=2+p.1.length+Ik k p.2
def sz (k:Nat):List (Tx×E k)->Nat
 |[]=>0
 |p::l=>jw k p+sz k l
theorem ep (k:Nat):∀a b:List (Tx×E k),sz k (a++b)=sz k a+sz k b
 |[],b=>by simp[sz]
 |p::a,b=>by simp only[gJ,sz,ep k a b];omega
def cB:(k:Nat)->List (Tx×E k)->List (Tx×Tx)
 |0,l=>l
 |k+1,l=>l.flatMap fun p=>cB k (its p.2)
theorem bT:∀(k:Nat) (a b:List (Tx×E k)),cB k (a++b)=cB k a++cB k b
 |0,_,_=>rfl
 |_+1,_,_=>List.flatMap_append
theorem ld:∀k,cB k []=[]
 |0=>rfl
 |_+1=>rfl
theorem dY (k:Nat) (p:Tx×E (k+1)):cB (k+1) [p]=cB k (its p.2):=by simp[cB]
def ck:(k:Nat)->E k->List Nat
 |0,_=>[]
 |k+1,n=>(hd n).page.toList++(its n).flatMap fun p=>ck k p.2
def dW (k:Nat) (l:List (Tx×E k)):List Nat:=l.flatMap fun p=>ck k p.2
theorem bC (k:Nat) (n:E (k+1)):ck (k+1) n=(hd n).page.toList++dW k (its n):=rfl
theorem bU (k:Nat) (a b:List (Tx×E k)):dW k (a++b)=dW k a++dW k b:=List.flatMap_append
theorem f_ (k:Nat) (a:Tx×E k) (b:List (Tx×E k)):dW k (a::b)=ck k a.2++dW k b:=List.flatMap_cons
def fy:(k:Nat)->E k->Nat
 |0,_=>0
 |k+1,n=>(if (hd n).page.isSome then 0 else 1)+((its n).map fun p=>fy k p.2).sum
def kK (k:Nat) (l:List (Tx×E k)):Nat:=(l.map fun p=>fy k p.2).sum
theorem cH (k:Nat) (a b:List (Tx×E k)):kK k (a++b)=kK k a+kK k b:=by simp[kK]
theorem eP (k:Nat) (a:Tx×E k) (b:List (Tx×E k)):kK k (a::b)=fy k a.2+kK k b:=by simp[kK]
theorem bX (k:Nat) (n:E (k+1)):fy (k+1) n=(if (hd n).page.isSome then 0 else 1)+kK k (its n):=rfl
def Old:(k:Nat)->E k->Prop
 |0,_=>True
 |k+1,n=>(hd n).page.isSome/\∀p,(its n).head?=aD p->Old k p.2
def bH {α:Type} (x:Tx):List (Tx×α)->List (Tx×α)
 |[]=>[]
 |p::l=>(x,p.2)::l
@[simp] theorem setHd_nil {α:Type} (x:Tx):bH x ([]:List (Tx×α))=[]:=rfl
@[simp] theorem setHd_cons {α:Type} (x:Tx) (p:Tx×α) (l:List (Tx×α)):bH x (p::l)=(x,p.2)::l:=rfl
theorem fD {α:Type} (x:Tx):∀(a b:List (Tx×α)),a≠[]->bH x (a++b)=bH x a++b
 |[],_,h=>absurd rfl h
 |_::_,_,_=>rfl
theorem BR {α:Type} (x y:Tx) (l:List (Tx×α)):bH x (bH y l)=bH x l:=by cases l<;>rfl
theorem qT {α:Type} (x:Tx) (l:List (Tx×α)):bH x l=[]↔l=[]:=by cases l<;>simp
theorem jQ (k:Nat) (x:Tx) (l:List (Tx×E (k+1))):cB (k+1) (bH x l)=cB (k+1) l:=by cases l<;>simp[cB]
theorem sF (k:Nat) (x:Tx) (l:List (Tx×E k)):dW k (bH x l)=dW k l:=by cases l<;>simp[dW]
theorem sG (k:Nat) (x:Tx) (l:List (Tx×E k)):kK k (bH x l)=kK k l:=by cases l<;>simp[kK]
def dB {α:Type} (O:Tx->Option Tx->α->Prop) (C:α->Tx->α->Prop) (h:Option Tx):List (Tx×α)->Prop
 |[]=>True
 |[a]=>O a.1 h a.2
 |a::b::r=>O a.1 (aD b.1) a.2/\(lt a.1 b.1=true/\b.1.length<=96/\C a.2 b.1 b.2)/\dB O C h (b::r)
section
variable {α:Type} {O O':Tx->Option Tx->α->Prop} {C C':α->Tx->α->Prop} {h h':Option Tx}
theorem dB.append:∀{A:List (Tx×α)} {a b:Tx×α} {B:List (Tx×α)},dB O C h (A++a::b::B)↔dB O C (aD b.1) (A++[a])/\(lt a.1 b.1=true/\b.1.length<=96/\C a.2 b.1 b.2)/\dB O C h (b::B)
 |[],_,_,_=>by simp only[dI,dB]
 |[_],_,_,_=>by simp only[gJ,dI,dB];exact⟨fun ⟨H,c,h3,h4,d⟩=>⟨⟨H,c,h3⟩,h4,d⟩,fun ⟨⟨H,c,h3⟩,h4,d⟩=>⟨H,c,h3,h4,d⟩⟩
 |x::y::A,a,b,B=>by
  have i:=dB.append (A:=y::A) (a:=a) (b:=b) (B:=B);simp only[gJ,dB] at i |-;rw[i];exact⟨fun ⟨H,c,h3,h4,d⟩=>⟨⟨H,c,h3⟩,h4,d⟩,fun ⟨⟨H,c,h3⟩,h4,d⟩=>⟨H,c,h3,h4,d⟩⟩
theorem dB.last:∀{A:List (Tx×α)} {a:Tx×α},dB O C h (A++[a])->O a.1 h a.2
 |[],_,h=>h
 |[_],_,h=>h.2.2
 |_::y::A,_,h=>dB.last (A:=y::A) h.2.2
theorem dB.ij:∀{A:List (Tx×α)} {a:Tx×α} {x:α},dB O C h (A++[a])->O a.1 h' x->(∀b k,C b k a.2->C b k x)->dB O C h' (A++[(a.1,x)])
 |[],_,_,_,h2,_=>h2
 |[_],_,_,h,h2,h3=>⟨h.1,⟨h.2.1.1,h.2.1.2.1,h3 _ _ h.2.1.2.2⟩,h2⟩
 |_::y::A,_,_,h,h2,h3=>⟨h.1,h.2.1,dB.ij (A:=y::A) h.2.2 h2 h3⟩
theorem dB.mono (H:∀a u x,O a u x->O' a u x) (c:∀a k b,C a k b->C' a k b):∀{l:List (Tx×α)},dB O C h l->dB O' C' h l
 |[],_=>trivial
 |[_],h=>H _ _ _ h
 |_::b::r,h=>⟨H _ _ _ h.1,⟨h.2.1.1,h.2.1.2.1,c _ _ _ h.2.1.2.2⟩,dB.mono H c (l:=b::r) h.2.2⟩
theorem dB.hi (H:∀a x,O a h x->O a h' x):∀{l:List (Tx×α)},dB O C h l->dB O C h' l
 |[],_=>trivial
 |[_],h=>H _ _ h
 |_::b::r,h=>⟨h.1,h.2.1,dB.hi H (l:=b::r) h.2.2⟩
theorem dB.tail {a:Tx×α}:∀{l:List (Tx×α)},dB O C h (a::l)->dB O C h l
 |[],_=>trivial
 |_::_,h=>h.2.2
theorem dB.behind:∀{A B:List (Tx×α)},dB O C h (A++B)->dB O C h B
 |[],_,h=>h
 |_::A,_,h=>dB.behind (A:=A) h.tail
end
def cut:(k:Nat)->E k->Tx->E k->Prop
 |0,_,_,_=>True
 |k+1,a,x,b=>510<sz k (its a)+sz k (its b)+(if k=0 then 0 else x.length)
instance:(k:Nat)->(a:E k)->(x:Tx)->(b:E k)->Decidable (cut k a x b)
 |0,_,_,_=>.isTrue trivial
 |k+1,a,x,b=>inferInstanceAs (Decidable (510<sz k (its a)+sz k (its b)+(if k=0 then 0 else x.length)))
def Head (k:Nat) (lo:Tx) (l:List (Tx×E k)):Prop:=∀p,l.head?=aD p->if k=0 then le lo p.1/\p.1.length<=96 else p.1=[]
def r9 (k:Nat) (lo:Tx) (l:List (Tx×E k)):List (Tx×E k):=if k=0 then l else bH lo l
def Ok:(k:Nat)->Tx->Option Tx->E k->Prop
 |0,x,h,v=>Ik 0 v<=56/\tT x h
 |k+1,lo,h,n=>its n≠[]/\sz k (its n)<=510/\Head k lo (its n)/\dB (Ok k) (cut k) h (r9 k lo (its n))
def Rw (k:Nat) (lo:Tx) (h:Option Tx) (l:List (Tx×E k)):Prop:=Head k lo l/\dB (Ok k) (cut k) h (r9 k lo l)
def iP (k:Nat) (lo:Tx) (h:Option Tx) (n:E (k+1)):Prop:=sz k (its n)<=664/\Rw k lo h (its n)
theorem Ok.near {k:Nat} {lo:Tx} {h:Option Tx} {n:E (k+1)} (o:Ok (k+1) lo h n):iP k lo h n:=⟨by have:=o.2.1;omega,o.2.2⟩
theorem iP.ok {k:Nat} {lo:Tx} {h:Option Tx} {n:E (k+1)} (o:iP k lo h n) (H:its n≠[]) (a:sz k (its n)<=510):Ok (k+1) lo h n:=⟨H,a,o.2⟩
theorem Ok.hi:∀{k:Nat} {lo:Tx} {h h':Option Tx} {n:E k},Ok k lo h n->hle h h'->Ok k lo h' n
 |0,_,_,_,_,o,hh=>⟨o.1,OB o.2 hh⟩
 |_+1,_,_,_,_,o,hh=>⟨o.1,o.2.1,o.2.2.1,o.2.2.2.hi fun _ _ x=>x.hi hh⟩
theorem dB.later {k:Nat} {h h':Option Tx} {l:List (Tx×E k)} (s:dB (Ok k) (cut k) h l) (hh:hle h h'):dB (Ok k) (cut k) h' l:=s.hi fun _ _ x=>x.hi hh
theorem Ok.lt:∀{k:Nat} {lo:Tx} {h:Option Tx} {n:E k},Ok k lo h n->tT lo h
 |0,_,_,_,o=>o.2
 |k+1,lo,h,n,o=>by
  obtain⟨a,_,h3,h4⟩:=o;have all:∀(l:List (Tx×E k)) (x:Tx),(∀p,l.head?=aD p->le x p.1)->l≠[]->dB (Ok k) (cut k) h l->tT x h:=by
   intro l;induction l with
   |nil=>intro _ _ h;exact absurd rfl h
   |cons p r i=>
    intro x H _ hs;cases r with
    |nil=>exact vE (H p rfl) (Ok.lt (k:=k) hs)
    |cons q r=>exact i x (fun z b=>by cases b;exact le_trans (H p rfl) (le_of_lt hs.2.1.1)) (by simp) hs.2.2
  refine all (r9 k lo (its n)) lo ?_ ?_ h4
  ·intro p hp;unfold r9 at hp
   split at hp
   ·rename_i c;have:=h3 p hp;rw[if_pos c] at this;exact this.1
   ·cases e:its n with
    |nil=>exact absurd e a
    |cons q r=>rw[e] at hp;cases hp;exact le_refl _
  ·grind [r9,qT]
theorem Rw.lo {k:Nat} {lo L:Tx} {h:Option Tx} {l:List (Tx×E k)} (o:∀{a:Tx} {u:Option Tx} {x:E k},Ok k a u x->le L a->0<k->Ok k L u x) (w:Rw k lo h l) (hl:le L lo):Rw k L h l:=by
 obtain⟨h3,h4⟩:=w;cases H:decide (k=0) with
 |true=>
  have H:=of_decide_eq_true H;subst H;refine⟨fun p hp=> ?_,h4⟩;have:=h3 p hp;rw[if_pos rfl] at this |-;exact⟨le_trans hl this.1,this.2⟩
 |false=>
  have H:=of_decide_eq_false H;refine⟨fun p hp=> ?_, ?_⟩;·have:=h3 p hp;rw[if_neg H] at this |-;exact this
  ·unfold r9 at h4 |-;rw[if_neg H] at h4 |-;cases l with
   |nil=>trivial
   |cons p r=>
    cases r with
    |nil=>exact o h4 hl (Nat.pos_of_ne_zero H)
    |cons q r=>exact⟨o h4.1 hl (Nat.pos_of_ne_zero H),⟨lt_of_le_of_lt hl h4.2.1.1,h4.2.1.2⟩,h4.2.2⟩
theorem Ok.lo:∀{k:Nat} {lo l:Tx} {h:Option Tx} {n:E (k+1)},Ok (k+1) lo h n->le l lo->Ok (k+1) l h n
 |0,_,_,_,_,o,hl=>⟨o.1,o.2.1,Rw.lo (fun _ _ h=>absurd h (Nat.lt_irrefl _)) o.2.2 hl⟩
 |_+1,_,_,_,_,o,hl=>⟨o.1,o.2.1,Rw.lo (fun x H _=>Ok.lo x H) o.2.2 hl⟩
theorem iP.lo {k:Nat} {lo l:Tx} {h:Option Tx} {n:E (k+1)} (o:iP k lo h n) (hl:le l lo):iP k l h n:=by
 refine⟨o.1, ?_⟩;cases k with
 |zero=>exact Rw.lo (fun _ _ h=>absurd h (Nat.lt_irrefl _)) o.2 hl
 |succ k=>exact Rw.lo (fun x H _=>Ok.lo x H) o.2 hl
end Tr
section
open Go.RowKit Lib
namespace Tr
theorem lt_eq:∀a b:List UInt8,Op.bytesLess a b=lt a b
 |[],[]=>rfl
 |_::_,[]=>rfl
 |[],_::_=>rfl
 |a::x,b::y=>by
  show (decide (a<b)||(a==b&&Op.bytesLess x y))=(decide (a<b)||(a==b&&lt x y));rw[lt_eq x y]
theorem p7:∀a b:List UInt8,Lib.compareBytes a b<0↔lt a b=true
 |[],[]=>by simp[Lib.compareBytes,lt]
 |_::_,[]=>by simp[Lib.compareBytes,lt]
 |[],_::_=>by simp[Lib.compareBytes,lt]
 |a::x,b::y=>by
  have i:=p7 x y;unfold Lib.compareBytes lt;by_cases h:a<b;·simp[h]
  ·by_cases H:b<a;·have:¬a=b:=(by rintro rfl;exact h H);simp[h,H,this]
   ·have:a=b:=UInt8.le_antisymm (sE.1 H) (sE.1 h);subst this;simp[i,h]
theorem compare_eq:∀a b:List UInt8,Lib.compareBytes a b=0↔a=b
 |[],[]=>by simp[Lib.compareBytes]
 |_::_,[]=>by simp[Lib.compareBytes]
 |[],_::_=>by simp[Lib.compareBytes]
 |a::x,b::y=>by
  have i:=compare_eq x y;unfold Lib.compareBytes;by_cases h:a<b;·grind
  ·by_cases H:b<a;·have:¬a=b:=(by rintro rfl;exact h H);simp[h,H,this]
   ·have:a=b:=UInt8.le_antisymm (sE.1 H) (sE.1 h);subst this;simp[i,h]
end Tr
def KS (l:List It):Prop:=l.Pairwise fun a b=>Tr.lt a.key b.key=true
def posOf (l:List It) (key:List UInt8):Nat:=(l.takeWhile fun i=>Tr.lt i.key key).length
def eD (l:List It) (key:List UInt8):Bool:=match l[posOf l key]? with|some i=>decide (i.key=key)|none=>false
theorem vF (l:List It) (key:List UInt8):posOf l key<=l.length:=by grind [posOf,List.takeWhile_sublist]
theorem KT {l:List It} {key:List UInt8} {i:Nat} (hi:i<=l.length) (b:∀t (h:t<l.length),t<i->Tr.lt l[t].key key=true) (c:∀t (h:t<l.length),t=i->Tr.lt l[t].key key=false):posOf l key=i:=by
 have e:l=l.take i++l.drop i:=(cP i l).symm;unfold posOf
 conv=>lhs;rw[e]
 rw[List.takeWhile_append_of_pos (by
  intro x d;obtain⟨t,f,rfl⟩:=List.mem_iff_getElem.1 d;rw[aO] at f;rw[List.getElem_take];exact b t (by omega) (by omega))]
 rcases Nat.lt_or_ge i l.length with H|a;·rw[cw H,List.takeWhile_cons_of_neg (by rw[c i H rfl];simp),bA,aO];omega
 ·rw[List.drop_eq_nil_of_le a,List.takeWhile_nil,bA,aO];omega
theorem KU {l:List It} (h:KS l) {t s:Nat} (a:t<l.length) (hs:s<l.length) (b:t<=s):Tr.le l[t].key l[s].key:=by
 rcases Nat.lt_or_ge t s with H|H;·exact Tr.le_of_lt (ga.1 h t s a hs H)
 ·have:t=s:=by omega
  subst this;exact Tr.le_refl _
section
variable {w w':World} {p q:Nat} {n m:NV}
theorem je (h:Nd w p n):Calls Tryz.prog 129 #[ptr p] w fun e w'=>e=eb (eX (decide (cz n.its<=510)))/\Below w.heap.size w w':=by
 have hs:=h.small.size;have a:=aa (gZ h);clear h;obtain⟨b,H⟩:∃b,b=decide (cz n.its<=510):=⟨_,rfl⟩;rw[<-H];have c:=aa H;clear H;generalize cz n.its=s at*;have y:(s:Int)<=160800:=by omega
 go_enter Tryz.func129,Tryz.ntmps129;go_wp2_with fail;refine a.o.mono ?_;rintro e w1 ⟨rfl,B⟩;go_wp2;go_ret;exact⟨by rw[c.o];congr 1;congr 1;simp;omega,B⟩
theorem lI (h:Nd w p n) (a:Nd w q m) (key:List UInt8) (x:key.length<=1000000):Calls Tryz.prog 174 #[ptr p,ptr q,bR (bs key)] w fun e w'=>e=eb (eX (decide (cz n.its+cz m.its+(if n.level=0 then 0 else key.length)<=510)))/\Below w.heap.size w w':=by
 have hs:=h.small.size;have l:=a.small.size;have c0:=h.c0;have r:=aa h;have t:=aa (gZ h);have c:=aa a;have u:(bs key).size=key.length:=aP _;clear h a;obtain⟨b,d⟩:∃b,b=decide (cz n.its+cz m.its+(if n.level=0 then 0 else key.length)<=510):=⟨_,rfl⟩;rw[<-d];have j:=aa d;clear d;generalize bs key=k at*;obtain⟨s,K⟩:∃s,s=cz n.its:=⟨_,rfl⟩;obtain⟨s2,R⟩:∃s2,s2=cz m.its:=⟨_,rfl⟩;rw[<-K] at hs;rw[<-R] at l;have H:=aa (And.intro K R);clear K R;have y:(s:Int)<=160800:=by omega
 have v:(s2:Int)<=160800:=by omega
 have U:(key.length:Int)<=1000000:=by omega
 go_enter Tryz.func174,Tryz.ntmps174;unfold ptr;go_wp2_with fail;refine t.o.mono ?_;rintro e w1 ⟨rfl,B⟩;have f:=aa (And.intro (c.o.still B) B);rw[<-H.o.1];clear B;go_wp2_with fail;refine (gZ f.o.1).mono ?_;rintro e W ⟨rfl,A⟩;rw[<-H.o.2];have g:=aa (f.o.2.trans (A.mono f.o.2.size));have C:=(r.o.still g.o).c0;clear A;by_cases hl:n.level=0
 ·have J:¬(0:Int)<n.level:=by omega
  have i:=aa hl;clear hl;go_wp2;go_ret;exact⟨by rw[j.o,if_pos i.o,<-H.o.1,<-H.o.2];congr 1;congr 1;simp;omega,g.o⟩
 ·have J:(0:Int)<n.level:=by omega
  have i:=aa hl;clear hl;go_wp2;go_ret;exact⟨by rw[j.o,if_neg i.o,<-H.o.1,<-H.o.2];congr 1;congr 1;simp;omega,g.o⟩
theorem qU (w:World) (lo hi key:List UInt8):Calls Tryz.prog 144 #[iK #[bR (bs lo),bR (bs hi)],bR (bs key)] w fun e w'=>e=eb (eX (!hi.isEmpty&& !Tr.lt key hi))/\Below w.heap.size w w':=by
 have H:(bs hi).toList=hi:=bt hi;have a:(bs key).toList=key:=bt key;rw[<-Tr.lt_eq];generalize bs lo=l;generalize bs hi=h at*;generalize bs key=k at*;rw[<-H,<-a];clear H a;go_enter Tryz.func144,Tryz.ntmps144;go_wp2;·rename_i e;go_ret;exact⟨by rw[e];rfl,(Below.refl _ w).alloc (ah _) _⟩
 ·go_ret;exact⟨rfl,(Below.refl _ w).alloc (ah _) _⟩
theorem nZ (w:World) (lo hi key:List UInt8):Calls Tryz.prog 95 #[iK #[bR (bs lo),bR (bs hi)],bR (bs key)] w fun e w'=>e=eb (eX (!Tr.lt key lo&& !(!hi.isEmpty&& !Tr.lt key hi)))/\Below w.heap.size w w':=by
 have H:(bs lo).toList=lo:=bt lo;have a:(bs key).toList=key:=bt key;have c:=aa (fun W=>qU W lo hi key);generalize (!hi.isEmpty&& !Tr.lt key hi)=b at*;rw[<-Tr.lt_eq];generalize bs lo=l at*;generalize bs hi=h at*;generalize bs key=k at*;rw[<-H,<-a];clear H a;cases d:Op.bytesLess k.toList l.toList with
 |true=>go_enter Tryz.func95,Tryz.ntmps95;go_wp2;go_ret;exact⟨by simp,(Below.refl _ w).alloc (ah _) _⟩
 |false=>go_enter Tryz.func95,Tryz.ntmps95;go_wp2_with fail;refine (c.o _).mono ?_;rintro e w1 ⟨rfl,B⟩;have f:=aa ((Below.refl w.heap.size w).alloc (ah _) _|>.trans (B.mono (by simp only[aS];omega)));clear B;go_wp2;go_ret;exact⟨by simp,f.o⟩
theorem Ed (a b:ByteArray) (w:World):
  Calls Tryz.prog 124 #[bR a,bR b] w fun e w'=>e=eb (bf cu (Lib.compareBytes a.data.toList b.data.toList))/\w'=w:=by
 go_enter Tryz.func124,Tryz.ntmps124;go_wp2;rw[run_callFunc_extern Tryz.func171 (by kernel_rfl) (by kernel_rfl) (by kernel_rfl) (e:=Extern.BytealgCompare.compare) (by kernel_rfl),Lib.run_compareString];simp only[Result.andThen];rw[Oper.upon_value];go_wp2;go_ret;exact⟨rfl,rfl⟩
theorem vG (a b:ByteArray) (w:World):
  Calls Tryz.prog 82 #[bR a,bR b] w fun e w'=>e=eb (bf cu (Lib.compareBytes a.data.toList b.data.toList))/\w'=w:=by
 go_enter Tryz.func82,Tryz.ntmps82;go_wp2_with fail;refine (Ed _ _ _).mono ?_;rintro e w' ⟨rfl,rfl⟩;go_wp2;go_ret;exact⟨rfl,rfl⟩
theorem p8 (a b:List UInt8):-1<=Lib.compareBytes a b/\Lib.compareBytes a b<=1:=by
 induction a generalizing b with
 |nil=>cases b<;>simp[Lib.compareBytes]
 |cons x a i=>
  cases b with
  |nil=>simp[Lib.compareBytes]
  |cons y b=>
   unfold Lib.compareBytes
   split
   ·omega
   ·grind
theorem Il (w:World) (k v key:List UInt8) (q:Option Addr):Calls Tryz.prog 81 #[iK #[bR (bs k),bR (bs v),e7 q],bR (bs key)] w fun e w'=>e=eb (bf cu (Lib.compareBytes k key))/\Below w.heap.size w w':=by have H:(bs k).data.toList=k:=rfl;have d:(bs key).data.toList=key:=rfl;generalize bs k=a at*;generalize bs v=b at*;generalize bs key=c at*;obtain⟨z,h⟩:∃z,z=Lib.compareBytes k key:=⟨_,rfl⟩;have f:=aa (fun W:World=>vG a c W);rw[H,d,<-h] at f;rw[<-h];clear H d h;go_enter Tryz.func81,Tryz.ntmps81;go_wp2_with fail;refine (f.o _).mono ?_;rintro e w1 ⟨rfl,rfl⟩;go_wp2;go_ret;exact⟨rfl,(Below.refl _ w).alloc (ah _) _⟩
theorem BS (w:World) (g o cap:Nat) (l:List It) (hl:bu ak w g o l) (hn:l.length<=400) (hs:KS l) (key:List UInt8):
  Calls Tryz.prog 80 #[cx (aD ⟨g,o,av⟩) l.length cap,bR (bs key),.func (.func 81) #[] #[]] w
   fun e w'=>e=eb (gu #[bf cu (posOf l key),eX (eD l key)])/\Below w.heap.size w w':=by
 have U:(l.length:Int)<=400:=by omega
 have O:=aa hl
 have Q:=aa hs
 clear hl hs hn
 obtain⟨L,x⟩:∃L,L=l.length:=⟨_,rfl⟩
 rw[<-x] at U |-
 have s:=aa x
 clear x
 obtain⟨P,y⟩:∃P,P=posOf l key:=⟨_,rfl⟩
 obtain⟨T,C⟩:∃T,T=eD l key:=⟨_,rfl⟩
 rw[<-y,<-C]
 have m:=aa (And.intro y C)
 clear y C
 have R:=aa (fun (W:World) (i:It)=>Il W i.key i.val key (pa i.node))
 generalize bs key=kk at*
 go_enter Tryz.func80,Tryz.ntmps80
 go_wp2
 go_loopw [9,10] (fun D J wr=>∃i j:Nat,i<=j/\j<=L/\D=bf cu i/\J=bf cu j/\Hid ((∀t (h:t<l.length),t<i->Tr.lt l[t].key key=true)/\∀t (h:t<l.length),j<=t->Tr.lt l[t].key key=false)/\Hid (Below w.heap.size w wr)) (fun D J _=>(RowKit.intOf J).toNat-(RowKit.intOf D).toNat)
 case atStart=>exact⟨0,L,aB _,ah _,rfl,rfl,aa ⟨fun _ _ h=>absurd h (Nat.not_lt_zero _),fun t a k=>by have:=s.o;omega⟩,aa (Below.refl _ _)⟩
 case round=>
  obtain⟨i,j,n,S,rfl,rfl,u,b⟩:=hrel;by_cases E:i<j
  ·have V:(i:Int)<j:=(by omega);have Im:(j:Int)<=400:=(by omega);have p:i<=(i+j)/2:=(by omega);have q:(i+j)/2<j:=(by omega);have G:(i+j)/2<l.length:=(by rw[<-s.o];omega);have uD:(((i+j)/2:Nat):Int)<L:=(by omega);have Z:((i:Int)+j)/2<L:=(by omega);have pM:0<=((i:Int)+j)/2:=(by omega);have A:=bh (ez O.o b.o) _ G;obtain⟨it,c⟩:∃it,it=l[(i+j)/2]:=⟨_,rfl⟩;rw[<-c] at A;obtain⟨A,a1,a2⟩:=A;have H:=aa (show i<=(i+j)/2/\(i+j)/2<j/\∃h:(i+j)/2<l.length,it=l[(i+j)/2] from⟨p,q,G,c⟩);have M:=aa (p8 it.key key);obtain⟨z,d⟩:∃z,z=Lib.compareBytes it.key key:=⟨_,rfl⟩;have I:=aa (fun W=>R.o W it);rw[<-d] at I M;have v:=aa d;have QD:=M.o.1;have YI:=M.o.2;clear G c p q d n;go_wp2_with fail;refine (I.o _).mono ?_;rintro e w1 ⟨rfl,B⟩;have F:=aa (b.o.trans (B.mono b.o.size));clear B;by_cases r:z<0
   ·have Y:=aa ((Tr.p7 _ _).1 (by rw[<-v.o];exact r));go_wp2;go_roundw
    case rel=>exact⟨(i+j)/2+1,j,by have:=H.o.2.1;omega,S,by go_num,rfl,aa ⟨fun t a k=>Tr.lt_of_le_of_lt (KU Q.o a H.o.2.2.1 (by omega)) (by rw[<-H.o.2.2.2];exact Y.o),u.o.2⟩,F⟩
    case measure=>have:=H.o;simp[RowKit.intOf];omega
   ·have Y:=aa (show Tr.lt it.key key=false by
     cases h:Tr.lt it.key key;·rfl
     ·exact absurd (by rw[v.o];exact (Tr.p7 _ _).2 h) r)
    go_wp2;go_roundw
    case rel=>exact⟨i,(i+j)/2,H.o.1,by have:=H.o.2.1;omega,rfl,by go_num,aa ⟨u.o.1,fun t a k=>by
     cases h:Tr.lt l[t].key key;·rfl
     ·exact absurd (Tr.lt_of_le_of_lt (KU Q.o H.o.2.2.1 a k) h) (by rw[<-H.o.2.2.2,Y.o];simp)⟩,F⟩
    case measure=>have:=H.o;simp[RowKit.intOf];omega
  ·obtain rfl:i=j:=by omega
   have V:¬(i:Int)<i:=(by omega);clear E n;have X:=aa (show P=i from m.o.1.trans (KT (by rw[<-s.o];exact S) (fun t a k=>u.o.1 t a k) (fun t a k=>u.o.2 t a (by omega))));by_cases K:i<L
   ·have Kg:(i:Int)<L:=(by omega);have f:i<l.length:=(by rw[<-s.o];exact K);have A:=bh (ez O.o b.o) _ f
    have N:=aa (show T=decide (l[i].key=key) by
     rw[m.o.2];unfold eD;rw[<-m.o.1,X.o,aK f])
    generalize l[i]=it at*;obtain⟨A,a1,a2⟩:=A;obtain⟨z,d⟩:∃z,z=Lib.compareBytes it.key key:=⟨_,rfl⟩;have I:=aa (fun W=>R.o W it);rw[<-d] at I;have v:=aa (show decide (it.key=key)=(z==0) by rw[d,jf,decide_eq_true_eq,beq_iff_eq];exact (Tr.compare_eq _ _).symm);clear f K d;go_wp2_with fail;refine (I.o _).mono ?_;rintro e w1 ⟨rfl,B⟩;have F:=aa (b.o.trans (B.mono b.o.size));clear B;go_wp2
    go_ret2
    exact⟨by rw[X.o,N.o,v.o];rfl,F.o⟩
   ·have Kg:¬(i:Int)<L:=by omega
    have N:=aa (show T=false by
     rw[m.o.2];unfold eD;rw[<-m.o.1,X.o,List.getElem?_eq_none (by rw[<-s.o];omega)])
    clear K;go_wp2
    go_ret2
    exact⟨by rw[X.o,N.o];rfl,b.o⟩
end
end
namespace Tr
theorem n_ {k:Nat} {a a' b:E (k+1)} {x:Tx} (h:cut (k+1) a x b) (hs:sz k (its a)<=sz k (its a')):cut (k+1) a' x b:=by unfold cut at h |-;omega
theorem mj {k:Nat} {a b B:E (k+1)} {x:Tx} (h:cut (k+1) a x b) (hs:sz k (its b)<=sz k (its B)):cut (k+1) a x B:=by unfold cut at h |-;omega
theorem uG (a b:E 1) (x:Tx):cut 1 a x b↔510<sz 0 (its a)+sz 0 (its b):=by show 510<sz 0 (its a)+sz 0 (its b)+0↔_;rw[d_]
theorem uH {k:Nat} (a b:E (k+2)) (x:Tx):cut (k+2) a x b↔510<sz (k+1) (its a)+sz (k+1) (its b)+x.length:=by show 510<_+(if k+1=0 then 0 else x.length)↔_;rw[if_neg (dy _)]
theorem cN {α:Type} (A:List α) (a:α):(A++[a]).getLast?=aD a:=by simp
theorem pW {α:Type} (A:List α) (a:α):(A++[a]).dropLast=A:=by simp
theorem dR {α:Type} {l:List α} (h:l≠[]):∃A a,l=A++[a]:=⟨l.dropLast,l.getLast h,(List.dropLast_concat_getLast h).symm⟩
theorem j8 {α:Type} (x:Tx) (A:List (Tx×α)) (a:Tx×α):∃b y,bH x (A++[a])=b++[(y,a.2)]/\∀v:α,bH x (A++[(a.1,v)])=b++[(y,v)]:=by
 cases A with
 |nil=>exact⟨[],x,rfl,fun _=>rfl⟩
 |cons p A=>exact⟨(x,p.2)::A,a.1,rfl,fun _=>rfl⟩
theorem OC (k:Nat) (p:Tx×E k):2<=jw k p:=by unfold jw;omega
theorem eC (k:Nat) (p:Tx×E (k+1)):jw (k+1) p=4+p.1.length:=by show 2+p.1.length+2=_;omega
theorem KV (k:Nat) (x:Tx) (p:Tx×E k) (l:List (Tx×E k)):sz k (bH x (p::l))+p.1.length=sz k (p::l)+x.length:=by simp only[setHd_cons,sz,jw];omega
theorem OD {k:Nat} {l:List (Tx×E k)} (h:l≠[]):2<=sz k l:=by
 cases l with
 |nil=>exact absurd rfl h
 |cons p l=>have:=OC k p;simp only[sz];omega
theorem KW {k:Nat} {l:List (Tx×E (k+1))} (h:l≠[]):4<=sz (k+1) l:=by
 cases l with
 |nil=>exact absurd rfl h
 |cons p l=>rw[sz,eC];omega
def join:(k:Nat)->E (k+1)->E (k+1)->Tx->E (k+1)×List Nat
 |0,n,m,_=>(mk ⟨(hd n).page,true⟩ (its n++its m),(hd m).page.toList)
 |k+1,n,m,x=>
  match (its n).getLast?,its m with
  |some a,b::r=>
   if cut (k+1) a.2 x b.2 then (mk ⟨(hd n).page,true⟩ (its n++(x,b.2)::r),(hd m).page.toList)
   else (mk ⟨(hd n).page,true⟩ ((its n).dropLast++(a.1,(join k a.2 b.2 x).1)::r),(join k a.2 b.2 x).2++(hd m).page.toList)
  |_,_=>(n,[])
theorem sI (n m:E 1) (x:Tx):join 0 n m x=(mk ⟨(hd n).page,true⟩ (its n++its m),(hd m).page.toList):=rfl
theorem mm {k:Nat} {n m:E (k+2)} {x:Tx} {A r:List (Tx×E (k+1))} {a b:Tx×E (k+1)} (hn:its n=A++[a]) (h:its m=b::r):
  join (k+1) n m x=if cut (k+1) a.2 x b.2 then (mk ⟨(hd n).page,true⟩ (A++a::(x,b.2)::r),(hd m).page.toList)
   else (mk ⟨(hd n).page,true⟩ (A++(a.1,(join k a.2 b.2 x).1)::r),(join k a.2 b.2 x).2++(hd m).page.toList):=by
 show (match (its n).getLast?,its m with
  |some a,b::r=>
   if cut (k+1) a.2 x b.2 then (mk ⟨(hd n).page,true⟩ (its n++(x,b.2)::r),(hd m).page.toList)
   else (mk ⟨(hd n).page,true⟩ ((its n).dropLast++(a.1,(join k a.2 b.2 x).1)::r),(join k a.2 b.2 x).2++(hd m).page.toList)
  |_,_=>(n,[]))=_
 rw[hn,h,cN]
 simp only[pW,aF,gJ,dI]
theorem Ok.key {k:Nat} {lo:Tx} {h:Option Tx} {b:Tx×E (k+1)} {r:List (Tx×E (k+1))} {m:E (k+2)} (o:Ok (k+2) lo h m) (H:its m=b::r):b.1=[]/\dB (Ok (k+1)) (cut (k+1)) h ((lo,b.2)::r):=by
 obtain⟨_,_,h3,h4⟩:=o;refine⟨?_, ?_⟩
 ·have:=h3 b (by rw[H];rfl)
  rwa [if_neg (dy _)] at this
 ·simp_all[r9]
structure Joined (k:Nat) (lo:Tx) (h:Option Tx) (n m:E (k+1)) (j:E (k+1)) (sp:List Nat):Prop where
 ok:Ok (k+1) lo h j
 cB:cB k (its j)=cB k (its n)++cB k (its m)
 page:(hd j).page=(hd n).page
 left:sz k (its n)<=sz k (its j)
 right:sz k (its m)<=sz k (its j)
 ck:(ck (k+1) j++sp).Perm (ck (k+1) n++ck (k+1) m)
 old:Old (k+1) n->Old (k+1) j
 fy:Old (k+1) m->fy (k+1) j=fy (k+1) n+fy (k+1) m
theorem uu {α:Type} (A:List α) (a:α) (B:List α):(A++a::B).head?=(A++[a]).head?:=by cases A<;>rfl
theorem yL {a b:List Nat} {p q:List Nat}:((p++(a++b))++q).Perm ((p++a)++(q++b)):=by grind
theorem qV:∀(k:Nat) {lo:Tx} {h:Option Tx} {n m:E (k+1)} {x:Tx},Ok (k+1) lo (aD x) n->Ok (k+1) x h m->x.length<=96->¬cut (k+1) n x m->Joined k lo h n m (join k n m x).1 (join k n m x).2
 |0,lo,h,n,m,x,on,om,hx,hc=>by
  rw[sI];obtain⟨n1,K,n3,N⟩:=on;obtain⟨s,L,m3,f⟩:=om;obtain⟨A,a,hA⟩:=dR n1;cases H:its m with
  |nil=>exact absurd H s
  |cons b B=>
   have d:sz 0 (its n++its m)=sz 0 (its n)+sz 0 (its m):=ep _ _ _;have G:=m3 b (by rw[H];rfl);rw[if_pos rfl] at G;refine⟨⟨?_, ?_, ?_, ?_⟩, ?_,rfl, ?_, ?_, ?_, ?_, ?_⟩;·simp_all
   ·simp_all[uG]
   ·intro p hp;refine n3 p ?_;rw[its_mk,hA,aF] at hp;rw[hA];cases A<;>exact hp
   ·show dB (Ok 0) (cut 0) h (its n++b::B);rw[hA,aF];unfold r9 at N f;rw[if_pos rfl] at N f;rw[hA] at N;rw[H] at f;have hl:lt a.1 b.1=true:=lt_of_lt_of_le N.last.2 G.1;exact dB.append.2 ⟨dB.ij (x:=a.2) N ⟨N.last.1,hl⟩ (fun _ _ h=>h),⟨hl,G.2,trivial⟩,f⟩
   ·rw[its_mk,<-H];rfl
   ·rw[its_mk,<-H,d];omega
   ·rw[its_mk,<-H,d];omega
   ·rw[bC,bC,bC,its_mk,hd_mk,<-H,bU];exact yL
   ·intro o;refine⟨o.1,fun _ _=>trivial⟩
   ·intro o;have hp:=o.1;rw[bX,bX,bX,its_mk,hd_mk,<-H,cH,if_pos hp];show (if (hd n).page.isSome=true then 0 else 1)+_=_;omega
 |k+1,lo,h,n,m,x,on,om,hx,hc=>by
  obtain⟨A,a,hA⟩:=dR on.1;cases H:its m with
  |nil=>exact absurd H om.1
  |cons b r=>
   rw[mm hA H];obtain⟨t,ms⟩:=om.key H;have ns:dB (Ok (k+1)) (cut (k+1)) (aD x) (bH lo (A++[a])):=by
    have:=on.2.2.2;unfold r9 at this
    rwa [if_neg (dy _),hA] at this
   obtain⟨w,y,z,i⟩:=j8 lo A a;rw[z] at ns;have e:lt y x=true:=ns.last.lt;have O:=KW on.1;have C:sz (k+1) (its m)=4+sz (k+1) r:=(by rw[H,sz,eC,t];rfl);have hcs:sz (k+1) (its n)+sz (k+1) (its m)+x.length<=510:=(by rw[uH] at hc;omega);have Y:∀(v:E (k+1)) (B:List (Tx×E (k+1))),Head (k+1) lo (A++(a.1,v)::B):=by
    intro v B p hp;rw[if_neg (dy _)];have h3:=on.2.2.1;cases A with
    |nil=>
     cases hp;have:=h3 a (by rw[hA];rfl)
     rwa [if_neg (dy _)] at this
    |cons q A=>
     have:=h3 p (by rw[hA];exact hp)
     rwa [if_neg (dy _)] at this
   have U:∀(v:E (k+1)) (B:List (Tx×E (k+1))),r9 (k+1) lo (A++(a.1,v)::B)=w++(y,v)::B:=(by intro v B;unfold r9;rw[if_neg (dy _),show A++(a.1,v)::B=(A++[(a.1,v)])++B by simp,fD _ _ _ (by simp),i v];simp);have I:∀(v:E (k+1)) (B:List (Tx×E (k+1))),sz (k+1) (A++(a.1,v)::B)=sz (k+1) (its n)+sz (k+1) B:=(by grind [ep,sz,eC]);by_cases u:cut (k+1) a.2 x b.2
   ·rw[if_pos u];have g:A++a::(x,b.2)::r=A++(a.1,a.2)::(x,b.2)::r:=rfl;refine⟨⟨?_, ?_, ?_, ?_⟩, ?_,rfl, ?_, ?_, ?_, ?_, ?_⟩;·rw[its_mk];simp
    ·rw[its_mk,g,I,sz,eC];show _+(4+x.length+_)<=510;omega
    ·rw[its_mk];exact Y a.2 _
    ·rw[its_mk,g,U];exact dB.append.2 ⟨ns,⟨e,hx,u⟩,ms⟩
    ·rw[its_mk,hA,H,show A++a::(x,b.2)::r=(A++[a])++(x,b.2)::r by simp,bT];rfl
    ·rw[its_mk,g,I];omega
    ·rw[its_mk,g,I,C,sz,eC];omega
    ·rw[bC,bC,bC,its_mk,hd_mk,hA,H,show A++a::(x,b.2)::r=(A++[a])++(x,b.2)::r by simp,bU];exact yL
    ·intro o;refine⟨o.1,fun p hp=>o.2 p ?_⟩;rw[its_mk,uu] at hp;rw[hA];exact hp
    ·intro o;rw[bX,bX,bX,its_mk,hd_mk,hA,H,show A++a::(x,b.2)::r=(A++[a])++(x,b.2)::r by simp,cH,if_pos o.1,eP,eP];show (if (hd n).page.isSome=true then 0 else 1)+(_+(fy (k+1) b.2+_))=_;omega
   ·rw[if_neg u];have key:∀h',Ok (k+1) x h' b.2->Joined k y h' a.2 b.2 (join k a.2 b.2 x).1 (join k a.2 b.2 x).2:=fun h' ob=>qV k ns.last ob hx u;generalize P:join k a.2 b.2 x=j at key;have J:Joined k y (match r with|[]=>h|c::_=>aD c.1) a.2 b.2 j.1 j.2:=by
     cases r with
     |nil=>exact key _ ms
     |cons c r=>exact key _ ms.1
    refine⟨⟨?_, ?_, ?_, ?_⟩, ?_,rfl, ?_, ?_, ?_, ?_, ?_⟩;·rw[its_mk];simp
    ·rw[its_mk,I];omega
    ·rw[its_mk];exact Y _ _
    ·rw[its_mk,U];cases r with
     |nil=>exact dB.ij (a:=(y,a.2)) ns J.ok (fun _ _ hc=>mj hc J.left)
     |cons c r=>
      have hs:=dB.ij (a:=(y,a.2)) (h':=aD c.1) ns J.ok (fun _ _ hc=>mj hc J.left);exact dB.append.2 ⟨hs,⟨lt_trans e ms.2.1.1,ms.2.1.2.1,n_ ms.2.1.2.2 J.right⟩,ms.2.2⟩
    ·rw[its_mk,hA,H,bT,bT,show (a.1,j.1)::r=[(a.1,j.1)]++r from rfl,show b::r=[b]++r from rfl,bT,bT,dY,dY,dY,J.cB];simp only[aF]
    ·rw[its_mk,I];omega
    ·rw[its_mk,I];omega
    ·have hp:=J.ck;rw[bC,bC (k+1) n,bC (k+1) m,its_mk,hd_mk,hA,H,bU,bU,f_,f_,f_];show (((hd n).page.toList++(dW (k+1) A++(ck (k+1) j.1++dW (k+1) r)))++(j.2++(hd m).page.toList)).Perm (((hd n).page.toList++(dW (k+1) A++(ck (k+1) a.2++dW (k+1) [])))++((hd m).page.toList++(ck (k+1) b.2++dW (k+1) r)));have l:dW (k+1) ([]:List (Tx×E (k+1)))=[]:=rfl;rw[l,bA];simp only[aF];refine List.Perm.append_left _ (List.Perm.append_left _ ?_);generalize dW (k+1) r=R;generalize (hd m).page.toList=M;have D:(ck (k+1) j.1++(R++(j.2++M))).Perm ((ck (k+1) j.1++j.2)++(R++M)):=(by rw[aF];refine List.Perm.append_left _ ?_;rw[<-aF,<-aF];exact List.Perm.append_right _ m7);refine D.trans ((List.Perm.append_right _ hp).trans ?_);rw[aF];refine List.Perm.append_left _ ?_;have F:(ck (k+1) b.2++(R++M)).Perm ((ck (k+1) b.2++R)++M):=(by rw[aF]);exact F.trans m7
    ·intro o;refine⟨o.1,fun p hp=> ?_⟩;rw[its_mk] at hp;cases A with
     |nil=>cases hp;exact J.old (o.2 a (by rw[hA];rfl))
     |cons q A=>exact o.2 p (by rw[hA];exact hp)
    ·intro o;have Q:=J.fy (o.2 b (by rw[H];rfl));rw[bX,bX (k+1) n,bX (k+1) m,its_mk,hd_mk,hA,H,cH,cH,eP,eP,eP,if_pos o.1];show (if (hd n).page.isSome=true then 0 else 1)+(_+(fy (k+1) j.1+_))=_;have l:kK (k+1) ([]:List (Tx×E (k+1)))=0:=rfl;omega
end Tr
namespace Tr
def cI:Tx->Tx->Tx
 |[],b=>b.take 1
 |_::_,[]=>[]
 |x::a,y::b=>if x=y then y::cI a b else [y]
theorem tU:∀{a b:Tx},lt a b=true->le (cI a b) b/\lt a (cI a b)=true/\(cI a b).length<=b.length
 |[],[],h=>by cases h
 |[],y::b,_=>⟨by simp only[cI,le,List.take,lt];cases b<;>simp,rfl,by simp[cI]⟩
 |_::_,[],h=>by simp[lt] at h
 |x::a,y::b,h=>by
  unfold cI;by_cases e:x=y
  ·subst e;rw[if_pos rfl];have h':lt a b=true:=(by simp_all[lt,UInt8.lt_irrefl]);obtain⟨c,H,h3⟩:=tU h';refine⟨?_, ?_,by simpa using h3⟩;·simp_all[le,lt]
   ·simp[lt,H]
  ·simp_all[lt,Bool.or_eq_true,eH,le]
def cy (k:Nat) (tot:Nat):Nat->List (Tx×E k)->List (Tx×E k)×List (Tx×E k)
 |_,[]=>([],[])
 |_,[p]=>([],[p])
 |s,p::q::r=>if 2*s<tot then (p::(cy k tot (s+jw k p) (q::r)).1,(cy k tot (s+jw k p) (q::r)).2) else ([],p::q::r)
theorem p9 (k tot:Nat):∀(l:List (Tx×E k)) (s:Nat),(cy k tot s l).1++(cy k tot s l).2=l
 |[],_=>rfl
 |[_],_=>rfl
 |p::q::r,s=>by
  unfold cy
  split
  ·show p::(_++_)=_;rw[p9 k tot (q::r)]
  ·rfl
theorem m8 (k tot:Nat):∀(l:List (Tx×E k)) (s:Nat),l≠[]->(cy k tot s l).2≠[]
 |[],_,h=>absurd rfl h
 |[_],_,_=>by simp[cy]
 |p::q::r,s,_=>by
  unfold cy
  split
  ·exact m8 k tot (q::r) _ (by simp)
  ·simp
theorem vH (k tot M:Nat):∀(l:List (Tx×E k)) (s:Nat),(∀p∈l,jw k p<=M)->2*s<tot+2*M->2*(s+sz k (cy k tot s l).1)<tot+2*M
 |[],s,_,h=>by simpa[cy,sz] using h
 |[_],s,_,h=>by simpa[cy,sz] using h
 |p::q::r,s,hM,h=>by
  unfold cy
  split
  ·rename_i a;have hp:=hM p aE;have:=vH k tot M (q::r) (s+jw k p) (fun x H=>hM x (aI _ H)) (by omega);show 2*(s+(jw k p+_))<_;omega
  ·simpa[sz] using h
theorem tV (k tot M:Nat):∀(l:List (Tx×E k)) (s:Nat),(∀p∈l,jw k p<=M)->s+sz k l=tot->2*sz k (cy k tot s l).2<=tot\/sz k (cy k tot s l).2<=M
 |[],_,_,_=>dn (aB _)
 |[p],_,hM,_=>dn (by have:=hM p aE;simpa[cy,sz] using this)
 |p::q::r,s,hM,h=>by
  unfold cy
  split
  ·exact tV k tot M (q::r) (s+jw k p) (fun x H=>hM x (aI _ H)) (by rw[sz] at h;omega)
  ·grind
theorem m9 (k tot:Nat) (l:List (Tx×E k)) (h:sz k l=tot) (H:∀p∈l,jw k p<=510) (a:510<tot):(cy k tot 0 l).1≠[]:=by
 cases l with
 |nil=>rw[sz] at h;omega
 |cons p l=>
  cases l with
  |nil=>
   have:=H p aE;simp only[sz] at h;omega
  |cons q r=>unfold cy;rw[if_pos (by omega)];simp
structure QE (k:Nat) where
 low:E (k+1)
 key:Tx
 up:E (k+1)
def qW {α:Type} (l:List (Tx×α)):Tx:=match l.getLast? with|none=>[]|some a=>a.1
def cj {α:Type} (l:List (Tx×α)):Tx:=match l with|[]=>[]|a::_=>a.1
def part (k:Nat) (n:E (k+1)):QE k:=
 ⟨mk ⟨(hd n).page,true⟩ (cy k (sz k (its n)) 0 (its n)).1,
  if k=0 then cI (qW (cy k (sz k (its n)) 0 (its n)).1) (cj (cy k (sz k (its n)) 0 (its n)).2) else cj (cy k (sz k (its n)) 0 (its n)).2,
  mk ⟨av,true⟩ (if k=0 then (cy k (sz k (its n)) 0 (its n)).2 else bH [] (cy k (sz k (its n)) 0 (its n)).2)⟩
structure Ee (k:Nat) (lo:Tx) (h:Option Tx) (n:E (k+1)) (s:QE k):Prop where
 low:Ok (k+1) lo (aD s.key) s.low
 up:Ok (k+1) s.key h s.up
 len:s.key.length<=96
 cut:cut (k+1) s.low s.key s.up
 cB:cB k (its s.low)++cB k (its s.up)=cB k (its n)
 ck:ck (k+1) s.low++ck (k+1) s.up=ck (k+1) n
 old:Old (k+1) n->Old (k+1) s.low
 fy:fy (k+1) s.low+fy (k+1) s.up=fy (k+1) n+1
theorem dB.lens {α:Type} {O:Tx->Option Tx->α->Prop} {C:α->Tx->α->Prop} {h:Option Tx}:∀{a:Tx×α} {l:List (Tx×α)},dB O C h (a::l)->∀p∈l,p.1.length<=96
 |_,[],_,_,hp=>by cases hp
 |_,b::r,hs,p,hp=>by
  rcases aX.1 hp with rfl|hp;·exact hs.2.1.2.1
  ·exact dB.lens (a:=b) hs.2.2 p hp
theorem dB.each {α:Type} {O:Tx->Option Tx->α->Prop} {C:α->Tx->α->Prop} {h:Option Tx}:∀{l:List (Tx×α)},dB O C h l->∀p∈l,∃u,O p.1 u p.2
 |[],_,_,hp=>by cases hp
 |[a],hs,p,hp=>by rw[cQ.1 hp];exact⟨_,hs⟩
 |a::b::r,hs,p,hp=>by
  rcases aX.1 hp with rfl|hp;·exact⟨_,hs.1⟩
  ·exact dB.each (l:=b::r) hs.2.2 p hp
theorem Rw.size {k:Nat} {lo:Tx} {h:Option Tx} {l:List (Tx×E k)} (w:Rw k lo h l):∀p∈l,jw k p<=154:=by
 intro p hp;obtain⟨h3,h4⟩:=w;cases l with
 |nil=>cases hp
 |cons a r=>
  have ha:=h3 a rfl;unfold r9 at h4;cases k with
  |zero=>
   rw[if_pos rfl] at ha h4;obtain⟨u,hu⟩:=h4.each p hp;have hl:p.1.length<=96:=by
    rcases aX.1 hp with rfl|hp;·exact ha.2
    ·exact h4.lens p hp
   have:=hu.1;unfold jw;omega
  |succ k=>
   rw[if_neg (dy _)] at ha h4;rw[eC];have hl:p.1.length<=96:=by
    rcases aX.1 hp with rfl|hp;·grind
    ·exact dB.lens (a:=(lo,a.2)) h4 p hp
   omega
theorem qX {α:Type} (A:List (Tx×α)) (a:Tx×α):qW (A++[a])=a.1:=by unfold qW;rw[cN]
theorem oZ (k:Nat) {lo:Tx} {h:Option Tx} {n:E (k+1)} (o:iP k lo h n) (f:510<sz k (its n)):Ee k lo h n (part k n):=by
 have g:=o.2.size;have H:=p9 k (sz k (its n)) (its n) 0;have i:its n≠[]:=by intro e;rw[e] at f;exact absurd f (by simp[sz])
 have hu:=m8 k (sz k (its n)) (its n) 0 i;have hl:=m9 k _ (its n) rfl (fun p hp=>by have:=g p hp;omega) f;have s1:=vH k (sz k (its n)) 154 (its n) 0 g (by omega);have s2:=tV k (sz k (its n)) 154 (its n) 0 g (by omega);have d:=ep k (cy k (sz k (its n)) 0 (its n)).1 (cy k (sz k (its n)) 0 (its n)).2;rw[H] at d;have j:=o.1;obtain⟨l,O⟩:=o.2;unfold part;generalize cy k (sz k (its n)) 0 (its n)=s at*;obtain⟨L,U⟩:=s;simp only at H hu hl s1 s2 d |-;obtain⟨A,a,rfl⟩:=dR hl;cases U with
 |nil=>exact absurd rfl hu
 |cons b B=>
  rw[qX];have Y:∀p,(A++[a]).head?=aD p->(its n).head?=aD p:=by grind
  cases k with
  |zero=>
   simp only[if_pos];unfold r9 at O;rw[if_pos rfl,<-H,aF] at O;obtain⟨T,t,m⟩:=dB.append.1 O;obtain⟨K,r,u⟩:=tU t.1;show Ee 0 lo h n ⟨_,cI a.1 b.1,_⟩;generalize cI a.1 b.1=x at K r u;refine⟨⟨?_, ?_, ?_, ?_⟩,⟨?_, ?_, ?_, ?_⟩,by have:=t.2.1;show x.length<=96;omega, ?_, ?_, ?_, ?_, ?_⟩;·rw[its_mk];exact hl
   ·simp_all;omega
   ·intro p hp;exact l p (Y p hp)
   ·show dB (Ok 0) (cut 0) (aD x) (A++[a]);exact dB.ij (x:=a.2) T ⟨T.last.1,r⟩ (fun _ _ h=>h)
   ·rw[its_mk];simp
   ·simp_all;omega
   ·intro p hp;rw[its_mk] at hp;cases hp;rw[if_pos rfl];exact⟨K,t.2.1⟩
   ·exact m
   ·simp_all[sz,uG]
   ·rw[its_mk,its_mk,<-H];rfl
   ·have c:=bU 0 (A++[a]) (b::B);rw[bC,bC,bC,<-H,c,aF];rfl
   ·intro q;exact⟨q.1,fun _ _=>trivial⟩
   ·have c:=cH 0 (A++[a]) (b::B);rw[bX,bX,bX,<-H,c];show (if (hd n).page.isSome=true then 0 else 1)+kK 0 (A++[a])+(1+kK 0 (b::B))=_;omega
  |succ k=>
   rw[if_neg (dy _),if_neg (dy _)];unfold r9 at O;rw[if_neg (dy _),<-H] at O;obtain⟨v,y,R,_⟩:=j8 lo A a;rw[fD _ _ _ hl,R,aF] at O;obtain⟨T,t,m⟩:=dB.append.1 O;have w:=KV (k+1) [] b B;show Ee (k+1) lo h n ⟨_,b.1,_⟩;refine⟨⟨?_, ?_, ?_, ?_⟩,⟨?_, ?_, ?_, ?_⟩,t.2.1, ?_, ?_, ?_, ?_, ?_⟩;·rw[its_mk];exact hl
   ·rw[its_mk];omega
   ·intro p hp;exact l p (Y p hp)
   ·simp_all[r9]
   ·simp_all
   ·simp_all;omega
   ·intro p hp;rw[its_mk] at hp;cases hp;rw[if_neg (dy _)]
   ·simp_all[r9]
   ·simp_all[uH];omega
   ·rw[its_mk,its_mk,jQ,<-bT,H]
   ·have c:=bU (k+1) (A++[a]) (b::B);rw[bC,bC,bC,<-H,c,aF];rfl
   ·intro q;refine⟨q.1,fun p hp=>q.2 p (Y p ?_)⟩;rw[its_mk] at hp;exact hp
   ·have c:=cH (k+1) (A++[a]) (b::B);rw[bX,bX,bX,<-H,c];show (if (hd n).page.isSome=true then 0 else 1)+kK (k+1) (A++[a])+(1+kK (k+1) (b::B))=_;omega
end Tr
namespace Bl
open Wl (Text)
open Rm
theorem Iq (x:Option Text) (pg:List (Option Text)):used (x::pg)=x.isSome.toNat+used pg:=by
 unfold used;cases x;·rw[cW,if_neg (by decide)];show _=0+_;omega
 ·rw[cW,if_pos (show (aD _:Option Text).isSome=true from rfl),a_];show _=1+_;omega
theorem lg:∀{pg:List (Option Text)},used pg<pg.length->∃p,firstFree pg=aD p
 |[],h=>absurd h (Nat.not_lt_zero _)
 |none::pg,_=>⟨0,rfl⟩
 |some t::pg,h=>by
  obtain⟨p,hp⟩:=lg (pg:=pg) (by
   rw[Iq,a_] at h;have:(aD t:Option Text).isSome.toNat=1:=rfl;omega)
  exact⟨p+1,by show (firstFree pg).map (· +1)=_;rw[hp];rfl⟩
end Bl
section
open Go.RowKit Lib
theorem lp (s:ByteArray) (k:Nat) (h:k<s.size):s.data.toList.getD k 0=s[k]:=by rw[bZ,aK (by rw[bk];exact h),Option.getD_some];rfl
theorem Ef (a b:Nat) (h:a|||b<9223372036854775808) (ha:a<18446744073709551616) (H:b<18446744073709551616):bits .or cu (a:Int) (b:Int)=((a|||b:Nat):Int):=by
 show IntKind.i64.wrap ((BitVec.ofInt 64 (a:Int)|||BitVec.ofInt 64 (b:Int)).toNat:Int)=_;rw[BitVec.toNat_or,ofInt_u64 a ha,ofInt_u64 b H];generalize a|||b=c at*
 have e:(c:Int)%2^64=c:=Int.emod_eq_of_lt (by omega) (by omega);simp only[IntKind.wrap,IntKind.bits,IntKind.signed,e];rw[if_neg];simp;omega
theorem cX (n:Nat) (h:n<9223372036854775808):IntKind.i64.wrap (n:Int)=(n:Int):=by have e:(n:Int)%2^64=n:=Int.emod_eq_of_lt (by omega) (by omega);simp only[IntKind.wrap,IntKind.bits,IntKind.signed,e];rw[if_neg];simp;omega
theorem Ux (a b n:Nat) (h:b<2^n):a*2^n|||b=a*2^n+b:=by rw[show a*2^n=a<<<n from by rw[Nat.shiftLeft_eq],<-Nat.shiftLeft_add_eq_or_of_lt h]
theorem Eg (a b:UInt8):bits .or cu (IntKind.i64.wrap (IntKind.i64.wrap (a.toNat:Int)*256)) (IntKind.i64.wrap (b.toNat:Int))=((a.toNat*256+b.toNat:Nat):Int):=by
 have ha:=a.toNat_lt;have h:=b.toNat_lt;have e:a.toNat*256|||b.toNat=a.toNat*256+b.toNat:=Ux _ _ 8 h
 rw[cX b.toNat (by omega),cX a.toNat (by omega),show (a.toNat:Int)*256=((a.toNat*256:Nat):Int) by omega,cX (a.toNat*256) (by omega),Ef _ _ (by rw[e];omega) (by omega) (by omega),e]
theorem KY (w:World) (g c:Nat) (l:List UInt8) (h:aU w g 5 (l.map bV)):(convert 94 9 (cx (aD ⟨g,0,av⟩) l.length c)).run Tryz.prog w=.ok (bR (bs l)) w:=by
 exact run_convert_bytes_back (P:=Tryz.prog) w 94 9 5 ⟨g,0,av⟩ c l (by kernel_rfl) (by kernel_rfl) (by kernel_rfl) (by
  intro j H;rw[show (⟨g,0,av⟩:Addr).add j=⟨g,j,av⟩ by unfold Addr.add;split<;>simp_all];refine h.cell ?_;rw[cD,aK H];rfl)
section
variable {w w':World} {p q:Nat} {n m:NV}
theorem lq (h:Nd w p n) (hs:KS n.its) (key:List UInt8):
  Calls Tryz.prog 52 #[ptr p,bR (bs key)] w fun e w'=>e=eb (gu #[bf cu (posOf n.its key),eX (eD n.its key)])/\Below w.heap.size w w':=by
 have c1:=h.c1;have H:=aa (BS w n.rg n.ro n.cap n.its h.row h.small.len hs key);clear h;go_enter Tryz.func52,Tryz.ntmps52;unfold ptr;go_wp2_with fail;refine H.o.mono ?_;rintro e w1 ⟨rfl,b⟩;go_wp2
 go_ret2
 exact⟨rfl,b⟩
theorem Eh (p:Nat) (h:w.cell? ⟨p,1,av⟩=aD (cx av 0 0)) (key:List UInt8):
  Calls Tryz.prog 52 #[ptr p,bR (bs key)] w fun e w'=>e=eb (gu #[bf cu 0,eX false])/\Below w.heap.size w w':=by
 have H:Calls Tryz.prog 80 #[cx av 0 0,bR (bs key),.func (.func 81) #[] #[]] w fun e w'=>e=eb (gu #[bf cu 0,eX false])/\Below w.heap.size w w':=by
  go_enter Tryz.func80,Tryz.ntmps80;go_wp2
  go_loopw [9,10] (fun i j wr=>i=bf cu 0/\j=bf cu 0/\Hid (Below w.heap.size w wr)) (fun _ _ _=>0)
  case atStart=>exact⟨rfl,rfl,aa (Below.refl _ _)⟩
  case round=>
   obtain⟨rfl,rfl,a⟩:=hrel;go_wp2
   go_ret2
   exact⟨rfl,a.o⟩
 have x:=aa H;go_enter Tryz.func52,Tryz.ntmps52;unfold ptr;go_wp2_with fail;refine x.o.mono ?_;rintro e w1 ⟨rfl,b⟩;go_wp2
 go_ret2
 exact⟨rfl,b⟩
def tX (l:List It) (key:List UInt8):Int:=if eD l key then posOf l key else (posOf l key:Int)-1
theorem vI (h:Nd w p n) (hs:KS n.its) (key:List UInt8):
  Calls Tryz.prog 78 #[ptr p,bR (bs key)] w fun e w'=>e=eb (bf cu (tX n.its key))/\Below w.heap.size w w':=by
 have H:=aa (lq h hs key);have hp:=vF n.its key;have hl:=h.small.len;have B:(posOf n.its key:Int)<=400:=by omega
 unfold tX;clear h hs;generalize posOf n.its key=a at*;cases c:eD n.its key with
 |true=>rw[c] at H;go_enter Tryz.func78,Tryz.ntmps78;go_wp2_with fail;refine H.o.mono ?_;rintro e w1 ⟨rfl,b⟩;go_wp2;go_ret;exact⟨rfl,b⟩
 |false=>rw[c] at H;go_enter Tryz.func78,Tryz.ntmps78;go_wp2_with fail;refine H.o.mono ?_;rintro e w1 ⟨rfl,b⟩;go_wp2;go_ret;exact⟨rfl,b⟩
theorem qY {fn:Func} {p:Tmp} (h:fn.results=#[.cell p 125]) (tmps:Array Value) (w:World) (g:Nat) (x y:Value) (fr:Nat×Nat)
  (hp:tmps.getD p undef=.pointer (aD ⟨g,0,av⟩)) (hg:w.heap[g]?=aD (ey #[x,y] 125 fr)):
  (results fn tmps).run Tryz.prog w=.ok (.agg #[x,y]) w:=
 results_cell_row h tmps w g _ _ fr _ hp hg Tryz.underlying125 rfl (by kernel_rfl)
theorem ng (w:World) (x y:Obj):((w.alloc x).alloc y).heap[w.heap.size]?=aD x:=by rw[Below.heap_alloc _ _ _ (by simp only[aS];omega)];exact heap_alloc_new w x
def eW (n:NV) (j:Nat):List UInt8:=if j=0 then n.lo else (n.its.map It.key).getD j []
def eu (n:NV) (j:Nat):List UInt8:=if j+1<n.its.length then (n.its.map It.key).getD (j+1) [] else n.hi
theorem BU (h:Nd w p n) (j:Nat) (i:j<n.its.length):
  Calls Tryz.prog 170 #[ptr p,bf cu j] w fun e w'=>e=eb (iK #[bR (bs (eW n j)),bR (bs (eu n j))])/\Below w.heap.size w w':=by
 have c1:=h.c1;have c3:=h.c3;have c4:=h.c4;have D:=h.blk.lt;have k:=uF h.row i;obtain⟨s1,s2,s⟩:=bh h.row j i;have hl:=h.small.len;have I:(j:Int)<n.its.length:=by omega
 have J:(n.its.length:Int)<=400:=by omega
 obtain⟨L,a⟩:∃x,x=bs (eW n j):=⟨_,rfl⟩;obtain⟨g,b⟩:∃x,x=bs (eu n j):=⟨_,rfl⟩;rw[<-a,<-b];have d:=aa (And.intro a b);clear a b;by_cases q:0<j
 ·have T:(0:Int)<j:=by omega
  have f:=aa (show L=bs n.its[j].key by rw[d.o.1];unfold eW;rw[if_neg (by omega),bZ,cD,aK i];rfl);by_cases H:j+1<n.its.length;·have Q:(j:Int)+1<n.its.length:=(by omega);obtain⟨t,l,m⟩:=bh h.row (j+1) H;have c:=aa (show g=bs n.its[j+1].key by rw[d.o.2];unfold eu;rw[if_pos H,bZ,cD,aK H];rfl);clear h;go_enter Tryz.func170,Tryz.ntmps170;unfold ptr;go_wp2;refine bodyPost_ret (qY rfl _ _ w.heap.size _ _ _ rfl (ng w _ _)) rfl ?_;exact⟨by rw[f.o,c.o],((Below.refl _ w).alloc (ah _) _).alloc (by simp only[aS];omega) _⟩
  ·have Q:¬(j:Int)+1<n.its.length:=(by omega);have c:=aa (show g=bs n.hi by rw[d.o.2];unfold eu;rw[if_neg H]);clear h;go_enter Tryz.func170,Tryz.ntmps170;unfold ptr;go_wp2;refine bodyPost_ret (qY rfl _ _ w.heap.size _ _ _ rfl (ng w _ _)) rfl ?_;exact⟨by rw[f.o,c.o],((Below.refl _ w).alloc (ah _) _).alloc (by simp only[aS];omega) _⟩
 ·have T:¬(0:Int)<j:=by omega
  have f:=aa (show L=bs n.lo by rw[d.o.1];unfold eW;rw[if_pos (by omega)]);by_cases H:j+1<n.its.length;·have Q:(j:Int)+1<n.its.length:=(by omega);obtain⟨t,l,m⟩:=bh h.row (j+1) H;have c:=aa (show g=bs n.its[j+1].key by rw[d.o.2];unfold eu;rw[if_pos H,bZ,cD,aK H];rfl);clear h;go_enter Tryz.func170,Tryz.ntmps170;unfold ptr;go_wp2;refine bodyPost_ret (qY rfl _ _ w.heap.size _ _ _ rfl (ng w _ _)) rfl ?_;exact⟨by rw[f.o,c.o],((Below.refl _ w).alloc (ah _) _).alloc (by simp only[aS];omega) _⟩
  ·have Q:¬(j:Int)+1<n.its.length:=(by omega);have c:=aa (show g=bs n.hi by rw[d.o.2];unfold eu;rw[if_neg H]);clear h;go_enter Tryz.func170,Tryz.ntmps170;unfold ptr;go_wp2;refine bodyPost_ret (qY rfl _ _ w.heap.size _ _ _ rfl (ng w _ _)) rfl ?_;exact⟨by rw[f.o,c.o],((Below.refl _ w).alloc (ah _) _).alloc (by simp only[aS];omega) _⟩
theorem KZ (W:World) (g:Nat) (a b:UInt8) (h:aU W g 5 [bf gx (a.toNat:Int),bf gx (b.toNat:Int)]):(convert 94 9 (cx (aD ⟨g,0,av⟩) 2 2)).run Tryz.prog W=.ok (bR (bs [a,b])) W:=KY W g 2 [a,b] h
def pv (p:Nat):List UInt8:=[bz (p/256),bz (p%256)]
theorem gd (w:World) (p:Nat) (hp:p<65536):
  Calls Tryz.prog 179 #[bf cu p] w fun e w'=>e=eb (bR (bs (pv p)))/\Below w.heap.size w w':=by
 have B:(p:Int)<65536:=by omega
 have h:((bz (p/256)).toNat:Int)=(p:Int)/256:=by rw[eF];omega
 have hx2:((bz (p%256)).toNat:Int)=(p:Int)%256:=by rw[eF];omega
 obtain⟨R,H⟩:∃R,R=bs (pv p):=⟨_,rfl⟩;have hc:(convert 94 9 (cx (aD ⟨w.heap.size,0,av⟩) 2 2)).run Tryz.prog (w.alloc (ey #[bf gx ((p:Int)/256),bf gx ((p:Int)%256)] 5))=.ok (bR R) (w.alloc (ey #[bf gx ((p:Int)/256),bf gx ((p:Int)%256)] 5)):=by rw[H];exact KZ _ w.heap.size (bz (p/256)) (bz (p%256)) (by rw[h,hx2];exact aU.new w _ _)
 rw[<-H];clear h hx2 H;go_enter Tryz.func179,Tryz.ntmps179;go_wp2;go_ret;exact⟨rfl,(Below.refl _ w).alloc (ah _) _⟩
theorem Ei (w:World) (s:ByteArray) (hs:s.size=2):
  Calls Tryz.prog 169 #[bR s] w fun e w'=>e=eb (bf cu ((s.data.toList.getD 0 0).toNat*256+(s.data.toList.getD 1 0).toNat:Nat))/\Below w.heap.size w w':=by
 have h4:0<s.size:=by omega
 have a:1<s.size:=by omega
 obtain⟨N,h⟩:∃N,N=(s.data.toList.getD 0 0).toNat*256+(s.data.toList.getD 1 0).toNat:=⟨_,rfl⟩;have hA:N=s[0].toNat*256+s[1].toNat:=by rw[h,lp s 0 h4,lp s 1 a]
 rw[<-h];have b:=aa (show _=(N:Int) from (Eg s[0] s[1]).trans (congrArg _ hA.symm))
 have H:=aa (show IntKind.i64.wrap (s[0].toNat:Int)=s[0].toNat/\IntKind.i64.wrap (s[1].toNat:Int)=s[1].toNat/\IntKind.i64.wrap ((s[0].toNat:Int)*256)=(s[0].toNat:Int)*256 from⟨cX _ (by have:=s[0].toNat_lt;omega),cX _ (by have:=s[1].toNat_lt;omega),by
  have:=cX (s[0].toNat*256) (by have:=s[0].toNat_lt;omega)
  rwa [show ((s[0].toNat*256:Nat):Int)=(s[0].toNat:Int)*256 by omega] at this⟩)
 clear h hA;go_enter Tryz.func169,Tryz.ntmps169;go_wp2_with (refine wp_region_any (by kernel_rfl) ?_;refine Hid.o ?_);refine aa ?_;try (change wpAny _ _ _ _ _ _ _ (bJ _))
 refine tk 0 ?_;refine tk 1 ?_;refine tk 2 ?_;refine tk 3 ?_;refine tk 4 ?_;refine tk 5 ?_;refine tk 6 ?_;refine tk 7 ?_;refine tk 8 ?_;refine wpAny_done (by kernel_rfl) ?_ _;simp only[b.o];simp only[H.o.1,H.o.2.1,H.o.2.2];try simp only[Act.put,aA,az,ay]
 go_wp2;go_ret;exact⟨rfl,(Below.refl _ w).drew⟩
theorem OE (p:Nat) (hp:p<65536):((bs (pv p)).data.toList.getD 0 0).toNat*256+((bs (pv p)).data.toList.getD 1 0).toNat=p:=by rw[bS];show (bz (p/256)).toNat*256+(bz (p%256)).toNat=p;rw[eF,eF];omega
theorem Ej (w:World) (p:Nat) (hp:p<65536):
  Calls Tryz.prog 169 #[bR (bs (pv p))] w fun e w'=>e=eb (bf cu p)/\Below w.heap.size w w':=by
 have:=Ei w (bs (pv p)) (by rw[aP];rfl)
 rwa [OE p hp] at this
theorem Tr.xZ (c a b:List UInt8):Tr.cI (c++a) (c++b)=c++Tr.cI a b:=by
 induction c with
 |nil=>rfl
 |cons x c i=>show (if x=x then x::Tr.cI (c++a) (c++b) else [x])=_;rw[if_pos rfl,i];rfl
theorem Tr.OG (c a b:List UInt8):Tr.lt (c++a) (c++b)=Tr.lt a b:=by
 induction c with
 |nil=>rfl
 |cons x c i=>show (decide (x<x)||(x==x&&Tr.lt (c++a) (c++b)))=_;rw[i];simp
theorem BV {a b:List UInt8} {k:Nat} (h:Tr.lt a b=true) (_:k<=a.length) (e:a.take k=b.take k):
  ∃c:k<b.length,(∀ha:k<a.length,a[k]=b[k]->a.take (k+1)=b.take (k+1))/\((∀ha:k<a.length,a[k]≠b[k])->Tr.cI a b=b.take (k+1)):=by
 have E:a=a.take k++a.drop k:=(cP k a).symm;have d:b=a.take k++b.drop k:=by rw[e];exact (cP k b).symm
 have hd:Tr.lt (a.drop k) (b.drop k)=true:=by
  rw[E,d,Tr.OG] at h;have i:(List.take k a++List.drop k a).drop k=a.drop k:=by rw[<-E]
  exact h
 have c:k<b.length:=by
  rcases Nat.lt_or_ge k b.length with H|H;·exact H
  ·rw[List.drop_eq_nil_of_le H] at hd;cases a.drop k<;>simp[Tr.lt] at hd
 refine⟨c,fun ha g=> ?_,fun hn=> ?_⟩;·rw[cC ha,cC c,e,g]
 ·have es:Tr.cI a b=a.take k++Tr.cI (a.drop k) (b.drop k):=by
   conv=>lhs;rw[E,d]
   exact Tr.xZ _ _ _
  rw[es,cC c,<-e,cw c];congr 1;rcases Nat.lt_or_ge k a.length with H|H;·rw[cw H];show (if a[k]=b[k] then _ else [b[k]])=_;rw[if_neg (hn H)]
  ·rw[List.drop_eq_nil_of_le H];rfl
theorem qZ (w:World) (a b:List UInt8) (h:Tr.lt a b=true) (ha:a.length<=1000000) (K:b.length<=1000000):
  Calls Tryz.prog 177 #[bR (bs a),bR (bs b)] w fun e w'=>e=eb (bR (bs (Tr.cI a b)))/\Below w.heap.size w w':=by
 have v:(bs a).size=a.length:=aP _;have z:(bs b).size=b.length:=aP _;have N:(a.length:Int)<=1000000:=by omega
 have L:(b.length:Int)<=1000000:=by omega
 have q:=aa (fun n=>j6 (bs b) n);have A:=aa (fun (k:Nat) (g:k<(bs a).size)=>(lp (bs a) k g).symm);have B:=aa (fun (k:Nat) (g:k<(bs b).size)=>(lp (bs b) k g).symm);have G:=aa h;obtain⟨R,r⟩:∃R,R=Tr.cI a b:=⟨_,rfl⟩;rw[<-r];have C:=aa r;clear r h;obtain⟨x,i⟩:∃x,x=bs a:=⟨_,rfl⟩;obtain⟨y,hy⟩:∃y,y=bs b:=⟨_,rfl⟩;rw[<-i] at v A |-;rw[<-hy] at z q B |-;have j:=aa (And.intro i hy);clear i hy;go_enter Tryz.func177,Tryz.ntmps177;go_wp2
 go_loopw [5] (fun I wr=>∃k:Nat,k<=a.length/\I=bf cu k/\Hid (a.take k=b.take k)/\Hid (Below w.heap.size w wr)) (fun I _=>a.length-(RowKit.intOf I).toNat)
 case atStart=>exact⟨0,aB _,rfl,aa rfl,aa (Below.refl _ _)⟩
 case round=>
  obtain⟨k,g,rfl,J,c⟩:=hrel;obtain⟨d,s,p⟩:=BV G.o g J.o;have U:(k:Int)<b.length:=by omega
  have hy:k<y.size:=by rw[z];exact d
  by_cases H:k<a.length
  ·have Y:(k:Int)<a.length:=(by omega);have i:k<x.size:=(by rw[v];exact H);have E:x[k]=a[k]:=(by have:=A.o k i;rw[this,j.o.1,bS,bZ,aK H];rfl);have D:y[k]=b[k]:=(by have:=B.o k hy;rw[this,j.o.2,bS,bZ,aK d];rfl);have l:=aa (s H);have m:=aa (fun (hn:a[k]≠b[k])=>p fun _=>hn);clear s p;rw[<-E,<-D] at l m;clear E D;have F:=aa (And.intro H d);by_cases f:x[k]=y[k]
   ·have P:=aa (l.o f);have t:(x[k].toNat:Int)=y[k].toNat:=(by rw[f]);clear f l m;go_wp2_with fail
    go_quiet (fail)
    go_wp2;go_roundw
    case rel=>exact⟨k+1,F.o.1,by go_num,P,aa (c.o.trans ⟨rfl,rfl,rfl,ah _,fun _ _=>rfl⟩)⟩
    case measure=>have:=F.o;simp[RowKit.intOf];omega
   ·have P:=aa (m.o f);have t:¬(x[k].toNat:Int)=y[k].toNat:=fun e=>f (UInt8.toNat_inj.1 (by omega));have u:=aa (show y.extract 0 (k+1)=bs R by rw[C.o,P.o,q.o,j.o.2,bS]);clear f l m;go_wp2_with fail
    go_quiet (fail)
    go_wp2;go_ret;exact⟨by rw[<-u.o];rfl,c.o.trans ⟨rfl,rfl,rfl,ah _,fun _ _=>rfl⟩⟩
  ·have Y:¬(k:Int)<a.length:=(by omega);have P:=aa (p fun h=>absurd h H);have u:=aa (show y.extract 0 (k+1)=bs R by rw[C.o,P.o,q.o,j.o.2,bS]);clear s p;go_wp2_with fail
   go_quiet (fail)
   go_wp2;go_ret;exact⟨by rw[<-u.o];rfl,c.o.trans ⟨rfl,rfl,rfl,ah _,fun _ _=>rfl⟩⟩
theorem Ek (h:Nd w p n):
  Calls Tryz.prog 94 #[ptr p] w fun e w'=>e=eb (if n.level=0 then cx (aD ⟨n.rg,n.ro,av⟩) n.its.length n.cap else cx av 0 0)/\w'=w:=by
 have c0:=h.c0;have c1:=h.c1;by_cases hl:n.level=0
 ·have j:¬(0:Int)<n.level:=by omega
  rw[if_pos hl];clear h hl;go_enter Tryz.func94,Tryz.ntmps94;unfold ptr;go_wp2;go_ret;exact⟨rfl,rfl⟩
 ·have j:(0:Int)<n.level:=by omega
  rw[if_neg hl];clear h hl;go_enter Tryz.func94,Tryz.ntmps94;unfold ptr;go_wp2;go_ret;exact⟨rfl,rfl⟩
end
end
end Go.Proofs.YtlpfhjbpknbndaaGreatDoor
