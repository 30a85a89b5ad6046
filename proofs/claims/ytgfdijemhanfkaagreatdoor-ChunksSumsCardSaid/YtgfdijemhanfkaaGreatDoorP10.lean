/- Elder texts, cut down and merged (10). -/
import Derived.Test.YtgfdijemhanfkaaGreatDoorP9
import Derived.Test.YtgfdijemhanfkaaGreatDoorP4
import Derived.Test.YtgfdijemhanfkaaGreatDoorP6
import Derived.Lib.Bytealg
import Derived.Lib.Strings
import Derived.Lib.Walk
import Derived.Laws.ResultCell
import Derived.BigQuiet
import Derived.Test.YtgfdijemhanfkaaGreatDoorPTk
set_option maxRecDepth 100000
set_option maxHeartbeats 8000000
namespace Go.Proofs.YtgfdijemhanfkaaGreatDoor
open _root_.Go.Proofs.Tryz
open Value renaming bool→ey,string→cu,agg→eU,int→bf,pointer→dr,slice→cx,tuple→ec
open Ending renaming returned→c8
open IntKind renaming i64→ct,u8→eD
open Option renaming none→aK,some→av
open Obj renaming cells→dg
open List renaming take_append_drop->b_,length_take->aJ,drop_eq_getElem_cons->cE,append_nil->bh,drop_eq_nil_of_le->gj,pairwise_iff_getElem->gh,getElem?_eq_getElem->aI,getD_eq_getElem?_getD->bC,getElem?_map->cY,setIfInBounds_toArray->aC,set_cons_succ->aB,set_cons_zero->ay,take_succ_eq_append_getElem->cz,length_append->aq,append_assoc->aD,length_pos_iff->d_,getElem_mem->bp
open Nat renaming lt_or_ge->ep,le_refl->af,zero_le->aA,mod_eq_of_lt->gF
open World renaming size_alloc->aY,drew->bu,block_lt_of_cell?->bA
open UInt8 renaming ofNat->az,toNat_ofNat'->bR
open _root_.Array renaming length_toList->aU
section
open Go.RowKit Lib
namespace Tr
theorem lt_eq:∀a b:List UInt8,Op.bytesLess a b=lt a b
 |[],[]=>rfl
 |_::_,[]=>rfl
 |[],_::_=>rfl
 |a::x,b::y=>by
  show (decide (a<b)||(a==b&&Op.bytesLess x y))=(decide (a<b)||(a==b&&lt x y));rw[lt_eq x y]
theorem sP:∀a b:List UInt8,Lib.compareBytes a b<0↔lt a b=true
 |[],[]=>by simp[Lib.compareBytes,lt]
 |_::_,[]=>by simp[Lib.compareBytes,lt]
 |[],_::_=>by simp[Lib.compareBytes,lt]
 |a::x,b::y=>by
  have i:=sP x y;unfold Lib.compareBytes lt;by_cases h:a<b;·simp[h]
  ·by_cases H:b<a;·have:¬a=b:=(by rintro rfl;exact h H);simp[h,H,this]
   ·have:a=b:=UInt8.le_antisymm (UInt8.not_lt.1 H) (UInt8.not_lt.1 h);subst this;simp[i,h]
theorem compare_eq:∀a b:List UInt8,Lib.compareBytes a b=0↔a=b
 |[],[]=>by simp[Lib.compareBytes]
 |_::_,[]=>by simp[Lib.compareBytes]
 |[],_::_=>by simp[Lib.compareBytes]
 |a::x,b::y=>by
  have i:=compare_eq x y;unfold Lib.compareBytes;by_cases h:a<b;·grind
  ·by_cases H:b<a;·have:¬a=b:=(by rintro rfl;exact h H);simp[h,H,this]
   ·have:a=b:=UInt8.le_antisymm (UInt8.not_lt.1 H) (UInt8.not_lt.1 h);subst this;simp[i,h]
end Tr
def QA (l:List It):Prop:=l.Pairwise fun a b=>Tr.lt a.key b.key=true
def posOf (l:List It) (key:List UInt8):Nat:=(l.takeWhile fun i=>Tr.lt i.key key).length
def eY (l:List It) (key:List UInt8):Bool:=match l[posOf l key]? with|some i=>decide (i.key=key)|none=>false
theorem zq (l:List It) (key:List UInt8):posOf l key<=l.length:=by grind [posOf,List.takeWhile_sublist]
theorem QB {l:List It} {key:List UInt8} {i:Nat} (hi:i<=l.length) (b:∀t (h:t<l.length),t<i->Tr.lt l[t].key key=true) (c:∀t (h:t<l.length),t=i->Tr.lt l[t].key key=false):posOf l key=i:=by
 have e:l=l.take i++l.drop i:=(b_ i l).symm;unfold posOf
 conv=>lhs;rw[e]
 rw[List.takeWhile_append_of_pos (by
  intro x d;obtain⟨t,f,rfl⟩:=List.mem_iff_getElem.1 d;rw[aJ] at f;rw[List.getElem_take];exact b t κ κ)]
 rcases ep i l.length with H|a;·rw[cE H,List.takeWhile_cons_of_neg (by rw[c i H rfl];simp),bh,aJ];omega
 ·rw[gj a,List.takeWhile_nil,bh,aJ];omega
theorem QC {l:List It} (h:QA l) {t s:Nat} (a:t<l.length) (hs:s<l.length) (b:t<=s):Tr.le l[t].key l[s].key:=by
 rcases ep t s with H|H;·exact Tr.le_of_lt (gh.1 h t s a hs H)
 ·have:t=s:=by omega
  subst this;exact Tr.le_refl _
section
variable {w w':World} {p q:Nat} {n m:NV}
theorem jL (h:Nd w p n):Calls prog 187 #[ptr p] w fun e w'=>e=c8 (ey (decide (cJ n.its<=510)))/\Below w.heap.size w w':=by
 have hs:=h.small.size;have a:=aa (iV h);clear h;obtain⟨b,H⟩:=ξx (decide (cJ n.its<=510));rw[<-H];have c:=aa H;clear H;generalize cJ n.its=s at*;have d:(s:Int)<=160800:=κ
 go_enter func187,ntmps187;go_wp2_with fail;refine a.o.mono ?_;rintro e w1 ⟨rfl,A⟩;go_wp2;go_ret;exact⟨by rw[c.o];congr 1;congr 1;simp;omega,A⟩
theorem mN (h:Nd w p n) (c:Nd w q m) (key:List UInt8) (y:key.length<=1000000):Calls prog 238 #[ptr p,ptr q,cu (bs key)] w fun e w'=>e=c8 (ey (decide (cJ n.its+cJ m.its+(if n.level=0 then 0 else key.length)<=510)))/\Below w.heap.size w w':=by
 have hs:=h.small.size;have K:=c.small.size;have c0:=h.c0;have t:=aa h;have u:=aa (iV h);have d:=aa c;have v:(bs key).size=key.length:=aG _;clear h c;obtain⟨b,f⟩:∃b,b=decide (cJ n.its+cJ m.its+(if n.level=0 then 0 else key.length)<=510):=⟨_,rfl⟩;rw[<-f];have l:=aa f;clear f;generalize bs key=k at*;obtain⟨s,H⟩:=ξx (cJ n.its);obtain⟨s2,X⟩:=ξx (cJ m.its);rw[<-H] at hs;rw[<-X] at K;have a:=aa (And.intro H X);clear H X;have z:(s:Int)<=160800:=κ
 have x:(s2:Int)<=160800:=κ
 have Y:(key.length:Int)<=1000000:=κ
 go_enter func238,ntmps238;unfold ptr;go_wp2_with fail;refine u.o.mono ?_;rintro e w1 ⟨rfl,A⟩;have g:=aa (And.intro (d.o.still A) A);rw[<-a.o.1];clear A;go_wp2_with fail;refine (iV g.o.1).mono ?_;rintro e W ⟨rfl,r⟩;rw[<-a.o.2];have i:=aa (g.o.2.trans (r.mono g.o.2.size));have C:=(t.o.still i.o).c0;clear r;by_cases hl:n.level=0
 ·have J:¬(0:Int)<n.level:=by omega
  have j:=aa hl;clear hl;go_wp2;go_ret;exact⟨by rw[l.o,if_pos j.o,<-a.o.1,<-a.o.2];congr 1;congr 1;simp;omega,i.o⟩
 ·have J:(0:Int)<n.level:=by omega
  have j:=aa hl;clear hl;go_wp2;go_ret;exact⟨by rw[l.o,if_neg j.o,<-a.o.1,<-a.o.2];congr 1;congr 1;simp;omega,i.o⟩
theorem ur (w:World) (lo hi key:List UInt8):Calls prog 154 #[eU #[cu (bs lo),cu (bs hi)],cu (bs key)] w fun e w'=>e=c8 (ey (!hi.isEmpty&& !Tr.lt key hi))/\Below w.heap.size w w':=by
 have H:(bs hi).toList=hi:=bN hi;have a:(bs key).toList=key:=bN key;rw[<-Tr.lt_eq];generalize bs lo=l;generalize bs hi=h at*;generalize bs key=k at*;rw[<-H,<-a];clear H a;go_enter func154,ntmps154;go_wp2;·rename_i e;go_ret;exact⟨zaF,(Below.refl _ w).alloc (af _) _⟩
 ·go_ret;exact⟨rfl,(Below.refl _ w).alloc (af _) _⟩
theorem qa (w:World) (lo hi key:List UInt8):Calls prog 105 #[eU #[cu (bs lo),cu (bs hi)],cu (bs key)] w fun e w'=>e=c8 (ey (!Tr.lt key lo&& !(!hi.isEmpty&& !Tr.lt key hi)))/\Below w.heap.size w w':=by
 have H:(bs lo).toList=lo:=bN lo;have a:(bs key).toList=key:=bN key;have c:=aa (fun W=>ur W lo hi key);generalize (!hi.isEmpty&& !Tr.lt key hi)=b at*;rw[<-Tr.lt_eq];generalize bs lo=l at*;generalize bs hi=h at*;generalize bs key=k at*;rw[<-H,<-a];clear H a;cases d:Op.bytesLess k.toList l.toList with
 |true=>go_enter func105,ntmps105;go_wp2;go_ret;exact⟨ν,(Below.refl _ w).alloc (af _) _⟩
 |false=>go_enter func105,ntmps105;go_wp2_with fail;refine (c.o _).mono ?_;rintro e w1 ⟨rfl,A⟩;have g:=aa ((Below.refl w.heap.size w).alloc (af _) _|>.trans (A.mono zbh));clear A;go_wp2;go_ret;exact⟨ν,g.o⟩
theorem Ja (a b:ByteArray) (w:World):
  Calls prog 185 #[cu a,cu b] w fun e w'=>e=c8 (bf ct (Lib.compareBytes a.data.toList b.data.toList))/\w'=w:=by
 go_enter func185,ntmps185;go_wp2;rw[run_callFunc_extern func235 η η η (e:=Extern.BytealgCompare.compare) η,Lib.run_compareString];simp only[Result.andThen];rw[Oper.upon_value];go_wp2;go_ret;exact⟨rfl,rfl⟩
theorem zu (a b:ByteArray) (w:World):
  Calls prog 134 #[cu a,cu b] w fun e w'=>e=c8 (bf ct (Lib.compareBytes a.data.toList b.data.toList))/\w'=w:=by
 go_enter func134,ntmps134;go_wp2_with fail;refine (Ja _ _ _).mono ?_;rintro e w' ⟨rfl,rfl⟩;go_wp2;go_ret;exact⟨rfl,rfl⟩
theorem sQ (a b:List UInt8):-1<=Lib.compareBytes a b/\Lib.compareBytes a b<=1:=by
 induction a generalizing b with
 |nil=>cases b<;>simp[Lib.compareBytes]
 |cons x a i=>
  cases b with
  |nil=>simp[Lib.compareBytes]
  |cons y b=>
   unfold Lib.compareBytes
   split
   ·omega
   ·grind
theorem MW (w:World) (k v key:List UInt8) (q:Option Addr):Calls prog 133 #[eU #[cu (bs k),cu (bs v),dr q],cu (bs key)] w fun e w'=>e=c8 (bf ct (Lib.compareBytes k key))/\Below w.heap.size w w':=by have H:(bs k).data.toList=k:=rfl;have d:(bs key).data.toList=key:=rfl;generalize bs k=a at*;generalize bs v=b at*;generalize bs key=c at*;obtain⟨z,h⟩:=ξx (Lib.compareBytes k key);have f:=aa (fun W:World=>zu a c W);rw[H,d,<-h] at f;rw[<-h];clear H d h;go_enter func133,ntmps133;go_wp2_with fail;refine (f.o _).mono ?_;rintro e w1 ⟨rfl,rfl⟩;go_wp2;go_ret;exact⟨rfl,(Below.refl _ w).alloc (af _) _⟩
theorem Fx (w:World) (g o cap:Nat) (l:List It) (hl:bg aj w g o l) (hn:l.length<=400) (hs:QA l) (key:List UInt8):
  Calls prog 132 #[cx (av ⟨g,o,aK⟩) l.length cap,cu (bs key),.func (.func 133) #[] #[]] w
   fun e w'=>e=c8 (ec #[bf ct (posOf l key),ey (eY l key)])/\Below w.heap.size w w':=by
 have X:(l.length:Int)<=400:=κ
 have O:=aa hl
 have R:=aa hs
 clear hl hs hn
 obtain⟨L,B⟩:=ξx l.length
 rw[<-B] at X |-
 have J:=aa B
 clear B
 obtain⟨P,C⟩:=ξx (posOf l key)
 obtain⟨T,D⟩:=ξx (eY l key)
 rw[<-C,<-D]
 have q:=aa (And.intro C D)
 clear C D
 have S:=aa (fun (W:World) (i:It)=>MW W i.key i.val key (pa i.node))
 generalize bs key=kk at*
 go_enter func132,ntmps132
 go_wp2
 go_loopw [9,10] (fun I E wr=>∃i j:Nat,i<=j/\j<=L/\I=bf ct i/\E=bf ct j/\Hid ((∀t (h:t<l.length),t<i->Tr.lt l[t].key key=true)/\∀t (h:t<l.length),j<=t->Tr.lt l[t].key key=false)/\Hid (Below w.heap.size w wr)) (fun I E _=>(RowKit.intOf E).toNat-(RowKit.intOf I).toNat)
 case atStart=>exact⟨0,L,aA _,af _,rfl,rfl,aa ⟨fun _ _ h=>absurd h (Nat.not_lt_zero _),fun t b p=>by have:=J.o;omega⟩,aa (Below.refl _ _)⟩
 case round=>
  obtain⟨i,j,r,U,rfl,rfl,x,c⟩:=hrel;by_cases F:i<j
  ·have Y:(i:Int)<j:=κ;have MX:(j:Int)<=400:=κ;have s:i<=(i+j)/2:=κ;have u:(i+j)/2<j:=κ;have K:(i+j)/2<l.length:=(by rw[<-J.o];omega);have ya:(((i+j)/2:Nat):Int)<L:=κ;have Z:((i:Int)+j)/2<L:=κ;have pY:0<=((i:Int)+j)/2:=κ;have A:=bt (eX O.o c.o) _ K;obtain⟨it,d⟩:=ξx (l[(i+j)/2]);rw[<-d] at A;obtain⟨A,a1,a2⟩:=A;have H:=aa (show i<=(i+j)/2/\(i+j)/2<j/\∃h:(i+j)/2<l.length,it=l[(i+j)/2] from⟨s,u,K,d⟩);have Q:=aa (sQ it.key key);obtain⟨z,f⟩:=ξx (Lib.compareBytes it.key key);have M:=aa (fun W=>S.o W it);rw[<-f] at M Q;have y:=aa f;have ES:=Q.o.1;have OP:=Q.o.2;clear K d s u f r;go_wp2_with fail;refine (M.o _).mono ?_;rintro e w1 ⟨rfl,v⟩;have G:=aa (c.o.trans (v.mono c.o.size));clear v;by_cases V:z<0
   ·have k:=aa ((Tr.sP _ _).1 (by rw[<-y.o];exact V));go_wp2;go_roundw
    case rel=>exact⟨(i+j)/2+1,j,by have:=H.o.2.1;omega,U,ς,rfl,aa ⟨fun t b p=>Tr.lt_of_le_of_lt (QC R.o b H.o.2.2.1 κ) (by rw[<-H.o.2.2.2];exact k.o),x.o.2⟩,G⟩
    case measure=>have:=H.o;simp[RowKit.intOf];omega
   ·have k:=aa (show Tr.lt it.key key=false by
     cases h:Tr.lt it.key key;·rfl
     ·exact absurd (by rw[y.o];exact (Tr.sP _ _).2 h) V)
    go_wp2;go_roundw
    case rel=>exact⟨i,(i+j)/2,H.o.1,by have:=H.o.2.1;omega,rfl,ς,aa ⟨x.o.1,fun t b p=>by
     cases h:Tr.lt l[t].key key;·rfl
     ·exact absurd (Tr.lt_of_le_of_lt (QC R.o H.o.2.2.1 b p) h) (by rw[<-H.o.2.2.2,k.o];simp)⟩,G⟩
    case measure=>have:=H.o;simp[RowKit.intOf];omega
  ·obtain rfl:i=j:=by omega
   have Y:¬(i:Int)<i:=κ;clear F r;have a:=aa (show P=i from q.o.1.trans (QB (by rw[<-J.o];exact U) (fun t b p=>x.o.1 t b p) (fun t b p=>x.o.2 t b κ)));by_cases m:i<L
   ·have QD:(i:Int)<L:=κ;have n:i<l.length:=(by rw[<-J.o];exact m);have A:=bt (eX O.o c.o) _ n
    have N:=aa (show T=decide (l[i].key=key) by
     rw[q.o.2];unfold eY;rw[<-q.o.1,a.o,aI n])
    generalize l[i]=it at*;obtain⟨A,a1,a2⟩:=A;obtain⟨z,f⟩:=ξx (Lib.compareBytes it.key key);have M:=aa (fun W=>S.o W it);rw[<-f] at M;have y:=aa (show decide (it.key=key)=(z==0) by rw[f,Bool.eq_iff_iff,decide_eq_true_eq,beq_iff_eq];exact (Tr.compare_eq _ _).symm);clear n m f;go_wp2_with fail;refine (M.o _).mono ?_;rintro e w1 ⟨rfl,v⟩;have G:=aa (c.o.trans (v.mono c.o.size));clear v;go_wp2
    go_ret2
    exact⟨by rw[a.o,N.o,y.o];rfl,G.o⟩
   ·have QD:¬(i:Int)<L:=by omega
    have N:=aa (show T=false by
     rw[q.o.2];unfold eY;rw[<-q.o.1,a.o,List.getElem?_eq_none (by rw[<-J.o];omega)])
    clear m;go_wp2
    go_ret2
    exact⟨by rw[a.o,N.o];rfl,c.o⟩
end
section
variable {w w':World} {p q:Nat} {n m:NV}
theorem mo (h:Nd w p n) (hs:QA n.its) (key:List UInt8):
  Calls prog 88 #[ptr p,cu (bs key)] w fun e w'=>e=c8 (ec #[bf ct (posOf n.its key),ey (eY n.its key)])/\Below w.heap.size w w':=by
 have c1:=h.c1;have H:=aa (Fx w n.rg n.ro n.cap n.its h.row h.small.len hs key);clear h;go_enter func88,ntmps88;unfold ptr;go_wp2_with fail;refine H.o.mono ?_;rintro e w1 ⟨rfl,a⟩;go_wp2
 go_ret2
 exact⟨rfl,a⟩
theorem Jb (p:Nat) (h:w.cell? ⟨p,1,aK⟩=av (cx aK 0 0)) (key:List UInt8):
  Calls prog 88 #[ptr p,cu (bs key)] w fun e w'=>e=c8 (ec #[bf ct 0,ey false])/\Below w.heap.size w w':=by
 have H:Calls prog 132 #[cx aK 0 0,cu (bs key),.func (.func 133) #[] #[]] w fun e w'=>e=c8 (ec #[bf ct 0,ey false])/\Below w.heap.size w w':=by
  go_enter func132,ntmps132;go_wp2
  go_loopw [9,10] (fun i j wr=>i=bf ct 0/\j=bf ct 0/\Hid (Below w.heap.size w wr)) (fun _ _ _=>0)
  case atStart=>exact⟨rfl,rfl,aa (Below.refl _ _)⟩
  case round=>
   obtain⟨rfl,rfl,a⟩:=hrel;go_wp2
   go_ret2
   exact⟨rfl,a.o⟩
 have x:=aa H;go_enter func88,ntmps88;unfold ptr;go_wp2_with fail;refine x.o.mono ?_;rintro e w1 ⟨rfl,A⟩;go_wp2
 go_ret2
 exact⟨rfl,A⟩
def xu (l:List It) (key:List UInt8):Int:=if eY l key then posOf l key else (posOf l key:Int)-1
theorem zv (h:Nd w p n) (hs:QA n.its) (key:List UInt8):
  Calls prog 130 #[ptr p,cu (bs key)] w fun e w'=>e=c8 (bf ct (xu n.its key))/\Below w.heap.size w w':=by
 have H:=aa (mo h hs key);have hp:=zq n.its key;have hl:=h.small.len;have X:(posOf n.its key:Int)<=400:=κ
 unfold xu;clear h hs;generalize posOf n.its key=a at*;cases b:eY n.its key with
 |true=>rw[b] at H;go_enter func130,ntmps130;go_wp2_with fail;refine H.o.mono ?_;rintro e w1 ⟨rfl,A⟩;go_wp2;go_ret;exact⟨rfl,A⟩
 |false=>rw[b] at H;go_enter func130,ntmps130;go_wp2_with fail;refine H.o.mono ?_;rintro e w1 ⟨rfl,A⟩;go_wp2;go_ret;exact⟨rfl,A⟩
theorem uu {fn:Func} {p:Tmp} (h:fn.results=#[.cell p 168]) (tmps:Array Value) (w:World) (g:Nat) (x y:Value) (fr:Nat×Nat)
  (hp:tmps.getD p undef=.pointer (av ⟨g,0,aK⟩)) (hg:w.heap[g]?=av (dg #[x,y] 168 fr)):
  (results fn tmps).run prog w=.ok (.agg #[x,y]) w:=
 results_cell_row h tmps w g _ _ fr _ hp hg underlying168 rfl η
theorem oO (w:World) (x y:Obj):((w.alloc x).alloc y).heap[w.heap.size]?=av x:=by rw[Below.heap_alloc _ _ _ zbh];exact heap_alloc_new w x
def fP (n:NV) (j:Nat):List UInt8:=if j=0 then n.lo else (n.its.map It.key).getD j []
def eM (n:NV) (j:Nat):List UInt8:=if j+1<n.its.length then (n.its.map It.key).getD (j+1) [] else n.hi
theorem zaf {G:Prop} (h:G:=by
 by_cases H:j+1<n.its.length;·have c:(j:Int)+1<n.its.length:=κ;obtain⟨t,T,m⟩:=bt h.row (j+1) H;have d:=aa (show i=bs n.its[j+1].key by rw[f.o.2];unfold eM;rw[if_pos H,bC,cY,aI H];rfl);clear h;go_enter func234,ntmps234;unfold ptr;go_wp2;refine bodyPost_ret (uu rfl _ _ w.heap.size _ _ _ rfl (oO w _ _)) rfl ?_;exact⟨by rw[g.o,d.o],((Below.refl _ w).alloc (af _) _).alloc zbh _⟩
 ·have c:¬(j:Int)+1<n.its.length:=κ;have d:=aa (show i=bs n.hi by rw[f.o.2];unfold eM;rw[if_neg H]);clear h;go_enter func234,ntmps234;unfold ptr;go_wp2;refine bodyPost_ret (uu rfl _ _ w.heap.size _ _ _ rfl (oO w _ _)) rfl ?_;exact⟨by rw[g.o,d.o],((Below.refl _ w).alloc (af _) _).alloc zbh _⟩):G:=h
theorem Fy (h:Nd w p n) (j:Nat) (k:j<n.its.length):
  Calls prog 234 #[ptr p,bf ct j] w fun e w'=>e=c8 (eU #[cu (bs (fP n j)),cu (bs (eM n j))])/\Below w.heap.size w w':=by
 have c1:=h.c1;have c3:=h.c3;have c4:=h.c4;have E:=h.blk.lt;have l:=yc h.row k;obtain⟨s1,s2,s⟩:=bt h.row j k;have hl:=h.small.len;have M:(j:Int)<n.its.length:=κ
 have J:(n.its.length:Int)<=400:=κ
 obtain⟨L,a⟩:∃x,x=bs (fP n j):=⟨_,rfl⟩;obtain⟨i,b⟩:∃x,x=bs (eM n j):=⟨_,rfl⟩;rw[<-a,<-b];have f:=aa (And.intro a b);clear a b;by_cases q:0<j
 ·have Z:(0:Int)<j:=by omega
  have g:=aa (show L=bs n.its[j].key by rw[f.o.1];unfold fP;rw[if_neg κ,bC,cY,aI k];rfl);exact zaf
 ·have Z:¬(0:Int)<j:=by omega
  have g:=aa (show L=bs n.lo by rw[f.o.1];unfold fP;rw[if_pos κ]);exact zaf
theorem QE (W:World) (g:Nat) (a b:UInt8) (h:aW W g 5 [bf eD (a.toNat:Int),bf eD (b.toNat:Int)]):(convert 151 9 (cx (av ⟨g,0,aK⟩) 2 2)).run prog W=.ok (cu (bs [a,b])) W:=Fi W g 2 [a,b] h
def pv (p:Nat):List UInt8:=[az (p/256),az (p%256)]
theorem gW (w:World) (p:Nat) (hp:p<65536):
  Calls prog 243 #[bf ct p] w fun e w'=>e=c8 (cu (bs (pv p)))/\Below w.heap.size w w':=by
 have X:(p:Int)<65536:=κ
 have h:((az (p/256)).toNat:Int)=(p:Int)/256:=zbk
 have hx2:((az (p%256)).toNat:Int)=(p:Int)%256:=zbk
 obtain⟨R,H⟩:=ξx (bs (pv p));have hc:(convert 151 9 (cx (av ⟨w.heap.size,0,aK⟩) 2 2)).run prog (w.alloc (dg #[bf eD ((p:Int)/256),bf eD ((p:Int)%256)] 5))=.ok (cu R) (w.alloc (dg #[bf eD ((p:Int)/256),bf eD ((p:Int)%256)] 5)):=by rw[H];exact QE _ w.heap.size (az (p/256)) (az (p%256)) (by rw[h,hx2];exact aW.new w _ _)
 rw[<-H];clear h hx2 H;go_enter func243,ntmps243;go_wp2;go_ret;exact⟨rfl,(Below.refl _ w).alloc (af _) _⟩
theorem Jc (w:World) (s:ByteArray) (hs:s.size=2):
  Calls prog 233 #[cu s] w fun e w'=>e=c8 (bf ct ((s.data.toList.getD 0 0).toNat*256+(s.data.toList.getD 1 0).toNat:Nat))/\Below w.heap.size w w':=by
 have h4:0<s.size:=κ
 have a:1<s.size:=κ
 obtain⟨N,h⟩:=ξx ((s.data.toList.getD 0 0).toNat*256+(s.data.toList.getD 1 0).toNat);have hA:N=s[0].toNat*256+s[1].toNat:=by rw[h,gJ s 0 h4,gJ s 1 a]
 rw[<-h];have b:=aa (show _=(N:Int) from (sN s[0] s[1]).trans (congrArg _ hA.symm))
 have H:=aa (show IntKind.i64.wrap (s[0].toNat:Int)=s[0].toNat/\IntKind.i64.wrap (s[1].toNat:Int)=s[1].toNat/\IntKind.i64.wrap ((s[0].toNat:Int)*256)=(s[0].toNat:Int)*256 from⟨bQ _ (by have:=s[0].toNat_lt;omega),bQ _ (by have:=s[1].toNat_lt;omega),by
  have:=bQ (s[0].toNat*256) (by have:=s[0].toNat_lt;omega)
  rwa [show ((s[0].toNat*256:Nat):Int)=(s[0].toNat:Int)*256 by omega] at this⟩)
 clear h hA;go_enter func233,ntmps233;go_wp2_with (refine wp_region_any η ?_;refine Hid.o ?_);refine aa ?_;try (change wpAny _ _ _ _ _ _ _ (bu _))
 refine tk 0 ?_;refine tk 1 ?_;refine tk 2 ?_;refine tk 3 ?_;refine tk 4 ?_;refine tk 5 ?_;refine tk 6 ?_;refine tk 7 ?_;refine tk 8 ?_;refine wpAny_done η ?_ _;simp only[b.o];simp only[H.o.1,H.o.2.1,H.o.2.2];try simp only[Act.put,aC,aB,ay]
 go_wp2;go_ret;exact⟨rfl,(Below.refl _ w).drew⟩
theorem Uo (p:Nat) (hp:p<65536):((bs (pv p)).data.toList.getD 0 0).toNat*256+((bs (pv p)).data.toList.getD 1 0).toNat=p:=by rw[bJ];show (az (p/256)).toNat*256+(az (p%256)).toNat=p;rw[bR,bR];omega
theorem Jd (w:World) (p:Nat) (hp:p<65536):
  Calls prog 233 #[cu (bs (pv p))] w fun e w'=>e=c8 (bf ct p)/\Below w.heap.size w w':=by
 have:=Jc w (bs (pv p)) (by rw[aG];rfl)
 rwa [Uo p hp] at this
theorem Tr.Bi (c a b:List UInt8):Tr.cQ (c++a) (c++b)=c++Tr.cQ a b:=by
 induction c with
 |nil=>rfl
 |cons x c i=>show (if x=x then x::Tr.cQ (c++a) (c++b) else [x])=_;rw[if_pos rfl,i];rfl
theorem Tr.oF (c a b:List UInt8):Tr.lt (c++a) (c++b)=Tr.lt a b:=by
 induction c with
 |nil=>rfl
 |cons x c i=>show (decide (x<x)||(x==x&&Tr.lt (c++a) (c++b)))=_;rw[i];simp
theorem Fz {a b:List UInt8} {k:Nat} (h:Tr.lt a b=true) (_:k<=a.length) (e:a.take k=b.take k):
  ∃c:k<b.length,(∀ha:k<a.length,a[k]=b[k]->a.take (k+1)=b.take (k+1))/\((∀ha:k<a.length,a[k]≠b[k])->Tr.cQ a b=b.take (k+1)):=by
 have E:a=a.take k++a.drop k:=(b_ k a).symm;have d:b=a.take k++b.drop k:=by rw[e];exact (b_ k b).symm
 have hd:Tr.lt (a.drop k) (b.drop k)=true:=by
  rw[E,d,Tr.oF] at h;have i:(List.take k a++List.drop k a).drop k=a.drop k:=by rw[<-E]
  exact h
 have c:k<b.length:=by
  rcases ep k b.length with H|H;·exact H
  ·rw[gj H] at hd;cases a.drop k<;>simp[Tr.lt] at hd
 refine⟨c,fun ha g=> ?_,fun hn=> ?_⟩;·rw[cz ha,cz c,e,g]
 ·have es:Tr.cQ a b=a.take k++Tr.cQ (a.drop k) (b.drop k):=by
   conv=>lhs;rw[E,d]
   exact Tr.Bi _ _ _
  rw[es,cz c,<-e,cE c];congr 1;rcases ep k a.length with H|H;·rw[cE H];show (if a[k]=b[k] then _ else [b[k]])=_;rw[if_neg (hn H)]
  ·rw[gj H];rfl
theorem uw (w:World) (a b:List UInt8) (h:Tr.lt a b=true) (ha:a.length<=1000000) (L:b.length<=1000000):
  Calls prog 241 #[cu (bs a),cu (bs b)] w fun e w'=>e=c8 (cu (bs (Tr.cQ a b)))/\Below w.heap.size w w':=by
 have v:(bs a).size=a.length:=aG _;have z:(bs b).size=b.length:=aG _;have T:(a.length:Int)<=1000000:=κ
 have M:(b.length:Int)<=1000000:=κ
 have q:=aa (fun n=>mV (bs b) n);have B:=aa (fun (k:Nat) (g:k<(bs a).size)=>(gJ (bs a) k g).symm);have C:=aa (fun (k:Nat) (g:k<(bs b).size)=>(gJ (bs b) k g).symm);have J:=aa h;obtain⟨R,r⟩:=ξx (Tr.cQ a b);rw[<-r];have D:=aa r;clear r h;obtain⟨x,i⟩:=ξx (bs a);obtain⟨y,hy⟩:=ξx (bs b);rw[<-i] at v B |-;rw[<-hy] at z q C |-;have j:=aa (And.intro i hy);clear i hy;go_enter func241,ntmps241;go_wp2
 go_loopw [5] (fun I wr=>∃k:Nat,k<=a.length/\I=bf ct k/\Hid (a.take k=b.take k)/\Hid (Below w.heap.size w wr)) (fun I _=>a.length-(RowKit.intOf I).toNat)
 case atStart=>exact⟨0,aA _,rfl,aa rfl,aa (Below.refl _ _)⟩
 case round=>
  obtain⟨k,g,rfl,K,c⟩:=hrel;obtain⟨d,s,p⟩:=Fz J.o g K.o;have Y:(k:Int)<b.length:=κ
  have hy:k<y.size:=by rw[z];exact d
  by_cases H:k<a.length
  ·have A:(k:Int)<a.length:=κ;have i:k<x.size:=(by rw[v];exact H);have E:x[k]=a[k]:=(by have:=B.o k i;rw[this,j.o.1,bJ,bC,aI H];rfl);have F:y[k]=b[k]:=(by have:=C.o k hy;rw[this,j.o.2,bJ,bC,aI d];rfl);have l:=aa (s H);have m:=aa (fun (hn:a[k]≠b[k])=>p fun _=>hn);clear s p;rw[<-E,<-F] at l m;clear E F;have G:=aa (And.intro H d);by_cases f:x[k]=y[k]
   ·have P:=aa (l.o f);have t:(x[k].toNat:Int)=y[k].toNat:=(by rw[f]);clear f l m;go_wp2_with fail
    go_quiet (fail)
    go_wp2;go_roundw
    case rel=>exact⟨k+1,G.o.1,ς,P,aa (c.o.trans ⟨rfl,rfl,rfl,af _,fun _ _=>rfl⟩)⟩
    case measure=>have:=G.o;simp[RowKit.intOf];omega
   ·have P:=aa (m.o f);have t:¬(x[k].toNat:Int)=y[k].toNat:=fun e=>f (UInt8.toNat_inj.1 κ);have u:=aa (show y.extract 0 (k+1)=bs R by rw[D.o,P.o,q.o,j.o.2,bJ]);clear f l m;go_wp2_with fail
    go_quiet (fail)
    go_wp2;go_ret;exact⟨by rw[<-u.o];rfl,c.o.trans ⟨rfl,rfl,rfl,af _,fun _ _=>rfl⟩⟩
  ·have A:¬(k:Int)<a.length:=κ;have P:=aa (p fun h=>absurd h H);have u:=aa (show y.extract 0 (k+1)=bs R by rw[D.o,P.o,q.o,j.o.2,bJ]);clear s p;go_wp2_with fail
   go_quiet (fail)
   go_wp2;go_ret;exact⟨by rw[<-u.o];rfl,c.o.trans ⟨rfl,rfl,rfl,af _,fun _ _=>rfl⟩⟩
theorem Je (h:Nd w p n):
  Calls prog 104 #[ptr p] w fun e w'=>e=c8 (if n.level=0 then cx (av ⟨n.rg,n.ro,aK⟩) n.its.length n.cap else cx aK 0 0)/\w'=w:=by
 have c0:=h.c0;have c1:=h.c1;by_cases hl:n.level=0
 ·have j:¬(0:Int)<n.level:=by omega
  rw[if_pos hl];clear h hl;go_enter func104,ntmps104;exact zaq
 ·have j:(0:Int)<n.level:=by omega
  rw[if_neg hl];clear h hl;go_enter func104,ntmps104;exact zaq
end
theorem MZ {fn:Func} {p u:Tmp} (h:fn.results=#[.cell p 134,.tmp u]) (tmps:Array Value) (w:World) (g:Nat) (x y:Value) (fr:Nat×Nat)
  (hp:tmps.getD p undef=.pointer (av ⟨g,0,aK⟩)) (hg:w.heap[g]?=av (dg #[x,y] 134 fr)):
  (results fn tmps).run prog w=.ok (.tuple #[.agg #[x,y],tmps.getD u undef]) w:=by
 rw[results_cell_tmp h,hp];simp[asAddr,run_loadVar_row w g _ 134 _ fr _ hg underlying134 rfl η,Result.andThen]
def jh (k v:List UInt8):List UInt8:=az k.length::az v.length::(k++v)
theorem iM (k v:List UInt8):(jh k v).length=2+k.length+v.length:=by simp[jh];omega
section
variable {w w':World} {p q:Nat} {n m:NV}
theorem Jf (w:World) (s:ByteArray) (k v rest:List UInt8) (hs:s.data.toList=jh k v++rest) (g:k.length<=200) (i:v.length<=200) (p:s.size<=1000000):
  Calls prog 261 #[cu s] w fun e w'=>e=c8 (ec #[eU #[cu (bs k),cu (bs v)],bf ct (2+k.length+v.length:Nat)])/\Below w.heap.size w w':=by
 have c:s.size=2+k.length+v.length+rest.length:=by have:s.data.toList.length=s.size:=aU;rw[<-this,hs,aq,iM]
 have j:0<s.size:=κ
 have l:1<s.size:=κ
 have m:¬(s.size:Int)<2:=κ
 have h:k.length<256:=κ
 have T:v.length<256:=κ
 have q:((s[0].toNat:Nat):Int)=k.length:=by rw[<-gJ s 0 j,hs];show (((az k.length).toNat:Nat):Int)=_;rw[bR,gF zax]
 have r:((s[1].toNat:Nat):Int)=v.length:=by rw[<-gJ s 1 l,hs];show (((az v.length).toNat:Nat):Int)=_;rw[bR,gF (by simpa using T)]
 have E:s.extract 2 (2+k.length)=bs k:=by apply ByteArray.ext;apply Array.ext';rw[ByteArray.data_extract,Array.toList_extract,List.extract_eq_take_drop,hs];show List.take (2+k.length-2) (k++v++rest)=k;rw[Nat.add_sub_cancel_left,aD,List.take_left]
 have n:s.extract (2+k.length) (2+k.length+v.length)=bs v:=by apply ByteArray.ext;apply Array.ext';rw[ByteArray.data_extract,Array.toList_extract,List.extract_eq_take_drop,hs];show List.take _ (List.drop (2+k.length) (az k.length::az v.length::(k++v++rest)))=v;rw[show 2+k.length=k.length+1+1 by omega,List.drop_succ_cons,List.drop_succ_cons,aD,List.drop_left,show k.length+1+1+v.length-(k.length+1+1)=v.length by omega,List.take_left]
 have hle:¬(s.size:Int)<2+k.length+v.length:=κ
 have A:(2:Int)+k.length<=s.size:=κ
 have d:(2:Int)+k.length+v.length<=s.size:=κ
 have y:(k.length:Int)<=200:=κ
 have U:(v.length:Int)<=200:=κ
 obtain⟨K,H⟩:=ξx (bs k);obtain⟨V,f⟩:=ξx (bs v);rw[<-H] at E |-;rw[<-f] at n |-;generalize k.length=a at*;generalize v.length=b at*;clear hs c H f g i h T;go_enter func261,ntmps261;go_wp2_with (refine wp_region_any η ?_;refine Hid.o ?_);refine aa ?_;try (change wpAny _ _ _ _ _ _ _ (bu _))
 have t:(0:Int)<=2+a:=κ
 have u:(2:Int)<=2+a:=κ
 have x:(0:Int)<=2+a+b:=κ
 have z:(2:Int)+a<=2+a+b:=κ
 have n1:((2:Int)+a).toNat=2+a:=κ
 have N:((2:Int)+a+b).toNat=2+a+b:=κ
 refine tk 0 ?_;refine tk 1 ?_;refine tk 2 ?_;refine tk 3 ?_;refine tk 4 ?_;refine tk 5 ?_;refine tk 6 ?_;refine tk 7 ?_;refine tk 8 ?_;try simp only[Act.put,aC,aB,ay]
 refine rd [9] (rn fun K H=> ?_);go_simp;refine H _ _ ?_;clear H K;refine tk 10 ?_;refine wpAny_done η ?_ _;go_wp2;refine bodyPost_ret (MZ rfl _ _ w.heap.size _ _ _ rfl (heap_alloc_new _ _)) rfl ?_;refine⟨?_,((Below.refl _ w).alloc (af _) _).drew⟩;show Ending.returned (ec #[eU #[cu K,cu V],bf ct ((2:Int)+a+b)])=_;go_num
structure Sound (n:NV):Prop where
 level:n.level<=15
 ne:n.its≠[]
 first:0<n.level->∀h:0<n.its.length,n.its[0].key=[]
 srt:QA n.its
 each:∀i∈n.its,i.key.length<=96/\i.val.length<=56/\(0<n.level->i.val.length=2)
theorem DB (h:Nd w p n) (hs:Sound n):
  Calls prog 262 #[ptr p] w fun e w'=>e=c8 (ey true)/\Below w.heap.size w w':=by
 have c0:=h.c0;have c1:=h.c1;have F:=h.blk.lt;have sR:(n.level:Int)<=15:=by have:=hs.level;omega
 have adY:¬(n.level:Int)<0:=κ
 have hpos:0<n.its.length:=d_.2 hs.ne;have QF:((n.its.length:Int)==0)=false:=θ
 have K:(0:Int)<n.its.length:=κ
 have aef:decide ((15:Int)<n.level)=false:=by rw[decide_eq_false_iff_not];omega
 have We:decide ((n.level:Int)<0)=false:=by rw[decide_eq_false_iff_not];omega
 have hl:=h.small.len;have jK:(n.its.length:Int)<=400:=κ
 obtain⟨b0,k0,q⟩:∃b0,w.cell? ⟨n.rg,n.ro,aK⟩=av (cu b0)/\(0<n.level->b0=⟨#[]⟩):=by obtain⟨k0,_,_⟩:=bt h.row 0 hpos;rw[Nat.zero_mul,Nat.add_zero] at k0;exact⟨_,k0,fun e=>by rw[hs.first e hpos];rfl⟩
 have HN:=aa h;have G:=aa hs;have J:=aa (fun (W:World) (hb:Below w.heap.size w W) (j:Nat) (g:j<n.its.length)=>bt (eX h.row hb) j g);obtain⟨L,M⟩:=ξx n.its.length;rw[<-M] at c1 QF K jK;have HL:=aa M;clear h hs hl hpos M;by_cases l:n.level=0
 ·have FA:¬(0:Int)<n.level:=by omega
  have N:=aa l;clear l q;go_enter func262,ntmps262;unfold ptr;go_wp2
  go_loopw [46] (fun I wr=>∃j:Nat,j<=L/\I=bf ct j/\Hid (Below w.heap.size w wr)) (fun I _=>L-(RowKit.intOf I).toNat)
  case atStart=>exact⟨0,aA _,rfl,aa (Below.refl _ _)⟩
  case round=>
   obtain⟨j,g,rfl,f⟩:=hrel;by_cases a:j<L
   ·have O:(j:Int)<L:=κ;have b:j<n.its.length:=(by rw[<-HL.o];exact a);obtain⟨A,r,s⟩:=J.o wr f.o j b;have c:=(f.o.cell (p:=⟨p,0,aK⟩) F).trans c0;have C:=(f.o.cell (p:=⟨p,1,aK⟩) F).trans c1;have t:=G.o.each _ (bp b);have R:decide ((96:Int)<(bs n.its[j].key).size)=false:=zaP;have S:decide ((56:Int)<(bs n.its[j].val).size)=false:=zaP;have T:=aa (show 0<n.level->((bs n.its[j].val).size:Int)=2 from fun e=>by rw[aG];have:=t.2.2 e;omega);have u:((bs n.its[j].key).size:Int)<=96/\((bs n.its[j].val).size:Int)<=56:=(by rw[aG,aG];omega);obtain⟨U,Ur⟩:=u;have m:=aa (show j<L from a);cases j with
    |zero=>
     generalize bs n.its[0].key=k at*;generalize bs n.its[0].val=v at*;generalize pa n.its[0].node=Q at*;rw[Nat.zero_mul,Nat.add_zero] at A r s;clear t a g b;go_wp2_with fail;obtain⟨W,d⟩:=ξx (wr.alloc (dg #[cu k,cu v,dr Q] 175));have V:W.cell? ⟨wr.heap.size,0,aK⟩=av (cu k):=zaw;have X:W.cell? ⟨wr.heap.size,1,aK⟩=av (cu v):=zaw;have H:Below wr.heap.size wr W:=zaJ;have Y:=(H.cell (p:=⟨p,0,aK⟩) (bA _ _ c)).trans c;have Z:=(H.cell (p:=⟨p,1,aK⟩) (bA _ _ C)).trans C;have x:=aa (f.o.trans (H.mono f.o.size));rw[<-d];clear d H c C A r s c0 c1 k0
     go_quiet (fail)
     have P:=aa (x.o.trans (show Below w.heap.size W (W.drewN nq) from⟨rfl,rfl,rfl,af _,fun _ _=>rfl⟩));go_wp2;go_roundw
     case rel=>exact⟨_,m.o,ς,P⟩
     case measure=>have:=m.o;simp[RowKit.intOf];try omega
    |succ i=>
     obtain⟨B,y,z⟩:=J.o wr f.o i κ;have D:=gh.1 G.o.srt i (i+1) κ b κ;have hq1:Op.bytesLess (bs n.its[i+1].key).toList (bs n.its[i].key).toList=false:=(by rw[bN,bN,Tr.lt_eq];exact Tr.lt_asymm D);have Hv:((bs n.its[i+1].key).toList==(bs n.its[i].key).toList)=false:=(by rw[bN,bN,beq_eq_false_iff_ne];exact fun e=>Tr.ne_of_lt D e.symm);generalize bs n.its[i+1].key=k at*;generalize bs n.its[i+1].val=v at*;generalize pa n.its[i+1].node=Q at*;generalize bs n.its[i].key=pp at*;clear t a g b D y z;go_wp2_with fail;obtain⟨W,d⟩:=ξx (wr.alloc (dg #[cu k,cu v,dr Q] 175));have V:W.cell? ⟨wr.heap.size,0,aK⟩=av (cu k):=zaw;have X:W.cell? ⟨wr.heap.size,1,aK⟩=av (cu v):=zaw;have H:Below wr.heap.size wr W:=zaJ;have Y:=(H.cell (p:=⟨p,0,aK⟩) (bA _ _ c)).trans c;have Z:=(H.cell (p:=⟨p,1,aK⟩) (bA _ _ C)).trans C;have f0:=(H.cell (p:=⟨n.rg,n.ro+i*3,aK⟩) (bA _ _ B)).trans B;have x:=aa (f.o.trans (H.mono f.o.size));rw[<-d];clear d H c C A r s c0 c1 k0 B
     go_quiet (fail)
     have P:=aa (x.o.trans (show Below w.heap.size W (W.drewN nq) from⟨rfl,rfl,rfl,af _,fun _ _=>rfl⟩));go_wp2;go_roundw
     case rel=>exact⟨_,m.o,ς,P⟩
     case measure=>have:=m.o;simp[RowKit.intOf];try omega
   ·have O:¬(j:Int)<L:=κ;clear a g;go_wp2;go_ret;exact⟨rfl,f.o⟩
 ·have FA:(0:Int)<n.level:=by omega
  have N:=aa l;have aT:=q κ;have aQ:b0.toList.isEmpty=true:=by rw[aT];exact (congrArg List.isEmpty (bN []))
  have b8:b0.toList=[]:=by rw[aT];exact bN []
  clear l q aT;go_enter func262,ntmps262;unfold ptr;go_wp2
  go_loopw [46] (fun I wr=>∃j:Nat,j<=L/\I=bf ct j/\Hid (Below w.heap.size w wr)) (fun I _=>L-(RowKit.intOf I).toNat)
  case atStart=>exact⟨0,aA _,rfl,aa (Below.refl _ _)⟩
  case round=>
   obtain⟨j,g,rfl,f⟩:=hrel;by_cases a:j<L
   ·have O:(j:Int)<L:=κ;have b:j<n.its.length:=(by rw[<-HL.o];exact a);obtain⟨A,r,s⟩:=J.o wr f.o j b;have c:=(f.o.cell (p:=⟨p,0,aK⟩) F).trans c0;have C:=(f.o.cell (p:=⟨p,1,aK⟩) F).trans c1;have t:=G.o.each _ (bp b);have R:decide ((96:Int)<(bs n.its[j].key).size)=false:=zaP;have S:decide ((56:Int)<(bs n.its[j].val).size)=false:=zaP;have T:=aa (show 0<n.level->((bs n.its[j].val).size:Int)=2 from fun e=>by rw[aG];have:=t.2.2 e;omega);have u:((bs n.its[j].key).size:Int)<=96/\((bs n.its[j].val).size:Int)<=56:=(by rw[aG,aG];omega);obtain⟨U,Ur⟩:=u;have m:=aa (show j<L from a);cases j with
    |zero=>
     generalize bs n.its[0].key=k at*;generalize bs n.its[0].val=v at*;generalize pa n.its[0].node=Q at*;rw[Nat.zero_mul,Nat.add_zero] at A r s;have E:=T.o (by have:=N.o;omega);have acF:((v.size:Int)==2)=true:=(by rw[E];rfl);clear t a g b;go_wp2_with fail;obtain⟨W,d⟩:=ξx (wr.alloc (dg #[cu k,cu v,dr Q] 175));have V:W.cell? ⟨wr.heap.size,0,aK⟩=av (cu k):=zaw;have X:W.cell? ⟨wr.heap.size,1,aK⟩=av (cu v):=zaw;have H:Below wr.heap.size wr W:=zaJ;have Y:=(H.cell (p:=⟨p,0,aK⟩) (bA _ _ c)).trans c;have Z:=(H.cell (p:=⟨p,1,aK⟩) (bA _ _ C)).trans C;have x:=aa (f.o.trans (H.mono f.o.size));rw[<-d];clear d H c C A r s c0 c1 k0
     go_quiet (fail)
     have P:=aa (x.o.trans (show Below w.heap.size W (W.drewN nq) from⟨rfl,rfl,rfl,af _,fun _ _=>rfl⟩));go_wp2;go_roundw
     case rel=>exact⟨_,m.o,ς,P⟩
     case measure=>have:=m.o;simp[RowKit.intOf];try omega
    |succ i=>
     obtain⟨B,y,z⟩:=J.o wr f.o i κ;have D:=gh.1 G.o.srt i (i+1) κ b κ;have hq1:Op.bytesLess (bs n.its[i+1].key).toList (bs n.its[i].key).toList=false:=(by rw[bN,bN,Tr.lt_eq];exact Tr.lt_asymm D);have Hv:((bs n.its[i+1].key).toList==(bs n.its[i].key).toList)=false:=(by rw[bN,bN,beq_eq_false_iff_ne];exact fun e=>Tr.ne_of_lt D e.symm);generalize bs n.its[i+1].key=k at*;generalize bs n.its[i+1].val=v at*;generalize pa n.its[i+1].node=Q at*;generalize bs n.its[i].key=pp at*;have E:=T.o (by have:=N.o;omega);have acF:((v.size:Int)==2)=true:=(by rw[E];rfl);clear t a g b D y z;go_wp2_with fail;obtain⟨W,d⟩:=ξx (wr.alloc (dg #[cu k,cu v,dr Q] 175));have V:W.cell? ⟨wr.heap.size,0,aK⟩=av (cu k):=zaw;have X:W.cell? ⟨wr.heap.size,1,aK⟩=av (cu v):=zaw;have H:Below wr.heap.size wr W:=zaJ;have Y:=(H.cell (p:=⟨p,0,aK⟩) (bA _ _ c)).trans c;have Z:=(H.cell (p:=⟨p,1,aK⟩) (bA _ _ C)).trans C;have f0:=(H.cell (p:=⟨n.rg,n.ro+i*3,aK⟩) (bA _ _ B)).trans B;have x:=aa (f.o.trans (H.mono f.o.size));rw[<-d];clear d H c C A r s c0 c1 k0 B
     go_quiet (fail)
     have P:=aa (x.o.trans (show Below w.heap.size W (W.drewN nq) from⟨rfl,rfl,rfl,af _,fun _ _=>rfl⟩));go_wp2;go_roundw
     case rel=>exact⟨_,m.o,ς,P⟩
     case measure=>have:=m.o;simp[RowKit.intOf];try omega
   ·have O:¬(j:Int)<L:=κ;clear a g;go_wp2;go_ret;exact⟨rfl,f.o⟩
end
end
end Go.Proofs.YtgfdijemhanfkaaGreatDoor
