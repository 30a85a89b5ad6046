/- Elder texts, cut down and merged (4). -/
import Derived.Test.YtloekpcncjocaaaGreatDoorP3
import Derived.Test.YtloekpcncjocaaaGreatDoorP1
import Derived.Test.YtloekpcncjocaaaGreatDoorP2
import Derived.Laws.BitsAllLaws
import Derived.Lib.Bytealg
import Derived.Lib.Strings
import Derived.Lib.Walk
import Derived.Test.YtloekpcncjocaaaGreatDoorPTk
set_option maxRecDepth 100000
set_option maxHeartbeats 8000000
namespace Go.Proofs.YtloekpcncjocaaaGreatDoor
open Go.RowKit Lib
structure It where
 key:List UInt8
 val:List UInt8
 node:Option Nat
 deriving DecidableEq
def pa (q:Option Nat):Option Addr:=q.map fun b=>⟨b,0,none⟩
def ah:Elem It:=⟨fun i=>[.string (bs i.key),.string (bs i.val),.pointer (pa i.node)],3,by decide,fun _=>rfl,by
 intro a u hu
 simp only[List.mem_cons,List.not_mem_nil,or_false] at hu
 rcases hu with rfl|rfl|rfl<;>rfl⟩
theorem sq:cI Tryz.prog 86 95 ah.size:=cI.of (size:=3) (bytes:=40) (z:=.agg #[.string .empty,.string .empty,.pointer none]) Tryz.underlying86 (by kernel_rfl) rfl (by decide)
theorem eZ {α:Type} {K:Elem α} {E:TypeId} {B:Nat} {w:World} {g n cap:Nat} {l:List α} (h:Own K E B w (.slice (some ⟨g,0,none⟩) n cap) l):n=l.length∧n≤cap∧cap≤maxLen:=by
 rcases h.2 with⟨e,_⟩|⟨g',cap',cur,e,_,_,h1,h2,_⟩
 ·cases e
 ·injection e with e1 e2 e3
  subst e3
  exact⟨e2,by omega,h2⟩
structure NV where
 level:Nat
 its:List It
 rg:Nat
 ro:Nat
 cap:Nat
 page:Int
 lo:List UInt8
 hi:List UInt8
 was:Int
 at_:Int
 fresh:Bool
 own:Bool
def NV.cells (n:NV):List Value:=[.int .i64 n.level,.slice (some ⟨n.rg,n.ro,none⟩) n.its.length n.cap,.int .i64 n.page,.string (bs n.lo),.string (bs n.hi),.int .i64 n.was,.int .i64 n.at_,.bool n.fresh]
def gh (i:It):Nat:=2+i.key.length+i.val.length
def bz:List It→Nat
 |[]=>0
 |i::l=>gh i+bz l
theorem qA:∀a b:List It,bz (a++b)=bz a+bz b
 |[],b=>by simp[bz]
 |i::a,b=>by simp only[List.cons_append,bz,qA a b];omega
structure NV.Small (n:NV):Prop where
 len:n.its.length≤400
 each:∀i∈n.its,i.key.length≤200∧i.val.length≤200
 cap:n.its.length≤n.cap∧n.cap≤maxLen
structure Nd (w:World) (p:Nat) (n:NV):Prop where
 blk:aG w p 90 n.cells
 row:aJ ah w n.rg n.ro n.its
 small:n.Small
section
variable {w w':World} {p:Nat} {n:NV}
theorem Nd.below {B:Nat} (h:Nd w p n) (hb:Below B w w') (hp:p<B) (hr:n.its≠[]→n.rg<B):Nd w' p n:=
 ⟨h.blk.below hb hp,by
  by_cases e:n.its=[]
  ·rw[e];intro j u hu;simp[Elem.cells] at hu
  ·exact h.row.below hb (hr e),h.small⟩
theorem Nd.ZO (h:Nd w p n):n.its≠[]→n.rg<w.heap.size:=by
 intro e
 cases hi:n.its with
 |nil=>exact absurd hi e
 |cons i l=>
  have:=h.row 0 (.string (bs i.key)) (by rw[hi];rfl)
  exact World.block_lt_of_cell? _ _ this
theorem Nd.still (h:Nd w p n) (hb:Below w.heap.size w w'):Nd w' p n:=h.below hb h.blk.lt h.ZO
theorem Nd.drew (h:Nd w p n):Nd w.drew p n:=⟨h.blk,h.row,h.small⟩
theorem aH {g o:Nat} {l:List It} (h:aJ ah w g o l) (j:Nat) (hj:j<l.length):
  w.cell? ⟨g,o+j*3,none⟩=some (.string (bs l[j].key))∧w.cell? ⟨g,o+j*3+1,none⟩=some (.string (bs l[j].val))∧w.cell? ⟨g,o+j*3+2,none⟩=some (.pointer (pa l[j].node)):=
 ⟨h.at j 0 (by decide) hj _ rfl,h.at j 1 (by decide) hj _ rfl,h.at j 2 (by decide) hj _ rfl⟩
theorem rz {g o:Nat} {l:List It} (h:aJ ah w g o l) {j:Nat} (hj:j<l.length):g<w.heap.size:=
 World.block_lt_of_cell? _ _ (aH h j hj).1
theorem cN {g o:Nat} {l:List It} (h:aJ ah w g o l) (hb:Below w.heap.size w w'):aJ ah w' g o l:=by
 intro j u hu
 have h1:=h j u hu
 rw[←h1]
 exact hb.cell (World.block_lt_of_cell? _ _ h1)
theorem Nd.item (h:Nd w p n) (j:Nat) (hj:j<n.its.length):
  w.cell? ⟨n.rg,n.ro+j*3,none⟩=some (.string (bs n.its[j].key))∧w.cell? ⟨n.rg,n.ro+j*3+1,none⟩=some (.string (bs n.its[j].val))∧w.cell? ⟨n.rg,n.ro+j*3+2,none⟩=some (.pointer (pa n.its[j].node)):=by
 have h0:=h.row.at j 0 (by decide) hj _ rfl
 have h1:=h.row.at j 1 (by decide) hj _ rfl
 have h2:=h.row.at j 2 (by decide) hj _ rfl
 exact⟨h0,h1,h2⟩
end
theorem vm (w:World) (i:It) (h:i.key.length≤1000000∧i.val.length≤1000000):
  Calls Tryz.prog 143 #[.agg #[.string (bs i.key),.string (bs i.val),.pointer (pa i.node)]] w fun e w'=>e=.returned (.int .i64 (gh i))∧Below w.heap.size w w':=by
 have h1:(bs i.key).size=i.key.length:=aB _
 have h2:(bs i.val).size=i.val.length:=aB _
 unfold gh
 generalize bs i.key=k at*
 generalize bs i.val=v at*
 generalize pa i.node=q
 go_enter Tryz.func143,Tryz.ntmps143
 go_wp2
 go_ret
 refine⟨?_,(Below.refl _ w).alloc (Nat.le_refl _) _⟩
 go_num
theorem vq (l:List It) (j:Nat) (hj:j<l.length):bz (l.take (j+1))=bz (l.take j)+gh l[j]:=by
 rw[List.take_succ_eq_append_getElem hj,qA];rfl
theorem wZ:∀(l:List It),(∀i∈l,i.key.length≤200∧i.val.length≤200)→bz l≤402*l.length
 |[],_=>Nat.zero_le _
 |i::l,h=>by
  have h1:=h i List.mem_cons_self
  have h2:=wZ l fun x hx=>h x (List.mem_cons_of_mem _ hx)
  simp only[bz,gh,List.length_cons]
  omega
theorem NV.Small.size {n:NV} (h:n.Small):bz n.its≤160800:=by
 have h1:=wZ n.its h.each
 have:=h.len
 omega
theorem NV.Small.part {n:NV} (h:n.Small) (j:Nat):bz (n.its.take j)≤160800:=by
 have h1:=wZ (n.its.take j) fun x hx=>h.each x (List.mem_of_mem_take hx)
 have:=h.len
 have:(n.its.take j).length≤n.its.length:=by rw[List.length_take];omega
 omega
section
variable {w w':World} {p:Nat} {n:NV}
theorem Nd.c0 (h:Nd w p n):w.cell? ⟨p,0,none⟩=some (.int .i64 n.level):=h.blk.cell rfl
theorem Nd.c1 (h:Nd w p n):w.cell? ⟨p,1,none⟩=some (.slice (some ⟨n.rg,n.ro,none⟩) n.its.length n.cap):=h.blk.cell rfl
theorem Nd.c2 (h:Nd w p n):w.cell? ⟨p,2,none⟩=some (.int .i64 n.page):=h.blk.cell rfl
theorem Nd.c3 (h:Nd w p n):w.cell? ⟨p,3,none⟩=some (.string (bs n.lo)):=h.blk.cell rfl
theorem Nd.c4 (h:Nd w p n):w.cell? ⟨p,4,none⟩=some (.string (bs n.hi)):=h.blk.cell rfl
theorem Nd.c5 (h:Nd w p n):w.cell? ⟨p,5,none⟩=some (.int .i64 n.was):=h.blk.cell rfl
theorem Nd.c6 (h:Nd w p n):w.cell? ⟨p,6,none⟩=some (.int .i64 n.at_):=h.blk.cell rfl
theorem Nd.c7 (h:Nd w p n):w.cell? ⟨p,7,none⟩=some (.bool n.fresh):=h.blk.cell rfl
theorem eM (h:Nd w p n):Calls Tryz.prog 96 #[ptr p] w fun e w'=>e=.returned (.int .i64 (bz n.its))∧Below w.heap.size w w':=by
 have c1:=h.c1
 have hl:=h.small.len
 have gz:(n.its.length:Int)≤400:=by omega
 obtain⟨N,hN⟩:∃N,N=bz n.its:=⟨_,rfl⟩
 rw[←hN]
 have HN:=aa hN
 have HI:=aa h
 clear h hN
 obtain⟨L,hL⟩:∃L,L=n.its.length:=⟨_,rfl⟩
 rw[←hL] at c1 hl gz
 have HL:=aa hL
 clear hL
 generalize hg:n.rg=g at*
 generalize ho:n.ro=o at*
 have HG:=aa (And.intro hg ho)
 clear hg ho
 go_enter Tryz.func96,Tryz.ntmps96
 unfold ptr
 go_wp2
 go_loopw [3,11] (fun sv i wr=>∃j:Nat,j≤L∧i=.int .i64 j∧∃s:Nat,sv=.int .i64 s∧s≤160800∧Hid (s=bz (n.its.take j))∧Hid (Below w.heap.size w wr)) (fun _ i _=>L-(RowKit.intOf i).toNat)
 case atStart=>exact⟨0,Nat.zero_le _,rfl,0,rfl,Nat.zero_le _,aa rfl,aa (Below.refl _ _)⟩
 case round=>
  obtain⟨j,hj,rfl,s,rfl,hs,hS,hB⟩:=hrel
  have FR:(s:Int)≤160800:=by omega
  by_cases hlt:j<L
  ·have hI:(j:Int)<L:=by omega
   have hjl:j<n.its.length:=by rw[←HL.out];exact hlt
   have s1:=(HI.out.still hB.out).item j hjl
   have HE:=aa (show s+gh n.its[j]=bz (n.its.take (j+1)) by rw[vq _ _ hjl,hS.out])
   have hle:=HI.out.small.part (j+1)
   rw[←HE.out] at hle
   have qU:=HI.out.small.each _ (List.getElem_mem hjl)
   have HC:=aa (fun W=>vm W n.its[j] ⟨by omega,by omega⟩)
   rw[HG.out.1,HG.out.2] at s1
   generalize n.its[j]=it at*
   obtain⟨s2,s3,s4⟩:=s1
   have cB:=aa hlt
   clear hlt hj hjl qU
   go_wp2_with fail
   refine (HC.out _).mono ?_
   rintro e w1 ⟨rfl,aQ⟩
   have M9:=aa (((hB.out.alloc hB.out.size _)).trans (aQ.mono (by simp only[World.size_alloc];have:=hB.out.size;omega)))
   clear aQ
   generalize gh it=z at*
   have hz:(s:Int)+z≤160800:=by omega
   go_wp2
   go_roundw
   case rel=>exact⟨j+1,cB.out,by go_num,s+z,by go_num,hle,HE,M9⟩
   case measure=>have:=cB.out;simp[RowKit.intOf];omega
  ·have hI:¬(j:Int)<L:=by omega
   have HJ:=aa (show s=N by rw[HN.out,hS.out,List.take_of_length_le (by rw[←HL.out];omega)])
   clear hlt hj
   go_wp2
   go_ret
   exact⟨by rw[HJ.out];rfl,hB.out⟩
end
end Go.Proofs.YtloekpcncjocaaaGreatDoor
namespace Go.Proofs.YtloekpcncjocaaaGreatDoor
namespace Tr
abbrev Tx:=List UInt8
def lt:Tx→Tx→Bool
 |_,[]=>false
 |[],_::_=>true
 |a::x,b::y=>a<b||(a==b&&lt x y)
theorem lt_irrefl:∀a,lt a a=false
 |[]=>rfl
 |a::x=>by simp[lt,lt_irrefl x]
theorem lt_trans:∀{a b c:Tx},lt a b=true→lt b c=true→lt a c=true
 |[],[],_,h,_=>by cases h
 |[],_::_,[],_,h=>by simp[lt] at h
 |[],_::_,_::_,_,_=>rfl
 |_::_,[],_,h,_=>by simp[lt] at h
 |_::_,_::_,[],_,h=>by simp[lt] at h
 |a::x,b::y,c::z,h1,h2=>by
  simp only[lt,Bool.or_eq_true,decide_eq_true_eq,Bool.and_eq_true,beq_iff_eq] at h1 h2 ⊢
  rcases h1 with h1|⟨rfl,h1⟩
  ·rcases h2 with h2|⟨rfl,h2⟩
   ·exact .inl (UInt8.lt_trans h1 h2)
   ·exact .inl h1
  ·rcases h2 with h2|⟨rfl,h2⟩
   ·exact .inl h2
   ·exact .inr ⟨rfl,lt_trans h1 h2⟩
theorem ff:∀a b:Tx,lt a b=false→lt b a=false→a=b
 |[],[],_,_=>rfl
 |[],_::_,h,_=>by simp[lt] at h
 |_::_,[],_,h=>by simp[lt] at h
 |a::x,b::y,h1,h2=>by
  simp only[lt,Bool.or_eq_false_iff,decide_eq_false_iff_not,Bool.and_eq_false_iff,beq_eq_false_iff_ne,ne_eq] at h1 h2
  have hab:a=b:=UInt8.le_antisymm (UInt8.not_lt.1 h2.1) (UInt8.not_lt.1 h1.1)
  subst hab
  rw[ff x y (by simpa using h1.2) (by simpa using h2.2)]
theorem lt_asymm {a b:Tx} (h:lt a b=true):lt b a=false:=by
 cases h2:lt b a
 ·rfl
 ·have:=lt_trans h h2;rw[lt_irrefl] at this;cases this
def le (a b:Tx):Prop:=lt b a=false
theorem le_refl (a:Tx):le a a:=lt_irrefl a
theorem le_of_lt {a b:Tx} (h:lt a b=true):le a b:=lt_asymm h
theorem lt_of_le_of_lt {a b c:Tx} (h:le a b) (h2:lt b c=true):lt a c=true:=by
 cases e:lt a b
 ·rw[ff a b e h];exact h2
 ·exact lt_trans e h2
theorem lt_of_lt_of_le {a b c:Tx} (h:lt a b=true) (h2:le b c):lt a c=true:=by
 cases e:lt b c
 ·rw[←ff b c e h2];exact h
 ·exact lt_trans h e
theorem le_trans {a b c:Tx} (h:le a b) (h2:le b c):le a c:=by
 unfold le
 cases e:lt c a
 ·rfl
 ·have:=lt_of_lt_of_le e h;unfold le at h2;rw[this] at h2;cases h2
theorem nil_le (a:Tx):le [] a:=by cases a<;>rfl
theorem ne_of_lt {a b:Tx} (h:lt a b=true):a≠b:=by rintro rfl;rw[lt_irrefl] at h;cases h
def qB (a:Tx):Option Tx→Prop
 |none=>True
 |some b=>lt a b=true
def hle:Option Tx→Option Tx→Prop
 |_,none=>True
 |none,some _=>False
 |some a,some b=>le a b
theorem Ke {a:Tx}:∀{h h':Option Tx},qB a h→hle h h'→qB a h'
 |_,none,_,_=>trivial
 |none,some _,_,h2=>h2.elim
 |some _,some _,h,h2=>lt_of_lt_of_le h h2
theorem Bc {a:Tx}:∀{h:Option Tx},qB a h→hle (some a) h
 |none,_=>trivial
 |some _,h=>le_of_lt h
theorem sr {a b:Tx}:∀{h:Option Tx},le a b→qB b h→qB a h
 |none,_,_=>trivial
 |some _,h,h2=>lt_of_le_of_lt h h2
structure Hd where
 page:Option Nat
 fresh:Bool
def E:Nat→Type
 |0=>Tx
 |k+1=>Hd×List (Tx×E k)
def mk {k:Nat} (h:Hd) (l:List (Tx×E k)):E (k+1):=(h,l)
def hd {k:Nat} (n:E (k+1)):Hd:=Prod.fst n
def its {k:Nat} (n:E (k+1)):List (Tx×E k):=Prod.snd n
@[simp] theorem hd_mk {k:Nat} (h:Hd) (l:List (Tx×E k)):hd (mk h l)=h:=rfl
@[simp] theorem its_mk {k:Nat} (h:Hd) (l:List (Tx×E k)):its (mk h l)=l:=rfl
theorem M_ {k:Nat} (n:E (k+1)):mk (hd n) (its n)=n:=rfl
def DV:(k:Nat)→E k→Nat
 |0,t=>List.length (α:=UInt8) t
 |_+1,_=>2
def gh (k:Nat) (p:Tx×E k):Nat:=2+p.1.length+DV k p.2
def sz (k:Nat):List (Tx×E k)→Nat
 |[]=>0
 |p::l=>gh k p+sz k l
theorem b9 (k:Nat):∀a b:List (Tx×E k),sz k (a++b)=sz k a+sz k b
 |[],b=>by simp[sz]
 |p::a,b=>by simp only[List.cons_append,sz,b9 k a b];omega
def bE:(k:Nat)→List (Tx×E k)→List (Tx×Tx)
 |0,l=>l
 |k+1,l=>l.flatMap fun p=>bE k (its p.2)
theorem aS:∀(k:Nat) (a b:List (Tx×E k)),bE k (a++b)=bE k a++bE k b
 |0,_,_=>rfl
 |_+1,_,_=>List.flatMap_append
theorem iH:∀k,bE k []=[]
 |0=>rfl
 |_+1=>rfl
theorem cD (k:Nat) (p:Tx×E (k+1)):bE (k+1) [p]=bE k (its p.2):=by simp[bE]
def bg:(k:Nat)→E k→List Nat
 |0,_=>[]
 |k+1,n=>(hd n).page.toList++(its n).flatMap fun p=>bg k p.2
def b_ (k:Nat) (l:List (Tx×E k)):List Nat:=l.flatMap fun p=>bg k p.2
theorem aK (k:Nat) (n:E (k+1)):bg (k+1) n=(hd n).page.toList++b_ k (its n):=rfl
theorem aT (k:Nat) (a b:List (Tx×E k)):b_ k (a++b)=b_ k a++b_ k b:=List.flatMap_append
theorem dB (k:Nat) (a:Tx×E k) (b:List (Tx×E k)):b_ k (a::b)=bg k a.2++b_ k b:=List.flatMap_cons
def dr:(k:Nat)→E k→Nat
 |0,_=>0
 |k+1,n=>(if (hd n).page.isSome then 0 else 1)+((its n).map fun p=>dr k p.2).sum
def iA (k:Nat) (l:List (Tx×E k)):Nat:=(l.map fun p=>dr k p.2).sum
theorem bF (k:Nat) (a b:List (Tx×E k)):iA k (a++b)=iA k a+iA k b:=by simp[iA]
theorem cV (k:Nat) (a:Tx×E k) (b:List (Tx×E k)):iA k (a::b)=dr k a.2+iA k b:=by simp[iA]
theorem aV (k:Nat) (n:E (k+1)):dr (k+1) n=(if (hd n).page.isSome then 0 else 1)+iA k (its n):=rfl
def Old:(k:Nat)→E k→Prop
 |0,_=>True
 |k+1,n=>(hd n).page.isSome∧∀p,(its n).head?=some p→Old k p.2
def aN {α:Type} (x:Tx):List (Tx×α)→List (Tx×α)
 |[]=>[]
 |p::l=>(x,p.2)::l
@[simp] theorem setHd_nil {α:Type} (x:Tx):aN x ([]:List (Tx×α))=[]:=rfl
@[simp] theorem setHd_cons {α:Type} (x:Tx) (p:Tx×α) (l:List (Tx×α)):aN x (p::l)=(x,p.2)::l:=rfl
theorem dx {α:Type} (x:Tx):∀(a b:List (Tx×α)),a≠[]→aN x (a++b)=aN x a++b
 |[],_,h=>absurd rfl h
 |_::_,_,_=>rfl
theorem yX {α:Type} (x y:Tx) (l:List (Tx×α)):aN x (aN y l)=aN x l:=by cases l<;>rfl
theorem jN {α:Type} (x:Tx) (l:List (Tx×α)):aN x l=[]↔l=[]:=by cases l<;>simp
theorem gR (k:Nat) (x:Tx) (l:List (Tx×E (k+1))):bE (k+1) (aN x l)=bE (k+1) l:=by cases l<;>simp[bE]
theorem pV (k:Nat) (x:Tx) (l:List (Tx×E k)):b_ k (aN x l)=b_ k l:=by cases l<;>simp[b_]
theorem pW (k:Nat) (x:Tx) (l:List (Tx×E k)):iA k (aN x l)=iA k l:=by cases l<;>simp[iA]
def bT {α:Type} (O:Tx→Option Tx→α→Prop) (C:α→Tx→α→Prop) (h:Option Tx):List (Tx×α)→Prop
 |[]=>True
 |[a]=>O a.1 h a.2
 |a::b::r=>O a.1 (some b.1) a.2∧(lt a.1 b.1=true∧b.1.length≤96∧C a.2 b.1 b.2)∧bT O C h (b::r)
section
variable {α:Type} {O O':Tx→Option Tx→α→Prop} {C C':α→Tx→α→Prop} {h h':Option Tx}
theorem bT.append:∀{A:List (Tx×α)} {a b:Tx×α} {B:List (Tx×α)},bT O C h (A++a::b::B)↔bT O C (some b.1) (A++[a])∧(lt a.1 b.1=true∧b.1.length≤96∧C a.2 b.1 b.2)∧bT O C h (b::B)
 |[],_,_,_=>by simp only[List.nil_append,bT]
 |[_],_,_,_=>by
  simp only[List.cons_append,List.nil_append,bT]
  exact⟨fun ⟨h1,h2,h3,h4,h5⟩=>⟨⟨h1,h2,h3⟩,h4,h5⟩,fun ⟨⟨h1,h2,h3⟩,h4,h5⟩=>⟨h1,h2,h3,h4,h5⟩⟩
 |x::y::A,a,b,B=>by
  have ih:=bT.append (A:=y::A) (a:=a) (b:=b) (B:=B)
  simp only[List.cons_append,bT] at ih ⊢
  rw[ih]
  exact⟨fun ⟨h1,h2,h3,h4,h5⟩=>⟨⟨h1,h2,h3⟩,h4,h5⟩,fun ⟨⟨h1,h2,h3⟩,h4,h5⟩=>⟨h1,h2,h3,h4,h5⟩⟩
theorem bT.last:∀{A:List (Tx×α)} {a:Tx×α},bT O C h (A++[a])→O a.1 h a.2
 |[],_,h=>h
 |[_],_,h=>h.2.2
 |_::y::A,_,h=>bT.last (A:=y::A) h.2.2
theorem bT.gq:∀{A:List (Tx×α)} {a:Tx×α} {x:α},bT O C h (A++[a])→O a.1 h' x→(∀b k,C b k a.2→C b k x)→bT O C h' (A++[(a.1,x)])
 |[],_,_,_,h2,_=>h2
 |[_],_,_,h,h2,h3=>⟨h.1,⟨h.2.1.1,h.2.1.2.1,h3 _ _ h.2.1.2.2⟩,h2⟩
 |_::y::A,_,_,h,h2,h3=>⟨h.1,h.2.1,bT.gq (A:=y::A) h.2.2 h2 h3⟩
theorem bT.mono (hO:∀a u x,O a u x→O' a u x) (hC:∀a k b,C a k b→C' a k b):∀{l:List (Tx×α)},bT O C h l→bT O' C' h l
 |[],_=>trivial
 |[_],h=>hO _ _ _ h
 |_::b::r,h=>⟨hO _ _ _ h.1,⟨h.2.1.1,h.2.1.2.1,hC _ _ _ h.2.1.2.2⟩,bT.mono hO hC (l:=b::r) h.2.2⟩
theorem bT.hi (hO:∀a x,O a h x→O a h' x):∀{l:List (Tx×α)},bT O C h l→bT O C h' l
 |[],_=>trivial
 |[_],h=>hO _ _ h
 |_::b::r,h=>⟨h.1,h.2.1,bT.hi hO (l:=b::r) h.2.2⟩
theorem bT.tail {a:Tx×α}:∀{l:List (Tx×α)},bT O C h (a::l)→bT O C h l
 |[],_=>trivial
 |_::_,h=>h.2.2
theorem bT.behind:∀{A B:List (Tx×α)},bT O C h (A++B)→bT O C h B
 |[],_,h=>h
 |_::A,_,h=>bT.behind (A:=A) h.tail
end
def cut:(k:Nat)→E k→Tx→E k→Prop
 |0,_,_,_=>True
 |k+1,a,x,b=>510<sz k (its a)+sz k (its b)+(if k=0 then 0 else x.length)
instance:(k:Nat)→(a:E k)→(x:Tx)→(b:E k)→Decidable (cut k a x b)
 |0,_,_,_=>.isTrue trivial
 |k+1,a,x,b=>inferInstanceAs (Decidable (510<sz k (its a)+sz k (its b)+(if k=0 then 0 else x.length)))
def Head (k:Nat) (lo:Tx) (l:List (Tx×E k)):Prop:=∀p,l.head?=some p→if k=0 then le lo p.1∧p.1.length≤96 else p.1=[]
def pI (k:Nat) (lo:Tx) (l:List (Tx×E k)):List (Tx×E k):=if k=0 then l else aN lo l
def Ok:(k:Nat)→Tx→Option Tx→E k→Prop
 |0,x,h,v=>DV 0 v≤56∧qB x h
 |k+1,lo,h,n=>its n≠[]∧sz k (its n)≤510∧Head k lo (its n)∧bT (Ok k) (cut k) h (pI k lo (its n))
def Rw (k:Nat) (lo:Tx) (h:Option Tx) (l:List (Tx×E k)):Prop:=Head k lo l∧bT (Ok k) (cut k) h (pI k lo l)
def fJ (k:Nat) (lo:Tx) (h:Option Tx) (n:E (k+1)):Prop:=sz k (its n)≤664∧Rw k lo h (its n)
theorem Ok.near {k:Nat} {lo:Tx} {h:Option Tx} {n:E (k+1)} (o:Ok (k+1) lo h n):fJ k lo h n:=⟨by have:=o.2.1;omega,o.2.2⟩
theorem fJ.ok {k:Nat} {lo:Tx} {h:Option Tx} {n:E (k+1)} (o:fJ k lo h n) (h1:its n≠[]) (h2:sz k (its n)≤510):Ok (k+1) lo h n:=⟨h1,h2,o.2⟩
theorem Ok.hi:∀{k:Nat} {lo:Tx} {h h':Option Tx} {n:E k},Ok k lo h n→hle h h'→Ok k lo h' n
 |0,_,_,_,_,o,hh=>⟨o.1,Ke o.2 hh⟩
 |_+1,_,_,_,_,o,hh=>⟨o.1,o.2.1,o.2.2.1,o.2.2.2.hi fun _ _ x=>x.hi hh⟩
theorem bT.later {k:Nat} {h h':Option Tx} {l:List (Tx×E k)} (s:bT (Ok k) (cut k) h l) (hh:hle h h'):bT (Ok k) (cut k) h' l:=s.hi fun _ _ x=>x.hi hh
theorem Ok.lt:∀{k:Nat} {lo:Tx} {h:Option Tx} {n:E k},Ok k lo h n→qB lo h
 |0,_,_,_,o=>o.2
 |k+1,lo,h,n,o=>by
  obtain⟨h1,_,h3,h4⟩:=o
  have all:∀(l:List (Tx×E k)) (x:Tx),(∀p,l.head?=some p→le x p.1)→l≠[]→bT (Ok k) (cut k) h l→qB x h:=by
   intro l
   induction l with
   |nil=>intro _ _ h;exact absurd rfl h
   |cons p r ih=>
    intro x hx _ hs
    cases r with
    |nil=>exact sr (hx p rfl) (Ok.lt (k:=k) hs)
    |cons q r=>exact ih x (fun z hz=>by cases hz;exact le_trans (hx p rfl) (le_of_lt hs.2.1.1)) (by simp) hs.2.2
  refine all (pI k lo (its n)) lo ?_ ?_ h4
  ·intro p hp
   unfold pI at hp
   split at hp
   ·rename_i hk
    have:=h3 p hp
    rw[if_pos hk] at this
    exact this.1
   ·cases e:its n with
    |nil=>exact absurd e h1
    |cons q r=>rw[e] at hp;cases hp;exact le_refl _
  ·unfold pI
   split
   ·exact h1
   ·rw[ne_eq,jN];exact h1
theorem Rw.lo {k:Nat} {lo lo':Tx} {h:Option Tx} {l:List (Tx×E k)} (o:∀{a:Tx} {u:Option Tx} {x:E k},Ok k a u x→le lo' a→0<k→Ok k lo' u x) (w:Rw k lo h l) (hl:le lo' lo):Rw k lo' h l:=by
 obtain⟨h3,h4⟩:=w
 cases hk:decide (k=0) with
 |true=>
  have hk:=of_decide_eq_true hk
  subst hk
  refine⟨fun p hp=> ?_,h4⟩
  have:=h3 p hp
  rw[if_pos rfl] at this ⊢
  exact⟨le_trans hl this.1,this.2⟩
 |false=>
  have hk:=of_decide_eq_false hk
  refine⟨fun p hp=> ?_, ?_⟩
  ·have:=h3 p hp
   rw[if_neg hk] at this ⊢
   exact this
  ·unfold pI at h4 ⊢
   rw[if_neg hk] at h4 ⊢
   cases l with
   |nil=>trivial
   |cons p r=>
    cases r with
    |nil=>exact o h4 hl (Nat.pos_of_ne_zero hk)
    |cons q r=>exact⟨o h4.1 hl (Nat.pos_of_ne_zero hk),⟨lt_of_le_of_lt hl h4.2.1.1,h4.2.1.2⟩,h4.2.2⟩
theorem Ok.lo:∀{k:Nat} {lo lo':Tx} {h:Option Tx} {n:E (k+1)},Ok (k+1) lo h n→le lo' lo→Ok (k+1) lo' h n
 |0,_,_,_,_,o,hl=>⟨o.1,o.2.1,Rw.lo (fun _ _ h=>absurd h (Nat.lt_irrefl _)) o.2.2 hl⟩
 |_+1,_,_,_,_,o,hl=>⟨o.1,o.2.1,Rw.lo (fun x hx _=>Ok.lo x hx) o.2.2 hl⟩
theorem fJ.lo {k:Nat} {lo lo':Tx} {h:Option Tx} {n:E (k+1)} (o:fJ k lo h n) (hl:le lo' lo):fJ k lo' h n:=by
 refine⟨o.1, ?_⟩
 cases k with
 |zero=>exact Rw.lo (fun _ _ h=>absurd h (Nat.lt_irrefl _)) o.2 hl
 |succ k=>exact Rw.lo (fun x hx _=>Ok.lo x hx) o.2 hl
end Tr
end Go.Proofs.YtloekpcncjocaaaGreatDoor
namespace Go.Proofs.YtloekpcncjocaaaGreatDoor
open Go.RowKit Lib
namespace Tr
theorem lt_eq:∀a b:List UInt8,Op.bytesLess a b=lt a b
 |[],[]=>rfl
 |_::_,[]=>rfl
 |[],_::_=>rfl
 |a::x,b::y=>by
  show (decide (a<b)||(a==b&&Op.bytesLess x y))=(decide (a<b)||(a==b&&lt x y))
  rw[lt_eq x y]
theorem m8:∀a b:List UInt8,Lib.compareBytes a b<0↔lt a b=true
 |[],[]=>by simp[Lib.compareBytes,lt]
 |_::_,[]=>by simp[Lib.compareBytes,lt]
 |[],_::_=>by simp[Lib.compareBytes,lt]
 |a::x,b::y=>by
  have ih:=m8 x y
  unfold Lib.compareBytes lt
  by_cases h:a<b
  ·simp[h]
  ·by_cases h2:b<a
   ·have:¬a=b:=by rintro rfl;exact h h2
    simp[h,h2,this]
   ·have:a=b:=UInt8.le_antisymm (UInt8.not_lt.1 h2) (UInt8.not_lt.1 h)
    subst this
    simp[ih,h]
theorem compare_eq:∀a b:List UInt8,Lib.compareBytes a b=0↔a=b
 |[],[]=>by simp[Lib.compareBytes]
 |_::_,[]=>by simp[Lib.compareBytes]
 |[],_::_=>by simp[Lib.compareBytes]
 |a::x,b::y=>by
  have ih:=compare_eq x y
  unfold Lib.compareBytes
  by_cases h:a<b
  ·have:¬a=b:=by rintro rfl;exact UInt8.lt_irrefl _ h
   simp[h,this]
  ·by_cases h2:b<a
   ·have:¬a=b:=by rintro rfl;exact h h2
    simp[h,h2,this]
   ·have:a=b:=UInt8.le_antisymm (UInt8.not_lt.1 h2) (UInt8.not_lt.1 h)
    subst this
    simp[ih,h]
end Tr
def Gf (l:List It):Prop:=l.Pairwise fun a b=>Tr.lt a.key b.key=true
def posOf (l:List It) (key:List UInt8):Nat:=(l.takeWhile fun i=>Tr.lt i.key key).length
def cE (l:List It) (key:List UInt8):Bool:=match l[posOf l key]? with|some i=>decide (i.key=key)|none=>false
theorem su (l:List It) (key:List UInt8):posOf l key≤l.length:=by
 unfold posOf
 exact (List.takeWhile_sublist _).length_le
theorem Gg {l:List It} {key:List UInt8} {i:Nat} (hi:i≤l.length) (h1:∀t (h:t<l.length),t<i→Tr.lt l[t].key key=true) (h2:∀t (h:t<l.length),t=i→Tr.lt l[t].key key=false):posOf l key=i:=by
 have e:l=l.take i++l.drop i:=(List.take_append_drop i l).symm
 unfold posOf
 conv=>lhs;rw[e]
 rw[List.takeWhile_append_of_pos (by
  intro x hx
  obtain⟨t,ht,rfl⟩:=List.mem_iff_getElem.1 hx
  rw[List.length_take] at ht
  rw[List.getElem_take]
  exact h1 t (by omega) (by omega))]
 rcases Nat.lt_or_ge i l.length with hlt|hge
 ·rw[List.drop_eq_getElem_cons hlt,List.takeWhile_cons_of_neg (by rw[h2 i hlt rfl];simp),List.append_nil,List.length_take]
  omega
 ·rw[List.drop_eq_nil_of_le hge,List.takeWhile_nil,List.append_nil,List.length_take]
  omega
theorem Gh {l:List It} (h:Gf l) {t s:Nat} (ht:t<l.length) (hs:s<l.length) (hts:t≤s):Tr.le l[t].key l[s].key:=by
 rcases Nat.lt_or_ge t s with h1|h1
 ·exact Tr.le_of_lt (List.pairwise_iff_getElem.1 h t s ht hs h1)
 ·have:t=s:=by omega
  subst this
  exact Tr.le_refl _
section
variable {w w':World} {p q:Nat} {n m:NV}
theorem fR (h:Nd w p n):Calls Tryz.prog 95 #[ptr p] w fun e w'=>e=.returned (.bool (decide (bz n.its≤510)))∧Below w.heap.size w w':=by
 have hs:=h.small.size
 have HI:=aa (eM h)
 clear h
 obtain⟨b,hb⟩:∃b,b=decide (bz n.its≤510):=⟨_,rfl⟩
 rw[←hb]
 have HB:=aa hb
 clear hb
 generalize bz n.its=s at*
 have FR:(s:Int)≤160800:=by omega
 go_enter Tryz.func95,Tryz.ntmps95
 go_wp2_with fail
 refine HI.out.mono ?_
 rintro e w1 ⟨rfl,aQ⟩
 go_wp2
 go_ret
 exact⟨by rw[HB.out];congr 1;congr 1;simp;omega,aQ⟩
theorem iV (h:Nd w p n) (h2:Nd w q m) (key:List UInt8) (hk:key.length≤1000000):Calls Tryz.prog 144 #[ptr p,ptr q,.string (bs key)] w fun e w'=>e=.returned (.bool (decide (bz n.its+bz m.its+(if n.level=0 then 0 else key.length)≤510)))∧Below w.heap.size w w':=by
 have hs:=h.small.size
 have iU:=h2.small.size
 have c0:=h.c0
 have HI:=aa h
 have HA:=aa (eM h)
 have ZP:=aa h2
 have hkk:(bs key).size=key.length:=aB _
 clear h h2
 obtain⟨b,hb⟩:∃b,b=decide (bz n.its+bz m.its+(if n.level=0 then 0 else key.length)≤510):=⟨_,rfl⟩
 rw[←hb]
 have HB:=aa hb
 clear hb
 generalize bs key=k at*
 obtain⟨s,TL⟩:∃s,s=bz n.its:=⟨_,rfl⟩
 obtain⟨s2,Na⟩:∃s2,s2=bz m.its:=⟨_,rfl⟩
 rw[←TL] at hs
 rw[←Na] at iU
 have HS:=aa (And.intro TL Na)
 clear TL Na
 have FR:(s:Int)≤160800:=by omega
 have ZQ:(s2:Int)≤160800:=by omega
 have pH:(key.length:Int)≤1000000:=by omega
 go_enter Tryz.func144,Tryz.ntmps144
 unfold ptr
 go_wp2_with fail
 refine HA.out.mono ?_
 rintro e w1 ⟨rfl,aQ⟩
 have H1:=aa (And.intro (ZP.out.still aQ) aQ)
 rw[←HS.out.1]
 clear aQ
 go_wp2_with fail
 refine (eM H1.out.1).mono ?_
 rintro e w2 ⟨rfl,aC⟩
 rw[←HS.out.2]
 have H2:=aa (H1.out.2.trans (aC.mono H1.out.2.size))
 have c0':=(HI.out.still H2.out).c0
 clear aC
 by_cases hl:n.level=0
 ·have gz:¬(0:Int)<n.level:=by omega
  have HL:=aa hl
  clear hl
  go_wp2
  go_ret
  exact⟨by rw[HB.out,if_pos HL.out,←HS.out.1,←HS.out.2];congr 1;congr 1;simp;omega,H2.out⟩
 ·have gz:(0:Int)<n.level:=by omega
  have HL:=aa hl
  clear hl
  go_wp2
  go_ret
  exact⟨by rw[HB.out,if_neg HL.out,←HS.out.1,←HS.out.2];congr 1;congr 1;simp;omega,H2.out⟩
theorem oq (w:World) (lo hi key:List UInt8):Calls Tryz.prog 72 #[.agg #[.string (bs lo),.string (bs hi)],.string (bs key)] w fun e w'=>e=.returned (.bool (!hi.isEmpty&& !Tr.lt key hi))∧Below w.heap.size w w':=by
 have h1:(bs hi).toList=hi:=az hi
 have h2:(bs key).toList=key:=az key
 rw[←Tr.lt_eq]
 generalize bs lo=l
 generalize bs hi=h at*
 generalize bs key=k at*
 rw[←h1,←h2]
 clear h1 h2
 go_enter Tryz.func72,Tryz.ntmps72
 go_wp2
 ·rename_i e
  go_ret
  exact⟨by rw[e];rfl,(Below.refl _ w).alloc (Nat.le_refl _) _⟩
 ·go_ret
  exact⟨rfl,(Below.refl _ w).alloc (Nat.le_refl _) _⟩
theorem kS (w:World) (lo hi key:List UInt8):Calls Tryz.prog 41 #[.agg #[.string (bs lo),.string (bs hi)],.string (bs key)] w fun e w'=>e=.returned (.bool (!Tr.lt key lo&& !(!hi.isEmpty&& !Tr.lt key hi)))∧Below w.heap.size w w':=by
 have h1:(bs lo).toList=lo:=az lo
 have h2:(bs key).toList=key:=az key
 have HC:=aa (fun W=>oq W lo hi key)
 generalize (!hi.isEmpty&& !Tr.lt key hi)=b at*
 rw[←Tr.lt_eq]
 generalize bs lo=l at*
 generalize bs hi=h at*
 generalize bs key=k at*
 rw[←h1,←h2]
 clear h1 h2
 cases hlo:Op.bytesLess k.toList l.toList with
 |true=>
  go_enter Tryz.func41,Tryz.ntmps41
  go_wp2
  go_ret
  exact⟨by simp,(Below.refl _ w).alloc (Nat.le_refl _) _⟩
 |false=>
  go_enter Tryz.func41,Tryz.ntmps41
  go_wp2_with fail
  refine (HC.out _).mono ?_
  rintro e w1 ⟨rfl,aQ⟩
  have iI:=aa ((Below.refl w.heap.size w).alloc (Nat.le_refl _) _|>.trans (aQ.mono (by simp only[World.size_alloc];omega)))
  clear aQ
  go_wp2
  go_ret
  exact⟨by simp,iI.out⟩
theorem Bd (a b:ByteArray) (w:World):
  Calls Tryz.prog 93 #[.string a,.string b] w fun e w'=>e=.returned (.int .i64 (Lib.compareBytes a.data.toList b.data.toList))∧w'=w:=by
 go_enter Tryz.func93,Tryz.ntmps93
 go_wp2
 rw[run_callFunc_extern Tryz.func141 (by kernel_rfl) (by kernel_rfl) (by kernel_rfl) (e:=Extern.BytealgCompare.compare) (by kernel_rfl),Lib.run_compareString]
 simp only[Result.andThen]
 rw[Oper.upon_value]
 go_wp2
 go_ret
 exact⟨rfl,rfl⟩
theorem sx (a b:ByteArray) (w:World):
  Calls Tryz.prog 62 #[.string a,.string b] w fun e w'=>e=.returned (.int .i64 (Lib.compareBytes a.data.toList b.data.toList))∧w'=w:=by
 go_enter Tryz.func62,Tryz.ntmps62
 go_wp2_with fail
 refine (Bd _ _ _).mono ?_
 rintro e w' ⟨rfl,rfl⟩
 go_wp2
 go_ret
 exact⟨rfl,rfl⟩
theorem m9 (a b:List UInt8):-1≤Lib.compareBytes a b∧Lib.compareBytes a b≤1:=by
 induction a generalizing b with
 |nil=>cases b<;>simp[Lib.compareBytes]
 |cons x a ih=>
  cases b with
  |nil=>simp[Lib.compareBytes]
  |cons y b=>
   unfold Lib.compareBytes
   split
   ·omega
   ·split
    ·omega
    ·exact ih b
theorem DW (w:World) (k v key:List UInt8) (q:Option Addr):Calls Tryz.prog 61 #[.agg #[.string (bs k),.string (bs v),.pointer q],.string (bs key)] w fun e w'=>e=.returned (.int .i64 (Lib.compareBytes k key))∧Below w.heap.size w w':=by
 have h1:(bs k).data.toList=k:=rfl
 have h2:(bs key).data.toList=key:=rfl
 generalize bs k=a at*
 generalize bs v=b at*
 generalize bs key=c at*
 obtain⟨z,hz⟩:∃z,z=Lib.compareBytes k key:=⟨_,rfl⟩
 have HC:=aa (fun W:World=>sx a c W)
 rw[h1,h2,←hz] at HC
 rw[←hz]
 clear h1 h2 hz
 go_enter Tryz.func61,Tryz.ntmps61
 go_wp2_with fail
 refine (HC.out _).mono ?_
 rintro e w1 ⟨rfl,rfl⟩
 go_wp2
 go_ret
 exact⟨rfl,(Below.refl _ w).alloc (Nat.le_refl _) _⟩
theorem yY (w:World) (g o cap:Nat) (l:List It) (hl:aJ ah w g o l) (hn:l.length≤400) (hs:Gf l) (key:List UInt8):
  Calls Tryz.prog 60 #[.slice (some ⟨g,o,none⟩) l.length cap,.string (bs key),.func (.func 61) #[] #[]] w
   fun e w'=>e=.returned (.tuple #[.int .i64 (posOf l key),.bool (cE l key)])∧Below w.heap.size w w':=by
 have LX:(l.length:Int)≤400:=by omega
 have HL:=aa hl
 have HS:=aa hs
 clear hl hs hn
 obtain⟨L,hL⟩:∃L,L=l.length:=⟨_,rfl⟩
 rw[←hL] at LX ⊢
 have DX:=aa hL
 clear hL
 obtain⟨P,hP⟩:∃P,P=posOf l key:=⟨_,rfl⟩
 obtain⟨T,hT⟩:∃T,T=cE l key:=⟨_,rfl⟩
 rw[←hP,←hT]
 have HP:=aa (And.intro hP hT)
 clear hP hT
 have HC:=aa (fun (W:World) (i:It)=>DW W i.key i.val key (pa i.node))
 generalize bs key=kk at*
 go_enter Tryz.func60,Tryz.ntmps60
 go_wp2
 go_loopw [9,10] (fun iv jv wr=>∃i j:Nat,i≤j∧j≤L∧iv=.int .i64 i∧jv=.int .i64 j∧Hid ((∀t (h:t<l.length),t<i→Tr.lt l[t].key key=true)∧∀t (h:t<l.length),j≤t→Tr.lt l[t].key key=false)∧Hid (Below w.heap.size w wr)) (fun iv jv _=>(RowKit.intOf jv).toNat-(RowKit.intOf iv).toNat)
 case atStart=>exact⟨0,L,Nat.zero_le _,Nat.le_refl _,rfl,rfl,aa ⟨fun _ _ h=>absurd h (Nat.not_lt_zero _),fun t h1 h2=>by have:=DX.out;omega⟩,aa (Below.refl _ _)⟩
 case round=>
  obtain⟨i,j,hij,hj,rfl,rfl,hI,hB⟩:=hrel
  by_cases hlt:i<j
  ·have ng:(i:Int)<j:=by omega
   have DY:(j:Int)≤400:=by omega
   have hk1:i≤(i+j)/2:=by omega
   have hk2:(i+j)/2<j:=by omega
   have gH:(i+j)/2<l.length:=by rw[←DX.out];omega
   have pH:(((i+j)/2:Nat):Int)<L:=by omega
   have ZR:((i:Int)+j)/2<L:=by omega
   have mK:0≤((i:Int)+j)/2:=by omega
   have a0:=aH (cN HL.out hB.out) _ gH
   obtain⟨it,hit⟩:∃it,it=l[(i+j)/2]:=⟨_,rfl⟩
   rw[←hit] at a0
   obtain⟨a0,a1,a2⟩:=a0
   have HK:=aa (show i≤(i+j)/2∧(i+j)/2<j∧∃h:(i+j)/2<l.length,it=l[(i+j)/2] from⟨hk1,hk2,gH,hit⟩)
   have kT:=aa (m9 it.key key)
   obtain⟨z,hz⟩:∃z,z=Lib.compareBytes it.key key:=⟨_,rfl⟩
   have DZ:=aa (fun W=>HC.out W it)
   rw[←hz] at DZ kT
   have HZ:=aa hz
   have D1:=kT.out.1
   have Jv:=kT.out.2
   clear gH hit hk1 hk2 hz hij
   go_wp2_with fail
   refine (DZ.out _).mono ?_
   rintro e w1 ⟨rfl,aQ⟩
   have iI:=aa (hB.out.trans (aQ.mono hB.out.size))
   clear aQ
   by_cases SA:z<0
   ·have TM:=aa ((Tr.m8 _ _).1 (by rw[←HZ.out];exact SA))
    go_wp2
    go_roundw
    case rel=>exact⟨(i+j)/2+1,j,by have:=HK.out.2.1;omega,hj,by go_num,rfl,aa ⟨fun t h1 h2=>Tr.lt_of_le_of_lt (Gh HS.out h1 HK.out.2.2.1 (by omega)) (by rw[←HK.out.2.2.2];exact TM.out),hI.out.2⟩,iI⟩
    case measure=>have:=HK.out;simp[RowKit.intOf];omega
   ·have TM:=aa (show Tr.lt it.key key=false by
     cases h:Tr.lt it.key key
     ·rfl
     ·exact absurd (by rw[HZ.out];exact (Tr.m8 _ _).2 h) SA)
    go_wp2
    go_roundw
    case rel=>exact⟨i,(i+j)/2,HK.out.1,by have:=HK.out.2.1;omega,rfl,by go_num,aa ⟨hI.out.1,fun t h1 h2=>by
     cases h:Tr.lt l[t].key key
     ·rfl
     ·exact absurd (Tr.lt_of_le_of_lt (Gh HS.out HK.out.2.2.1 h1 h2) h) (by rw[←HK.out.2.2.2,TM.out];simp)⟩,iI⟩
    case measure=>have:=HK.out;simp[RowKit.intOf];omega
  ·obtain rfl:i=j:=by omega
   have ng:¬(i:Int)<i:=by omega
   clear hlt hij
   have SB:=aa (show P=i from HP.out.1.trans (Gg (by rw[←DX.out];exact hj) (fun t h1 h2=>hI.out.1 t h1 h2) (fun t h1 h2=>hI.out.2 t h1 (by omega))))
   by_cases SC:i<L
   ·have Gi:(i:Int)<L:=by omega
    have hil:i<l.length:=by rw[←DX.out];exact SC
    have a0:=aH (cN HL.out hB.out) _ hil
    have HT:=aa (show T=decide (l[i].key=key) by
     rw[HP.out.2]
     unfold cE
     rw[←HP.out.1,SB.out,List.getElem?_eq_getElem hil])
    generalize l[i]=it at*
    obtain⟨a0,a1,a2⟩:=a0
    obtain⟨z,hz⟩:∃z,z=Lib.compareBytes it.key key:=⟨_,rfl⟩
    have DZ:=aa (fun W=>HC.out W it)
    rw[←hz] at DZ
    have HZ:=aa (show decide (it.key=key)=(z==0) by rw[hz,Bool.eq_iff_iff,decide_eq_true_eq,beq_iff_eq];exact (Tr.compare_eq _ _).symm)
    clear hil SC hz
    go_wp2_with fail
    refine (DZ.out _).mono ?_
    rintro e w1 ⟨rfl,aQ⟩
    have iI:=aa (hB.out.trans (aQ.mono hB.out.size))
    clear aQ
    go_wp2
    go_ret2
    exact⟨by rw[SB.out,HT.out,HZ.out];rfl,iI.out⟩
   ·have Gi:¬(i:Int)<L:=by omega
    have HT:=aa (show T=false by
     rw[HP.out.2]
     unfold cE
     rw[←HP.out.1,SB.out,List.getElem?_eq_none (by rw[←DX.out];omega)])
    clear SC
    go_wp2
    go_ret2
    exact⟨by rw[SB.out,HT.out];rfl,hB.out⟩
end
end Go.Proofs.YtloekpcncjocaaaGreatDoor
namespace Go.Proofs.YtloekpcncjocaaaGreatDoor
namespace Tr
theorem kU {k:Nat} {a a' b:E (k+1)} {x:Tx} (h:cut (k+1) a x b) (hs:sz k (its a)≤sz k (its a')):cut (k+1) a' x b:=by unfold cut at h ⊢;omega
theorem ji {k:Nat} {a b b':E (k+1)} {x:Tx} (h:cut (k+1) a x b) (hs:sz k (its b)≤sz k (its b')):cut (k+1) a x b':=by unfold cut at h ⊢;omega
theorem rA (a b:E 1) (x:Tx):cut 1 a x b↔510<sz 0 (its a)+sz 0 (its b):=by
 show 510<sz 0 (its a)+sz 0 (its b)+0↔_
 rw[Nat.add_zero]
theorem rB {k:Nat} (a b:E (k+2)) (x:Tx):cut (k+2) a x b↔510<sz (k+1) (its a)+sz (k+1) (its b)+x.length:=by
 show 510<_+(if k+1=0 then 0 else x.length)↔_
 rw[if_neg (Nat.succ_ne_zero _)]
theorem bA {α:Type} (A:List α) (a:α):(A++[a]).getLast?=some a:=by simp
theorem mM {α:Type} (A:List α) (a:α):(A++[a]).dropLast=A:=by simp
theorem ck {α:Type} {l:List α} (h:l≠[]):∃A a,l=A++[a]:=⟨l.dropLast,l.getLast h,(List.dropLast_concat_getLast h).symm⟩
theorem gZ {α:Type} (x:Tx) (A:List (Tx×α)) (a:Tx×α):∃A' y,aN x (A++[a])=A'++[(y,a.2)]∧∀v:α,aN x (A++[(a.1,v)])=A'++[(y,v)]:=by
 cases A with
 |nil=>exact⟨[],x,rfl,fun _=>rfl⟩
 |cons p A=>exact⟨(x,p.2)::A,a.1,rfl,fun _=>rfl⟩
theorem Kf (k:Nat) (p:Tx×E k):2≤gh k p:=by unfold gh;omega
theorem cw (k:Nat) (p:Tx×E (k+1)):gh (k+1) p=4+p.1.length:=by show 2+p.1.length+2=_;omega
theorem Gj (k:Nat) (x:Tx) (p:Tx×E k) (l:List (Tx×E k)):sz k (aN x (p::l))+p.1.length=sz k (p::l)+x.length:=by simp only[setHd_cons,sz,gh];omega
theorem Kg {k:Nat} {l:List (Tx×E k)} (h:l≠[]):2≤sz k l:=by
 cases l with
 |nil=>exact absurd rfl h
 |cons p l=>have:=Kf k p;simp only[sz];omega
theorem Gk {k:Nat} {l:List (Tx×E (k+1))} (h:l≠[]):4≤sz (k+1) l:=by
 cases l with
 |nil=>exact absurd rfl h
 |cons p l=>rw[sz,cw];omega
def join:(k:Nat)→E (k+1)→E (k+1)→Tx→E (k+1)×List Nat
 |0,n,m,_=>(mk ⟨(hd n).page,true⟩ (its n++its m),(hd m).page.toList)
 |k+1,n,m,x=>
  match (its n).getLast?,its m with
  |some a,b::r=>
   if cut (k+1) a.2 x b.2 then (mk ⟨(hd n).page,true⟩ (its n++(x,b.2)::r),(hd m).page.toList)
   else (mk ⟨(hd n).page,true⟩ ((its n).dropLast++(a.1,(join k a.2 b.2 x).1)::r),(join k a.2 b.2 x).2++(hd m).page.toList)
  |_,_=>(n,[])
theorem pX (n m:E 1) (x:Tx):join 0 n m x=(mk ⟨(hd n).page,true⟩ (its n++its m),(hd m).page.toList):=rfl
theorem jk {k:Nat} {n m:E (k+2)} {x:Tx} {A r:List (Tx×E (k+1))} {a b:Tx×E (k+1)} (hn:its n=A++[a]) (hm:its m=b::r):
  join (k+1) n m x=if cut (k+1) a.2 x b.2 then (mk ⟨(hd n).page,true⟩ (A++a::(x,b.2)::r),(hd m).page.toList)
   else (mk ⟨(hd n).page,true⟩ (A++(a.1,(join k a.2 b.2 x).1)::r),(join k a.2 b.2 x).2++(hd m).page.toList):=by
 show (match (its n).getLast?,its m with
  |some a,b::r=>
   if cut (k+1) a.2 x b.2 then (mk ⟨(hd n).page,true⟩ (its n++(x,b.2)::r),(hd m).page.toList)
   else (mk ⟨(hd n).page,true⟩ ((its n).dropLast++(a.1,(join k a.2 b.2 x).1)::r),(join k a.2 b.2 x).2++(hd m).page.toList)
  |_,_=>(n,[]))=_
 rw[hn,hm,bA]
 simp only[mM,List.append_assoc,List.cons_append,List.nil_append]
theorem Ok.key {k:Nat} {lo:Tx} {h:Option Tx} {b:Tx×E (k+1)} {r:List (Tx×E (k+1))} {m:E (k+2)} (o:Ok (k+2) lo h m) (hm:its m=b::r):b.1=[]∧bT (Ok (k+1)) (cut (k+1)) h ((lo,b.2)::r):=by
 obtain⟨_,_,h3,h4⟩:=o
 refine⟨?_, ?_⟩
 ·have:=h3 b (by rw[hm];rfl)
  rwa [if_neg (Nat.succ_ne_zero _)] at this
 ·unfold pI at h4
  rw[if_neg (Nat.succ_ne_zero _),hm] at h4
  exact h4
structure Joined (k:Nat) (lo:Tx) (h:Option Tx) (n m:E (k+1)) (j:E (k+1)) (sp:List Nat):Prop where
 ok:Ok (k+1) lo h j
 bE:bE k (its j)=bE k (its n)++bE k (its m)
 page:(hd j).page=(hd n).page
 left:sz k (its n)≤sz k (its j)
 right:sz k (its m)≤sz k (its j)
 bg:(bg (k+1) j++sp).Perm (bg (k+1) n++bg (k+1) m)
 old:Old (k+1) n→Old (k+1) j
 dr:Old (k+1) m→dr (k+1) j=dr (k+1) n+dr (k+1) m
theorem qV {α:Type} (A:List α) (a:α) (B:List α):(A++a::B).head?=(A++[a]).head?:=by cases A<;>rfl
theorem vu {a b:List Nat} {p q:List Nat}:((p++(a++b))++q).Perm ((p++a)++(q++b)):=by
 rw[List.append_assoc,List.append_assoc,List.append_assoc]
 exact List.Perm.append_left p (List.Perm.append_left a List.perm_append_comm)
theorem ot:∀(k:Nat) {lo:Tx} {h:Option Tx} {n m:E (k+1)} {x:Tx},Ok (k+1) lo (some x) n→Ok (k+1) x h m→x.length≤96→¬cut (k+1) n x m→Joined k lo h n m (join k n m x).1 (join k n m x).2
 |0,lo,h,n,m,x,on,om,hx,hc=>by
  rw[pX]
  obtain⟨n1,n2,n3,n4⟩:=on
  obtain⟨m1,m2,m3,m4⟩:=om
  obtain⟨A,a,hA⟩:=ck n1
  cases hB:its m with
  |nil=>exact absurd hB m1
  |cons b B=>
   have hsz:sz 0 (its n++its m)=sz 0 (its n)+sz 0 (its m):=b9 _ _ _
   have AQ:=m3 b (by rw[hB];rfl)
   rw[if_pos rfl] at AQ
   refine⟨⟨?_, ?_, ?_, ?_⟩, ?_,rfl, ?_, ?_, ?_, ?_, ?_⟩
   ·rw[its_mk];intro e;exact n1 (List.append_eq_nil_iff.1 e).1
   ·rw[its_mk,←hB,hsz]
    rw[rA] at hc
    omega
   ·intro p hp
    refine n3 p ?_
    rw[its_mk,hA,List.append_assoc] at hp
    rw[hA]
    cases A<;>exact hp
   ·show bT (Ok 0) (cut 0) h (its n++b::B)
    rw[hA,List.append_assoc]
    unfold pI at n4 m4
    rw[if_pos rfl] at n4 m4
    rw[hA] at n4
    rw[hB] at m4
    have hl:lt a.1 b.1=true:=lt_of_lt_of_le n4.last.2 AQ.1
    exact bT.append.2 ⟨bT.gq (x:=a.2) n4 ⟨n4.last.1,hl⟩ (fun _ _ h=>h),⟨hl,AQ.2,trivial⟩,m4⟩
   ·rw[its_mk,←hB];rfl
   ·rw[its_mk,←hB,hsz];omega
   ·rw[its_mk,←hB,hsz];omega
   ·rw[aK,aK,aK,its_mk,hd_mk,←hB,aT]
    exact vu
   ·intro o
    refine⟨o.1,fun _ _=>trivial⟩
   ·intro o
    have hp:=o.1
    rw[aV,aV,aV,its_mk,hd_mk,←hB,bF,if_pos hp]
    show (if (hd n).page.isSome=true then 0 else 1)+_=_
    omega
 |k+1,lo,h,n,m,x,on,om,hx,hc=>by
  obtain⟨A,a,hA⟩:=ck on.1
  cases hB:its m with
  |nil=>exact absurd hB om.1
  |cons b r=>
   rw[jk hA hB]
   obtain⟨hb,ms⟩:=om.key hB
   have ns:bT (Ok (k+1)) (cut (k+1)) (some x) (aN lo (A++[a])):=by
    have:=on.2.2.2
    unfold pI at this
    rwa [if_neg (Nat.succ_ne_zero _),hA] at this
   obtain⟨A',y,LY,ZS⟩:=gZ lo A a
   rw[LY] at ns
   have Xp:lt y x=true:=ns.last.lt
   have Be:=Gk on.1
   have TN:sz (k+1) (its m)=4+sz (k+1) r:=by rw[hB,sz,cw,hb];rfl
   have hcs:sz (k+1) (its n)+sz (k+1) (its m)+x.length≤510:=by
    rw[rB] at hc
    omega
   have vw:∀(v:E (k+1)) (B:List (Tx×E (k+1))),Head (k+1) lo (A++(a.1,v)::B):=by
    intro v B p hp
    rw[if_neg (Nat.succ_ne_zero _)]
    have h3:=on.2.2.1
    cases A with
    |nil=>
     cases hp
     have:=h3 a (by rw[hA];rfl)
     rwa [if_neg (Nat.succ_ne_zero _)] at this
    |cons q A=>
     have:=h3 p (by rw[hA];exact hp)
     rwa [if_neg (Nat.succ_ne_zero _)] at this
   have Pz:∀(v:E (k+1)) (B:List (Tx×E (k+1))),pI (k+1) lo (A++(a.1,v)::B)=A'++(y,v)::B:=by
    intro v B
    unfold pI
    rw[if_neg (Nat.succ_ne_zero _),show A++(a.1,v)::B=(A++[(a.1,v)])++B by simp,dx _ _ _ (by simp),ZS v]
    simp
   have D2:∀(v:E (k+1)) (B:List (Tx×E (k+1))),sz (k+1) (A++(a.1,v)::B)=sz (k+1) (its n)+sz (k+1) B:=by
    intro v B
    rw[hA,b9,b9,sz,sz,sz,cw,cw]
    show _+(4+a.1.length+_)=_
    omega
   by_cases ux:cut (k+1) a.2 x b.2
   ·rw[if_pos ux]
    have e1:A++a::(x,b.2)::r=A++(a.1,a.2)::(x,b.2)::r:=rfl
    refine⟨⟨?_, ?_, ?_, ?_⟩, ?_,rfl, ?_, ?_, ?_, ?_, ?_⟩
    ·rw[its_mk];simp
    ·rw[its_mk,e1,D2,sz,cw]
     show _+(4+x.length+_)≤510
     omega
    ·rw[its_mk];exact vw a.2 _
    ·rw[its_mk,e1,Pz]
     exact bT.append.2 ⟨ns,⟨Xp,hx,ux⟩,ms⟩
    ·rw[its_mk,hA,hB,show A++a::(x,b.2)::r=(A++[a])++(x,b.2)::r by simp,aS]
     rfl
    ·rw[its_mk,e1,D2];omega
    ·rw[its_mk,e1,D2,TN,sz,cw];omega
    ·rw[aK,aK,aK,its_mk,hd_mk,hA,hB,show A++a::(x,b.2)::r=(A++[a])++(x,b.2)::r by simp,aT]
     exact vu
    ·intro o
     refine⟨o.1,fun p hp=>o.2 p ?_⟩
     rw[its_mk,qV] at hp
     rw[hA];exact hp
    ·intro o
     rw[aV,aV,aV,its_mk,hd_mk,hA,hB,show A++a::(x,b.2)::r=(A++[a])++(x,b.2)::r by simp,bF,if_pos o.1,cV,cV]
     show (if (hd n).page.isSome=true then 0 else 1)+(_+(dr (k+1) b.2+_))=_
     omega
   ·rw[if_neg ux]
    have key:∀h',Ok (k+1) x h' b.2→Joined k y h' a.2 b.2 (join k a.2 b.2 x).1 (join k a.2 b.2 x).2:=fun h' ob=>ot k ns.last ob hx ux
    generalize hj:join k a.2 b.2 x=j at key
    have J:Joined k y (match r with|[]=>h|c::_=>some c.1) a.2 b.2 j.1 j.2:=by
     cases r with
     |nil=>exact key _ ms
     |cons c r=>exact key _ ms.1
    refine⟨⟨?_, ?_, ?_, ?_⟩, ?_,rfl, ?_, ?_, ?_, ?_, ?_⟩
    ·rw[its_mk];simp
    ·rw[its_mk,D2];omega
    ·rw[its_mk];exact vw _ _
    ·rw[its_mk,Pz]
     cases r with
     |nil=>exact bT.gq (a:=(y,a.2)) ns J.ok (fun _ _ hc=>ji hc J.left)
     |cons c r=>
      have hs:=bT.gq (a:=(y,a.2)) (h':=some c.1) ns J.ok (fun _ _ hc=>ji hc J.left)
      exact bT.append.2 ⟨hs,⟨lt_trans Xp ms.2.1.1,ms.2.1.2.1,kU ms.2.1.2.2 J.right⟩,ms.2.2⟩
    ·rw[its_mk,hA,hB,aS,aS,show (a.1,j.1)::r=[(a.1,j.1)]++r from rfl,show b::r=[b]++r from rfl,aS,aS,cD,cD,cD,J.bE]
     simp only[List.append_assoc]
    ·rw[its_mk,D2];omega
    ·rw[its_mk,D2];omega
    ·have hp:=J.bg
     rw[aK,aK (k+1) n,aK (k+1) m,its_mk,hd_mk,hA,hB,aT,aT,dB,dB,dB]
     show (((hd n).page.toList++(b_ (k+1) A++(bg (k+1) j.1++b_ (k+1) r)))++(j.2++(hd m).page.toList)).Perm (((hd n).page.toList++(b_ (k+1) A++(bg (k+1) a.2++b_ (k+1) [])))++((hd m).page.toList++(bg (k+1) b.2++b_ (k+1) r)))
     have e0:b_ (k+1) ([]:List (Tx×E (k+1)))=[]:=rfl
     rw[e0,List.append_nil]
     simp only[List.append_assoc]
     refine List.Perm.append_left _ (List.Perm.append_left _ ?_)
     generalize b_ (k+1) r=R
     generalize (hd m).page.toList=M
     have h1:(bg (k+1) j.1++(R++(j.2++M))).Perm ((bg (k+1) j.1++j.2)++(R++M)):=by
      rw[List.append_assoc]
      refine List.Perm.append_left _ ?_
      rw[←List.append_assoc,←List.append_assoc]
      exact List.Perm.append_right _ List.perm_append_comm
     refine h1.trans ((List.Perm.append_right _ hp).trans ?_)
     rw[List.append_assoc]
     refine List.Perm.append_left _ ?_
     have h2:(bg (k+1) b.2++(R++M)).Perm ((bg (k+1) b.2++R)++M):=by rw[List.append_assoc]
     exact h2.trans List.perm_append_comm
    ·intro o
     refine⟨o.1,fun p hp=> ?_⟩
     rw[its_mk] at hp
     cases A with
     |nil=>
      cases hp
      exact J.old (o.2 a (by rw[hA];rfl))
     |cons q A=>exact o.2 p (by rw[hA];exact hp)
    ·intro o
     have ho:=J.dr (o.2 b (by rw[hB];rfl))
     rw[aV,aV (k+1) n,aV (k+1) m,its_mk,hd_mk,hA,hB,bF,bF,cV,cV,cV,if_pos o.1]
     show (if (hd n).page.isSome=true then 0 else 1)+(_+(dr (k+1) j.1+_))=_
     have e0:iA (k+1) ([]:List (Tx×E (k+1)))=0:=rfl
     omega
end Tr
end Go.Proofs.YtloekpcncjocaaaGreatDoor
namespace Go.Proofs.YtloekpcncjocaaaGreatDoor
namespace Tr
def bG:Tx→Tx→Tx
 |[],b=>b.take 1
 |_::_,[]=>[]
 |x::a,y::b=>if x=y then y::bG a b else [y]
theorem qC:∀{a b:Tx},lt a b=true→le (bG a b) b∧lt a (bG a b)=true∧(bG a b).length≤b.length
 |[],[],h=>by cases h
 |[],y::b,_=>⟨by simp only[bG,le,List.take,lt];cases b<;>simp,rfl,by simp[bG]⟩
 |_::_,[],h=>by simp[lt] at h
 |x::a,y::b,h=>by
  unfold bG
  by_cases e:x=y
  ·subst e
   rw[if_pos rfl]
   have h':lt a b=true:=by
    simp only[lt,Bool.or_eq_true,decide_eq_true_eq,Bool.and_eq_true,beq_iff_eq] at h
    rcases h with h|h
    ·exact absurd h (UInt8.lt_irrefl x)
    ·exact h.2
   obtain⟨h1,h2,h3⟩:=qC h'
   refine⟨?_, ?_,by simpa using h3⟩
   ·unfold le at h1 ⊢
    simp[lt,h1]
   ·simp[lt,h2]
  ·rw[if_neg e]
   have hxy:x<y:=by
    simp only[lt,Bool.or_eq_true,decide_eq_true_eq,Bool.and_eq_true,beq_iff_eq] at h
    rcases h with h|h
    ·exact h
    ·exact absurd h.1 e
   refine⟨?_, ?_,by simp⟩
   ·unfold le
    cases b<;>simp[lt]
   ·simp[lt,hxy]
def bu (k:Nat) (tot:Nat):Nat→List (Tx×E k)→List (Tx×E k)×List (Tx×E k)
 |_,[]=>([],[])
 |_,[p]=>([],[p])
 |s,p::q::r=>if 2*s<tot then (p::(bu k tot (s+gh k p) (q::r)).1,(bu k tot (s+gh k p) (q::r)).2) else ([],p::q::r)
theorem nh (k tot:Nat):∀(l:List (Tx×E k)) (s:Nat),(bu k tot s l).1++(bu k tot s l).2=l
 |[],_=>rfl
 |[_],_=>rfl
 |p::q::r,s=>by
  unfold bu
  split
  ·show p::(_++_)=_
   rw[nh k tot (q::r)]
  ·rfl
theorem jO (k tot:Nat):∀(l:List (Tx×E k)) (s:Nat),l≠[]→(bu k tot s l).2≠[]
 |[],_,h=>absurd rfl h
 |[_],_,_=>by simp[bu]
 |p::q::r,s,_=>by
  unfold bu
  split
  ·exact jO k tot (q::r) _ (by simp)
  ·simp
theorem sy (k tot M:Nat):∀(l:List (Tx×E k)) (s:Nat),(∀p∈l,gh k p≤M)→2*s<tot+2*M→2*(s+sz k (bu k tot s l).1)<tot+2*M
 |[],s,_,h=>by simpa[bu,sz] using h
 |[_],s,_,h=>by simpa[bu,sz] using h
 |p::q::r,s,hM,h=>by
  unfold bu
  split
  ·rename_i h1
   have hp:=hM p List.mem_cons_self
   have:=sy k tot M (q::r) (s+gh k p) (fun x hx=>hM x (List.mem_cons_of_mem _ hx)) (by omega)
   show 2*(s+(gh k p+_))<_
   omega
  ·simpa[sz] using h
theorem qD (k tot M:Nat):∀(l:List (Tx×E k)) (s:Nat),(∀p∈l,gh k p≤M)→s+sz k l=tot→2*sz k (bu k tot s l).2≤tot∨sz k (bu k tot s l).2≤M
 |[],_,_,_=>.inr (Nat.zero_le _)
 |[p],_,hM,_=>.inr (by have:=hM p List.mem_cons_self;simpa[bu,sz] using this)
 |p::q::r,s,hM,h=>by
  unfold bu
  split
  ·exact qD k tot M (q::r) (s+gh k p) (fun x hx=>hM x (List.mem_cons_of_mem _ hx)) (by rw[sz] at h;omega)
  ·rename_i h1
   left
   show 2*sz k (p::q::r)≤tot
   omega
theorem jP (k tot:Nat) (l:List (Tx×E k)) (h1:sz k l=tot) (hM:∀p∈l,gh k p≤510) (ht:510<tot):(bu k tot 0 l).1≠[]:=by
 cases l with
 |nil=>rw[sz] at h1;omega
 |cons p l=>
  cases l with
  |nil=>
   have:=hM p List.mem_cons_self
   simp only[sz] at h1
   omega
  |cons q r=>
   unfold bu
   rw[if_pos (by omega)]
   simp
structure LZ (k:Nat) where
 low:E (k+1)
 key:Tx
 up:E (k+1)
def ow {α:Type} (l:List (Tx×α)):Tx:=match l.getLast? with|none=>[]|some a=>a.1
def bk {α:Type} (l:List (Tx×α)):Tx:=match l with|[]=>[]|a::_=>a.1
def part (k:Nat) (n:E (k+1)):LZ k:=
 ⟨mk ⟨(hd n).page,true⟩ (bu k (sz k (its n)) 0 (its n)).1,
  if k=0 then bG (ow (bu k (sz k (its n)) 0 (its n)).1) (bk (bu k (sz k (its n)) 0 (its n)).2) else bk (bu k (sz k (its n)) 0 (its n)).2,
  mk ⟨none,true⟩ (if k=0 then (bu k (sz k (its n)) 0 (its n)).2 else aN [] (bu k (sz k (its n)) 0 (its n)).2)⟩
structure Bf (k:Nat) (lo:Tx) (h:Option Tx) (n:E (k+1)) (s:LZ k):Prop where
 low:Ok (k+1) lo (some s.key) s.low
 up:Ok (k+1) s.key h s.up
 len:s.key.length≤96
 cut:cut (k+1) s.low s.key s.up
 bE:bE k (its s.low)++bE k (its s.up)=bE k (its n)
 bg:bg (k+1) s.low++bg (k+1) s.up=bg (k+1) n
 old:Old (k+1) n→Old (k+1) s.low
 dr:dr (k+1) s.low+dr (k+1) s.up=dr (k+1) n+1
theorem bT.lens {α:Type} {O:Tx→Option Tx→α→Prop} {C:α→Tx→α→Prop} {h:Option Tx}:∀{a:Tx×α} {l:List (Tx×α)},bT O C h (a::l)→∀p∈l,p.1.length≤96
 |_,[],_,_,hp=>by cases hp
 |_,b::r,hs,p,hp=>by
  rcases List.mem_cons.1 hp with rfl|hp
  ·exact hs.2.1.2.1
  ·exact bT.lens (a:=b) hs.2.2 p hp
theorem bT.each {α:Type} {O:Tx→Option Tx→α→Prop} {C:α→Tx→α→Prop} {h:Option Tx}:∀{l:List (Tx×α)},bT O C h l→∀p∈l,∃u,O p.1 u p.2
 |[],_,_,hp=>by cases hp
 |[a],hs,p,hp=>by rw[List.mem_singleton.1 hp];exact⟨_,hs⟩
 |a::b::r,hs,p,hp=>by
  rcases List.mem_cons.1 hp with rfl|hp
  ·exact⟨_,hs.1⟩
  ·exact bT.each (l:=b::r) hs.2.2 p hp
theorem Rw.size {k:Nat} {lo:Tx} {h:Option Tx} {l:List (Tx×E k)} (w:Rw k lo h l):∀p∈l,gh k p≤154:=by
 intro p hp
 obtain⟨h3,h4⟩:=w
 cases l with
 |nil=>cases hp
 |cons a r=>
  have ha:=h3 a rfl
  unfold pI at h4
  cases k with
  |zero=>
   rw[if_pos rfl] at ha h4
   obtain⟨u,hu⟩:=h4.each p hp
   have hl:p.1.length≤96:=by
    rcases List.mem_cons.1 hp with rfl|hp
    ·exact ha.2
    ·exact h4.lens p hp
   have:=hu.1
   unfold gh
   omega
  |succ k=>
   rw[if_neg (Nat.succ_ne_zero _)] at ha h4
   rw[cw]
   have hl:p.1.length≤96:=by
    rcases List.mem_cons.1 hp with rfl|hp
    ·rw[ha];exact Nat.zero_le _
    ·exact bT.lens (a:=(lo,a.2)) h4 p hp
   omega
theorem ox {α:Type} (A:List (Tx×α)) (a:Tx×α):ow (A++[a])=a.1:=by unfold ow;rw[bA]
theorem lV (k:Nat) {lo:Tx} {h:Option Tx} {n:E (k+1)} (o:fJ k lo h n) (hb:510<sz k (its n)):Bf k lo h n (part k n):=by
 have hM:=o.2.size
 have hall:=nh k (sz k (its n)) (its n) 0
 have hne:its n≠[]:=by intro e;rw[e] at hb;exact absurd hb (by simp[sz])
 have hu:=jO k (sz k (its n)) (its n) 0 hne
 have hl:=jP k _ (its n) rfl (fun p hp=>by have:=hM p hp;omega) hb
 have s1:=sy k (sz k (its n)) 154 (its n) 0 hM (by omega)
 have s2:=qD k (sz k (its n)) 154 (its n) 0 hM (by omega)
 have hsz:=b9 k (bu k (sz k (its n)) 0 (its n)).1 (bu k (sz k (its n)) 0 (its n)).2
 rw[hall] at hsz
 have h664:=o.1
 obtain⟨o3,o4⟩:=o.2
 unfold part
 generalize bu k (sz k (its n)) 0 (its n)=lu at*
 obtain⟨L,U⟩:=lu
 simp only at hall hu hl s1 s2 hsz ⊢
 obtain⟨A,a,rfl⟩:=ck hl
 cases U with
 |nil=>exact absurd rfl hu
 |cons b B=>
  rw[ox]
  have vw:∀p,(A++[a]).head?=some p→(its n).head?=some p:=by
   intro p hp
   rw[←hall]
   cases A<;>exact hp
  cases k with
  |zero=>
   simp only[if_pos]
   unfold pI at o4
   rw[if_pos rfl,←hall,List.append_assoc] at o4
   obtain⟨t1,t2,t3⟩:=bT.append.1 o4
   obtain⟨k1,k2,k3⟩:=qC t2.1
   show Bf 0 lo h n ⟨_,bG a.1 b.1,_⟩
   generalize bG a.1 b.1=x at k1 k2 k3
   refine⟨⟨?_, ?_, ?_, ?_⟩,⟨?_, ?_, ?_, ?_⟩,by have:=t2.2.1;show x.length≤96;omega, ?_, ?_, ?_, ?_, ?_⟩
   ·rw[its_mk];exact hl
   ·have e2:sz 0 (A++[a])≤510:=by omega
    exact e2
   ·intro p hp;exact o3 p (vw p hp)
   ·show bT (Ok 0) (cut 0) (some x) (A++[a])
    exact bT.gq (x:=a.2) t1 ⟨t1.last.1,k2⟩ (fun _ _ h=>h)
   ·rw[its_mk];simp
   ·have e2:sz 0 (b::B)≤510:=by omega
    exact e2
   ·intro p hp
    rw[its_mk] at hp
    cases hp
    rw[if_pos rfl]
    exact⟨k1,t2.2.1⟩
   ·exact t3
   ·have e2:510<sz 0 (A++[a])+sz 0 (b::B):=by omega
    exact (rA _ _ _).2 e2
   ·rw[its_mk,its_mk,←hall];rfl
   ·have e2:=aT 0 (A++[a]) (b::B)
    rw[aK,aK,aK,←hall,e2,List.append_assoc];rfl
   ·intro q;exact⟨q.1,fun _ _=>trivial⟩
   ·have e2:=bF 0 (A++[a]) (b::B)
    rw[aV,aV,aV,←hall,e2]
    show (if (hd n).page.isSome=true then 0 else 1)+iA 0 (A++[a])+(1+iA 0 (b::B))=_
    omega
  |succ k=>
   rw[if_neg (Nat.succ_ne_zero _),if_neg (Nat.succ_ne_zero _)]
   unfold pI at o4
   rw[if_neg (Nat.succ_ne_zero _),←hall] at o4
   obtain⟨A',y,LY,_⟩:=gZ lo A a
   rw[dx _ _ _ hl,LY,List.append_assoc] at o4
   obtain⟨t1,t2,t3⟩:=bT.append.1 o4
   have e1:=Gj (k+1) [] b B
   show Bf (k+1) lo h n ⟨_,b.1,_⟩
   refine⟨⟨?_, ?_, ?_, ?_⟩,⟨?_, ?_, ?_, ?_⟩,t2.2.1, ?_, ?_, ?_, ?_, ?_⟩
   ·rw[its_mk];exact hl
   ·rw[its_mk];omega
   ·intro p hp;exact o3 p (vw p hp)
   ·unfold pI
    rw[its_mk,if_neg (Nat.succ_ne_zero _),LY]
    exact t1
   ·rw[its_mk,ne_eq,jN];simp
   ·rw[its_mk]
    have:([]:Tx).length=0:=rfl
    omega
   ·intro p hp
    rw[its_mk] at hp
    cases hp
    rw[if_neg (Nat.succ_ne_zero _)]
   ·unfold pI
    rw[its_mk,if_neg (Nat.succ_ne_zero _)]
    exact t3
   ·rw[rB,its_mk,its_mk]
    have:([]:Tx).length=0:=rfl
    show 510<_+_+b.1.length
    omega
   ·rw[its_mk,its_mk,gR,←aS,hall]
   ·have e2:=aT (k+1) (A++[a]) (b::B)
    rw[aK,aK,aK,←hall,e2,List.append_assoc];rfl
   ·intro q
    refine⟨q.1,fun p hp=>q.2 p (vw p ?_)⟩
    rw[its_mk] at hp
    exact hp
   ·have e2:=bF (k+1) (A++[a]) (b::B)
    rw[aV,aV,aV,←hall,e2]
    show (if (hd n).page.isSome=true then 0 else 1)+iA (k+1) (A++[a])+(1+iA (k+1) (b::B))=_
    omega
end Tr
end Go.Proofs.YtloekpcncjocaaaGreatDoor
namespace Go.Proofs.YtloekpcncjocaaaGreatDoor
namespace Bl
open Wl (Text)
open Rm
theorem D3 (x:Option Text) (pg:List (Option Text)):used (x::pg)=x.isSome.toNat+used pg:=by
 unfold used
 cases x
 ·rw[List.filter_cons,if_neg (by decide)]
  show _=0+_
  omega
 ·rw[List.filter_cons,if_pos (show (some _:Option Text).isSome=true from rfl),List.length_cons]
  show _=1+_
  omega
theorem iJ:∀{pg:List (Option Text)},used pg<pg.length→∃p,firstFree pg=some p
 |[],h=>absurd h (Nat.not_lt_zero _)
 |none::pg,_=>⟨0,rfl⟩
 |some t::pg,h=>by
  obtain⟨p,hp⟩:=iJ (pg:=pg) (by
   rw[D3,List.length_cons] at h
   have:(some t:Option Text).isSome.toNat=1:=rfl
   omega)
  exact⟨p+1,by show (firstFree pg).map (· +1)=_;rw[hp];rfl⟩
end Bl
end Go.Proofs.YtloekpcncjocaaaGreatDoor
namespace Go.Proofs.YtloekpcncjocaaaGreatDoor
open Go.RowKit Lib
theorem iK (s:ByteArray) (k:Nat) (hk:k<s.size):s.data.toList.getD k 0=s[k]:=by
 rw[List.getD_eq_getElem?_getD,List.getElem?_eq_getElem (by rw[Array.length_toList];exact hk),Option.getD_some]
 rfl
theorem Bg (a b:Nat) (h:a|||b<9223372036854775808) (ha:a<18446744073709551616) (hb:b<18446744073709551616):bits .or .i64 (a:Int) (b:Int)=((a|||b:Nat):Int):=by
 show IntKind.i64.wrap ((BitVec.ofInt 64 (a:Int)|||BitVec.ofInt 64 (b:Int)).toNat:Int)=_
 rw[BitVec.toNat_or,ofInt_u64 a ha,ofInt_u64 b hb]
 generalize a|||b=c at*
 have e:(c:Int)%2^64=c:=Int.emod_eq_of_lt (by omega) (by omega)
 simp only[IntKind.wrap,IntKind.bits,IntKind.signed,e]
 rw[if_neg]
 simp
 omega
theorem bQ (n:Nat) (h:n<9223372036854775808):IntKind.i64.wrap (n:Int)=(n:Int):=by
 have e:(n:Int)%2^64=n:=Int.emod_eq_of_lt (by omega) (by omega)
 simp only[IntKind.wrap,IntKind.bits,IntKind.signed,e]
 rw[if_neg]
 simp
 omega
theorem PA (a b n:Nat) (h:b<2^n):a*2^n|||b=a*2^n+b:=by
 rw[show a*2^n=a<<<n from by rw[Nat.shiftLeft_eq],←Nat.shiftLeft_add_eq_or_of_lt h]
theorem Bh (a b:UInt8):bits .or .i64 (IntKind.i64.wrap (IntKind.i64.wrap (a.toNat:Int)*256)) (IntKind.i64.wrap (b.toNat:Int))=((a.toNat*256+b.toNat:Nat):Int):=by
 have ha:=a.toNat_lt
 have hb:=b.toNat_lt
 have e:a.toNat*256|||b.toNat=a.toNat*256+b.toNat:=PA _ _ 8 hb
 rw[bQ b.toNat (by omega),bQ a.toNat (by omega),show (a.toNat:Int)*256=((a.toNat*256:Nat):Int) by omega,bQ (a.toNat*256) (by omega),Bg _ _ (by rw[e];omega) (by omega) (by omega),e]
theorem Gl (w:World) (g c:Nat) (l:List UInt8) (hb:aG w g 5 (l.map aR)):(convert 67 9 (.slice (some ⟨g,0,none⟩) l.length c)).run Tryz.prog w=.ok (.string (bs l)) w:=by
 exact run_convert_bytes_back (P:=Tryz.prog) w 67 9 5 ⟨g,0,none⟩ c l (by kernel_rfl) (by kernel_rfl) (by kernel_rfl) (by
  intro j hj
  rw[show (⟨g,0,none⟩:Addr).add j=⟨g,j,none⟩ by unfold Addr.add;split<;>simp_all]
  refine hb.cell ?_
  rw[List.getElem?_map,List.getElem?_eq_getElem hj]
  rfl)
section
variable {w w':World} {p q:Nat} {n m:NV}
theorem iL (h:Nd w p n) (hs:Gf n.its) (key:List UInt8):
  Calls Tryz.prog 33 #[ptr p,.string (bs key)] w fun e w'=>e=.returned (.tuple #[.int .i64 (posOf n.its key),.bool (cE n.its key)])∧Below w.heap.size w w':=by
 have c1:=h.c1
 have HC:=aa (yY w n.rg n.ro n.cap n.its h.row h.small.len hs key)
 clear h
 go_enter Tryz.func33,Tryz.ntmps33
 unfold ptr
 go_wp2_with fail
 refine HC.out.mono ?_
 rintro e w1 ⟨rfl,aQ⟩
 go_wp2
 go_ret2
 exact⟨rfl,aQ⟩
theorem Bi (p:Nat) (h:w.cell? ⟨p,1,none⟩=some (.slice none 0 0)) (key:List UInt8):
  Calls Tryz.prog 33 #[ptr p,.string (bs key)] w fun e w'=>e=.returned (.tuple #[.int .i64 0,.bool false])∧Below w.heap.size w w':=by
 have HC:Calls Tryz.prog 60 #[.slice none 0 0,.string (bs key),.func (.func 61) #[] #[]] w fun e w'=>e=.returned (.tuple #[.int .i64 0,.bool false])∧Below w.heap.size w w':=by
  go_enter Tryz.func60,Tryz.ntmps60
  go_wp2
  go_loopw [9,10] (fun iv jv wr=>iv=.int .i64 0∧jv=.int .i64 0∧Hid (Below w.heap.size w wr)) (fun _ _ _=>0)
  case atStart=>exact⟨rfl,rfl,aa (Below.refl _ _)⟩
  case round=>
   obtain⟨rfl,rfl,hB⟩:=hrel
   go_wp2
   go_ret2
   exact⟨rfl,hB.out⟩
 have uF:=aa HC
 go_enter Tryz.func33,Tryz.ntmps33
 unfold ptr
 go_wp2_with fail
 refine uF.out.mono ?_
 rintro e w1 ⟨rfl,aQ⟩
 go_wp2
 go_ret2
 exact⟨rfl,aQ⟩
def mN (l:List It) (key:List UInt8):Int:=if cE l key then posOf l key else (posOf l key:Int)-1
theorem sA (h:Nd w p n) (hs:Gf n.its) (key:List UInt8):
  Calls Tryz.prog 58 #[ptr p,.string (bs key)] w fun e w'=>e=.returned (.int .i64 (mN n.its key))∧Below w.heap.size w w':=by
 have HC:=aa (iL h hs key)
 have hp:=su n.its key
 have hl:=h.small.len
 have OS:(posOf n.its key:Int)≤400:=by omega
 unfold mN
 clear h hs
 generalize posOf n.its key=a at*
 cases ht:cE n.its key with
 |true=>
  rw[ht] at HC
  go_enter Tryz.func58,Tryz.ntmps58
  go_wp2_with fail
  refine HC.out.mono ?_
  rintro e w1 ⟨rfl,aQ⟩
  go_wp2
  go_ret
  exact⟨rfl,aQ⟩
 |false=>
  rw[ht] at HC
  go_enter Tryz.func58,Tryz.ntmps58
  go_wp2_with fail
  refine HC.out.mono ?_
  rintro e w1 ⟨rfl,aQ⟩
  go_wp2
  go_ret
  exact⟨rfl,aQ⟩
theorem oy {fn:Func} {p:Tmp} (h:fn.results=#[.cell p 88]) (tmps:Array Value) (w:World) (g:Nat) (x y:Value) (fr:Nat×Nat)
  (hp:tmps.getD p undef=.pointer (some ⟨g,0,none⟩)) (hg:w.heap[g]?=some (.cells #[x,y] 88 fr)):
  (results fn tmps).run Tryz.prog w=.ok (.agg #[x,y]) w:=
 results_cell_row h tmps w g _ _ fr _ hp hg Tryz.underlying88 rfl (by kernel_rfl)
theorem jQ (w:World) (x y:Obj):((w.alloc x).alloc y).heap[w.heap.size]?=some x:=by
 rw[Below.heap_alloc _ _ _ (by simp only[World.size_alloc];omega)]
 exact heap_alloc_new w x
def cZ (n:NV) (j:Nat):List UInt8:=if j=0 then n.lo else (n.its.map It.key).getD j []
def cL (n:NV) (j:Nat):List UInt8:=if j+1<n.its.length then (n.its.map It.key).getD (j+1) [] else n.hi
theorem yZ (h:Nd w p n) (j:Nat) (hj:j<n.its.length):
  Calls Tryz.prog 140 #[ptr p,.int .i64 j] w fun e w'=>e=.returned (.agg #[.string (bs (cZ n j)),.string (bs (cL n j))])∧Below w.heap.size w w':=by
 have c1:=h.c1
 have c3:=h.c3
 have c4:=h.c4
 have bY:=h.blk.lt
 have hrl:=rz h.row hj
 obtain⟨s1,s2,s3⟩:=aH h.row j hj
 have hl:=h.small.len
 have DY:(j:Int)<n.its.length:=by omega
 have gz:(n.its.length:Int)≤400:=by omega
 obtain⟨LO,TP⟩:∃x,x=bs (cZ n j):=⟨_,rfl⟩
 obtain⟨HI,TQ⟩:∃x,x=bs (cL n j):=⟨_,rfl⟩
 rw[←TP,←TQ]
 have HH:=aa (And.intro TP TQ)
 clear TP TQ
 by_cases h0:0<j
 ·have OP:(0:Int)<j:=by omega
  have HL:=aa (show LO=bs n.its[j].key by rw[HH.out.1];unfold cZ;rw[if_neg (by omega),List.getD_eq_getElem?_getD,List.getElem?_map,List.getElem?_eq_getElem hj];rfl)
  by_cases h1:j+1<n.its.length
  ·have Pj:(j:Int)+1<n.its.length:=by omega
   obtain⟨t1,t2,t3⟩:=aH h.row (j+1) h1
   have HR:=aa (show HI=bs n.its[j+1].key by rw[HH.out.2];unfold cL;rw[if_pos h1,List.getD_eq_getElem?_getD,List.getElem?_map,List.getElem?_eq_getElem h1];rfl)
   clear h
   go_enter Tryz.func140,Tryz.ntmps140
   unfold ptr
   go_wp2
   refine bodyPost_ret (oy rfl _ _ w.heap.size _ _ _ rfl (jQ w _ _)) rfl ?_
   exact⟨by rw[HL.out,HR.out],((Below.refl _ w).alloc (Nat.le_refl _) _).alloc (by simp only[World.size_alloc];omega) _⟩
  ·have Pj:¬(j:Int)+1<n.its.length:=by omega
   have HR:=aa (show HI=bs n.hi by rw[HH.out.2];unfold cL;rw[if_neg h1])
   clear h
   go_enter Tryz.func140,Tryz.ntmps140
   unfold ptr
   go_wp2
   refine bodyPost_ret (oy rfl _ _ w.heap.size _ _ _ rfl (jQ w _ _)) rfl ?_
   exact⟨by rw[HL.out,HR.out],((Below.refl _ w).alloc (Nat.le_refl _) _).alloc (by simp only[World.size_alloc];omega) _⟩
 ·have OP:¬(0:Int)<j:=by omega
  have HL:=aa (show LO=bs n.lo by rw[HH.out.1];unfold cZ;rw[if_pos (by omega)])
  by_cases h1:j+1<n.its.length
  ·have Pj:(j:Int)+1<n.its.length:=by omega
   obtain⟨t1,t2,t3⟩:=aH h.row (j+1) h1
   have HR:=aa (show HI=bs n.its[j+1].key by rw[HH.out.2];unfold cL;rw[if_pos h1,List.getD_eq_getElem?_getD,List.getElem?_map,List.getElem?_eq_getElem h1];rfl)
   clear h
   go_enter Tryz.func140,Tryz.ntmps140
   unfold ptr
   go_wp2
   refine bodyPost_ret (oy rfl _ _ w.heap.size _ _ _ rfl (jQ w _ _)) rfl ?_
   exact⟨by rw[HL.out,HR.out],((Below.refl _ w).alloc (Nat.le_refl _) _).alloc (by simp only[World.size_alloc];omega) _⟩
  ·have Pj:¬(j:Int)+1<n.its.length:=by omega
   have HR:=aa (show HI=bs n.hi by rw[HH.out.2];unfold cL;rw[if_neg h1])
   clear h
   go_enter Tryz.func140,Tryz.ntmps140
   unfold ptr
   go_wp2
   refine bodyPost_ret (oy rfl _ _ w.heap.size _ _ _ rfl (jQ w _ _)) rfl ?_
   exact⟨by rw[HL.out,HR.out],((Below.refl _ w).alloc (Nat.le_refl _) _).alloc (by simp only[World.size_alloc];omega) _⟩
theorem Gm (W:World) (g:Nat) (a b:UInt8) (h:aG W g 5 [.int .u8 (a.toNat:Int),.int .u8 (b.toNat:Int)]):(convert 67 9 (.slice (some ⟨g,0,none⟩) 2 2)).run Tryz.prog W=.ok (.string (bs [a,b])) W:=Gl W g 2 [a,b] h
def pv (p:Nat):List UInt8:=[UInt8.ofNat (p/256),UInt8.ofNat (p%256)]
theorem dV (w:World) (p:Nat) (hp:p<65536):
  Calls Tryz.prog 149 #[.int .i64 p] w fun e w'=>e=.returned (.string (bs (pv p)))∧Below w.heap.size w w':=by
 have OS:(p:Int)<65536:=by omega
 have hx1:((UInt8.ofNat (p/256)).toNat:Int)=(p:Int)/256:=by rw[UInt8.toNat_ofNat'];omega
 have hx2:((UInt8.ofNat (p%256)).toNat:Int)=(p:Int)%256:=by rw[UInt8.toNat_ofNat'];omega
 obtain⟨R,hR⟩:∃R,R=bs (pv p):=⟨_,rfl⟩
 have hc:(convert 67 9 (.slice (some ⟨w.heap.size,0,none⟩) 2 2)).run Tryz.prog (w.alloc (.cells #[.int .u8 ((p:Int)/256),.int .u8 ((p:Int)%256)] 5))=.ok (.string R) (w.alloc (.cells #[.int .u8 ((p:Int)/256),.int .u8 ((p:Int)%256)] 5)):=by
  rw[hR]
  exact Gm _ w.heap.size (UInt8.ofNat (p/256)) (UInt8.ofNat (p%256)) (by rw[hx1,hx2];exact aG.new w _ _)
 rw[←hR]
 clear hx1 hx2 hR
 go_enter Tryz.func149,Tryz.ntmps149
 go_wp2
 go_ret
 exact⟨rfl,(Below.refl _ w).alloc (Nat.le_refl _) _⟩
theorem Bj (w:World) (s:ByteArray) (hs:s.size=2):
  Calls Tryz.prog 139 #[.string s] w fun e w'=>e=.returned (.int .i64 ((s.data.toList.getD 0 0).toNat*256+(s.data.toList.getD 1 0).toNat:Nat))∧Below w.heap.size w w':=by
 have h4:0<s.size:=by omega
 have h5:1<s.size:=by omega
 obtain⟨N,hN⟩:∃N,N=(s.data.toList.getD 0 0).toNat*256+(s.data.toList.getD 1 0).toNat:=⟨_,rfl⟩
 have hA:N=s[0].toNat*256+s[1].toNat:=by rw[hN,iK s 0 h4,iK s 1 h5]
 rw[←hN]
 have HJ:=aa (show _=(N:Int) from (Bh s[0] s[1]).trans (congrArg _ hA.symm))
 have HE:=aa (show IntKind.i64.wrap (s[0].toNat:Int)=s[0].toNat∧IntKind.i64.wrap (s[1].toNat:Int)=s[1].toNat∧IntKind.i64.wrap ((s[0].toNat:Int)*256)=(s[0].toNat:Int)*256 from⟨bQ _ (by have:=s[0].toNat_lt;omega),bQ _ (by have:=s[1].toNat_lt;omega),by
  have:=bQ (s[0].toNat*256) (by have:=s[0].toNat_lt;omega)
  rwa [show ((s[0].toNat*256:Nat):Int)=(s[0].toNat:Int)*256 by omega] at this⟩)
 clear hN hA
 go_enter Tryz.func139,Tryz.ntmps139
 go_wp2_with (refine wp_region_any (by kernel_rfl) ?_;refine Hid.out ?_)
 refine aa ?_
 try (change wpAny _ _ _ _ _ _ _ (World.drew _))
 refine tk 0 ?_
 refine tk 1 ?_
 refine tk 2 ?_
 refine tk 3 ?_
 refine tk 4 ?_
 refine tk 5 ?_
 refine tk 6 ?_
 refine tk 7 ?_
 refine tk 8 ?_
 refine wpAny_done (by kernel_rfl) ?_ _
 simp only[HJ.out]
 simp only[HE.out.1,HE.out.2.1,HE.out.2.2]
 try simp only[Act.put,List.setIfInBounds_toArray,List.set_cons_succ,List.set_cons_zero]
 go_wp2
 go_ret
 exact⟨rfl,(Below.refl _ w).drew⟩
theorem Kh (p:Nat) (hp:p<65536):((bs (pv p)).data.toList.getD 0 0).toNat*256+((bs (pv p)).data.toList.getD 1 0).toNat=p:=by
 rw[cj]
 show (UInt8.ofNat (p/256)).toNat*256+(UInt8.ofNat (p%256)).toNat=p
 rw[UInt8.toNat_ofNat',UInt8.toNat_ofNat']
 omega
theorem Bk (w:World) (p:Nat) (hp:p<65536):
  Calls Tryz.prog 139 #[.string (bs (pv p))] w fun e w'=>e=.returned (.int .i64 p)∧Below w.heap.size w w':=by
 have:=Bj w (bs (pv p)) (by rw[aB];rfl)
 rwa [Kh p hp] at this
theorem Tr.uG (c a b:List UInt8):Tr.bG (c++a) (c++b)=c++Tr.bG a b:=by
 induction c with
 |nil=>rfl
 |cons x c ih=>show (if x=x then x::Tr.bG (c++a) (c++b) else [x])=_;rw[if_pos rfl,ih];rfl
theorem Tr.Ki (c a b:List UInt8):Tr.lt (c++a) (c++b)=Tr.lt a b:=by
 induction c with
 |nil=>rfl
 |cons x c ih=>show (decide (x<x)||(x==x&&Tr.lt (c++a) (c++b)))=_;rw[ih];simp
theorem y7 {a b:List UInt8} {k:Nat} (h:Tr.lt a b=true) (_hk:k≤a.length) (e:a.take k=b.take k):
  ∃hb:k<b.length,(∀ha:k<a.length,a[k]=b[k]→a.take (k+1)=b.take (k+1))∧((∀ha:k<a.length,a[k]≠b[k])→Tr.bG a b=b.take (k+1)):=by
 have ea:a=a.take k++a.drop k:=(List.take_append_drop k a).symm
 have eb:b=a.take k++b.drop k:=by rw[e];exact (List.take_append_drop k b).symm
 have hd:Tr.lt (a.drop k) (b.drop k)=true:=by
  rw[ea,eb,Tr.Ki] at h
  have e1:(List.take k a++List.drop k a).drop k=a.drop k:=by rw[←ea]
  exact h
 have hb:k<b.length:=by
  rcases Nat.lt_or_ge k b.length with h1|h1
  ·exact h1
  ·rw[List.drop_eq_nil_of_le h1] at hd
   cases a.drop k<;>simp[Tr.lt] at hd
 refine⟨hb,fun ha e2=> ?_,fun hn=> ?_⟩
 ·rw[List.take_succ_eq_append_getElem ha,List.take_succ_eq_append_getElem hb,e,e2]
 ·have es:Tr.bG a b=a.take k++Tr.bG (a.drop k) (b.drop k):=by
   conv=>lhs;rw[ea,eb]
   exact Tr.uG _ _ _
  rw[es,List.take_succ_eq_append_getElem hb,←e,List.drop_eq_getElem_cons hb]
  congr 1
  rcases Nat.lt_or_ge k a.length with h1|h1
  ·rw[List.drop_eq_getElem_cons h1]
   show (if a[k]=b[k] then _ else [b[k]])=_
   rw[if_neg (hn h1)]
  ·rw[List.drop_eq_nil_of_le h1];rfl
theorem oz (w:World) (a b:List UInt8) (h:Tr.lt a b=true) (ha:a.length≤1000000) (hb:b.length≤1000000):
  Calls Tryz.prog 147 #[.string (bs a),.string (bs b)] w fun e w'=>e=.returned (.string (bs (Tr.bG a b)))∧Below w.heap.size w w':=by
 have h1:(bs a).size=a.length:=aB _
 have h2:(bs b).size=b.length:=aB _
 have Jw:(a.length:Int)≤1000000:=by omega
 have Kj:(b.length:Int)≤1000000:=by omega
 have HT:=aa (fun n=>rR (bs b) n)
 have HA:=aa (fun (k:Nat) (hk:k<(bs a).size)=>(iK (bs a) k hk).symm)
 have HB:=aa (fun (k:Nat) (hk:k<(bs b).size)=>(iK (bs b) k hk).symm)
 have HH:=aa h
 obtain⟨R,hR⟩:∃R,R=Tr.bG a b:=⟨_,rfl⟩
 rw[←hR]
 have HR:=aa hR
 clear hR h
 obtain⟨x,hx⟩:∃x,x=bs a:=⟨_,rfl⟩
 obtain⟨y,hy⟩:∃y,y=bs b:=⟨_,rfl⟩
 rw[←hx] at h1 HA ⊢
 rw[←hy] at h2 HT HB ⊢
 have HX:=aa (And.intro hx hy)
 clear hx hy
 go_enter Tryz.func147,Tryz.ntmps147
 go_wp2
 go_loopw [5] (fun iv wr=>∃k:Nat,k≤a.length∧iv=.int .i64 k∧Hid (a.take k=b.take k)∧Hid (Below w.heap.size w wr)) (fun iv _=>a.length-(RowKit.intOf iv).toNat)
 case atStart=>exact⟨0,Nat.zero_le _,rfl,aa rfl,aa (Below.refl _ _)⟩
 case round=>
  obtain⟨k,hk,rfl,hE,hBl⟩:=hrel
  obtain⟨hkb,p1,p2⟩:=y7 HH.out hk hE.out
  have pH:(k:Int)<b.length:=by omega
  have hy:k<y.size:=by rw[h2];exact hkb
  by_cases hka:k<a.length
  ·have TR:(k:Int)<a.length:=by omega
   have hx:k<x.size:=by rw[h1];exact hka
   have ex:x[k]=a[k]:=by
    have:=HA.out k hx
    rw[this,HX.out.1,cj,List.getD_eq_getElem?_getD,List.getElem?_eq_getElem hka];rfl
   have ey:y[k]=b[k]:=by
    have:=HB.out k hy
    rw[this,HX.out.2,cj,List.getD_eq_getElem?_getD,List.getElem?_eq_getElem hkb];rfl
   have P1:=aa (p1 hka)
   have P2:=aa (fun (hn:a[k]≠b[k])=>p2 fun _=>hn)
   clear p1 p2
   rw[←ex,←ey] at P1 P2
   clear ex ey
   have HK:=aa (And.intro hka hkb)
   by_cases he:x[k]=y[k]
   ·have P3:=aa (P1.out he)
    have he':(x[k].toNat:Int)=y[k].toNat:=by rw[he]
    clear he P1 P2
    go_wp2_with fail
    go_quiet (fail)
    go_wp2
    go_roundw
    case rel=>exact⟨k+1,HK.out.1,by go_num,P3,aa (hBl.out.trans ⟨rfl,rfl,rfl,Nat.le_refl _,fun _ _=>rfl⟩)⟩
    case measure=>have:=HK.out;simp[RowKit.intOf];omega
   ·have P3:=aa (P2.out he)
    have he':¬(x[k].toNat:Int)=y[k].toNat:=fun e=>he (UInt8.toNat_inj.1 (by omega))
    have P4:=aa (show y.extract 0 (k+1)=bs R by rw[HR.out,P3.out,HT.out,HX.out.2,cj])
    clear he P1 P2
    go_wp2_with fail
    go_quiet (fail)
    go_wp2
    go_ret
    exact⟨by rw[←P4.out];rfl,hBl.out.trans ⟨rfl,rfl,rfl,Nat.le_refl _,fun _ _=>rfl⟩⟩
  ·have TR:¬(k:Int)<a.length:=by omega
   have P3:=aa (p2 fun h=>absurd h hka)
   have P4:=aa (show y.extract 0 (k+1)=bs R by rw[HR.out,P3.out,HT.out,HX.out.2,cj])
   clear p1 p2
   go_wp2_with fail
   go_quiet (fail)
   go_wp2
   go_ret
   exact⟨by rw[←P4.out];rfl,hBl.out.trans ⟨rfl,rfl,rfl,Nat.le_refl _,fun _ _=>rfl⟩⟩
theorem g9 (h:Nd w p n):
  Calls Tryz.prog 40 #[ptr p] w fun e w'=>e=.returned (if n.level=0 then .slice (some ⟨n.rg,n.ro,none⟩) n.its.length n.cap else .slice none 0 0)∧w'=w:=by
 have c0:=h.c0
 have c1:=h.c1
 by_cases hl:n.level=0
 ·have gz:¬(0:Int)<n.level:=by omega
  rw[if_pos hl]
  clear h hl
  go_enter Tryz.func40,Tryz.ntmps40
  unfold ptr
  go_wp2
  go_ret
  exact⟨rfl,rfl⟩
 ·have gz:(0:Int)<n.level:=by omega
  rw[if_neg hl]
  clear h hl
  go_enter Tryz.func40,Tryz.ntmps40
  unfold ptr
  go_wp2
  go_ret
  exact⟨rfl,rfl⟩
end
end Go.Proofs.YtloekpcncjocaaaGreatDoor
