/- Elder texts, cut down and merged (4). -/
import Derived.Test.YtebbahjombdalaaGreatDoorP3
import Derived.Test.YtebbahjombdalaaGreatDoorP1
import Derived.Test.YtebbahjombdalaaGreatDoorP2
import Derived.Laws.BitsAllLaws
import Derived.Lib.Bytealg
import Derived.Lib.Strings
import Derived.Lib.Walk
import Derived.Test.YtebbahjombdalaaGreatDoorPTk
set_option maxRecDepth 100000
set_option maxHeartbeats 8000000
namespace Go.Proofs.YtebbahjombdalaaGreatDoor
open List renaming mem_cons→aQ,cons_append→gD,take_succ_eq_append_getElem→cI,mem_cons_self→aA,mem_cons_of_mem→aF,length_cons→aW,length_take→aN,getElem_mem→bB,take_of_length_le→bZ,nil_append→dF,take_append_drop→cL,drop_eq_getElem_cons→cm,append_nil→bh,pairwise_iff_getElem→gE,getElem?_eq_getElem→aJ,append_assoc→aB,perm_append_comm→l7,mem_singleton→cH,filter_cons→cS,getD_eq_getElem?_getD→bT,getElem?_map→cJ,setIfInBounds_toArray→az,set_cons_succ→ay,set_cons_zero→au
open World renaming block_lt_of_cell?→bt,size_alloc→bk,drew→bD
open Nat renaming le_refl→af,zero_le→aC,lt_or_ge→dw,add_zero→dN,succ_ne_zero→cT
open Bool renaming and_eq_true→fy,eq_iff_iff→jc
open UInt8 renaming not_lt→rj,ofNat→aY,toNat_ofNat'→dY
open _root_.Array renaming length_toList→aZ
section
open Go.RowKit Lib
structure It where
 key:List UInt8
 val:List UInt8
 node:Option Nat
 deriving DecidableEq
def pa (q:Option Nat):Option Addr:=q.map fun b=>⟨b,0,none⟩
def aj:Elem It:=⟨fun i=>[.string (bs i.key),.string (bs i.val),.pointer (pa i.node)],3,by decide,fun _=>rfl,by
 intro a u hu
 simp only[aQ,List.not_mem_nil,or_false] at hu
 rcases hu with rfl|rfl|rfl<;>rfl⟩
theorem uf:dD Tryz.prog 123 122 aj.size:=dD.of (size:=3) (bytes:=40) (z:=.agg #[.string .empty,.string .empty,.pointer none]) Tryz.underlying123 (by kernel_rfl) rfl (by decide)
theorem gQ {α:Type} {K:Elem α} {E:TypeId} {B:Nat} {w:World} {g n cap:Nat} {l:List α} (h:Own K E B w (.slice (some ⟨g,0,none⟩) n cap) l):n=l.length∧n≤cap∧cap≤maxLen:=by
 rcases h.2 with⟨e,_⟩|⟨g',cap',cur,e,_,_,h1,h2,_⟩
 ·cases e
 ·grind
structure NV where
 level:Nat
 its:List It
 rg:Nat
 ro:Nat
 cap:Nat
 page:Int
 lo:List UInt8
 hi:List UInt8
 was:Int
 at_:Int
 fresh:Bool
 own:Bool
def NV.cells (n:NV):List Value:=[.int .i64 n.level,.slice (some ⟨n.rg,n.ro,none⟩) n.its.length n.cap,.int .i64 n.page,.string (bs n.lo),.string (bs n.hi),.int .i64 n.was,.int .i64 n.at_,.bool n.fresh]
def iQ (i:It):Nat:=2+i.key.length+i.val.length
def cj:List It→Nat
 |[]=>0
 |i::l=>iQ i+cj l
theorem sr:∀a b:List It,cj (a++b)=cj a+cj b
 |[],b=>by simp[cj]
 |i::a,b=>by simp only[gD,cj,sr a b];omega
structure NV.Small (n:NV):Prop where
 len:n.its.length≤400
 each:∀i∈n.its,i.key.length≤200∧i.val.length≤200
 cap:n.its.length≤n.cap∧n.cap≤maxLen
structure Nd (w:World) (p:Nat) (n:NV):Prop where
 blk:aS w p 127 n.cells
 row:a_ aj w n.rg n.ro n.its
 small:n.Small
section
variable {w w':World} {p:Nat} {n:NV}
theorem Nd.below {B:Nat} (h:Nd w p n) (hb:Below B w w') (hp:p<B) (hr:n.its≠[]→n.rg<B):Nd w' p n:=
 ⟨h.blk.below hb hp,by
  by_cases e:n.its=[]
  ·rw[e];intro j u hu;simp[Elem.cells] at hu
  ·exact h.row.below hb (hr e),h.small⟩
theorem Nd.rlt (h:Nd w p n):n.its≠[]→n.rg<w.heap.size:=by
 intro e
 cases hi:n.its with
 |nil=>exact absurd hi e
 |cons i l=>
  have:=h.row 0 (.string (bs i.key)) (by rw[hi];rfl)
  exact bt _ _ this
theorem Nd.still (h:Nd w p n) (hb:Below w.heap.size w w'):Nd w' p n:=h.below hb h.blk.lt h.rlt
theorem Nd.drew (h:Nd w p n):Nd w.drew p n:=⟨h.blk,h.row,h.small⟩
theorem aV {g o:Nat} {l:List It} (h:a_ aj w g o l) (j:Nat) (hj:j<l.length):
  w.cell? ⟨g,o+j*3,none⟩=some (.string (bs l[j].key))∧w.cell? ⟨g,o+j*3+1,none⟩=some (.string (bs l[j].val))∧w.cell? ⟨g,o+j*3+2,none⟩=some (.pointer (pa l[j].node)):=
 ⟨h.at j 0 (by decide) hj _ rfl,h.at j 1 (by decide) hj _ rfl,h.at j 2 (by decide) hj _ rfl⟩
theorem th {g o:Nat} {l:List It} (h:a_ aj w g o l) {j:Nat} (hj:j<l.length):g<w.heap.size:=
 bt _ _ (aV h j hj).1
theorem dZ {g o:Nat} {l:List It} (h:a_ aj w g o l) (hb:Below w.heap.size w w'):a_ aj w' g o l:=by
 intro j u hu
 have h1:=h j u hu
 rw[←h1]
 exact hb.cell (bt _ _ h1)
theorem Nd.item (h:Nd w p n) (j:Nat) (hj:j<n.its.length):
  w.cell? ⟨n.rg,n.ro+j*3,none⟩=some (.string (bs n.its[j].key))∧w.cell? ⟨n.rg,n.ro+j*3+1,none⟩=some (.string (bs n.its[j].val))∧w.cell? ⟨n.rg,n.ro+j*3+2,none⟩=some (.pointer (pa n.its[j].node)):=by
 have h0:=h.row.at j 0 (by decide) hj _ rfl
 have h1:=h.row.at j 1 (by decide) hj _ rfl
 have h2:=h.row.at j 2 (by decide) hj _ rfl
 exact⟨h0,h1,h2⟩
end
theorem xq (w:World) (i:It) (h:i.key.length≤1000000∧i.val.length≤1000000):
  Calls Tryz.prog 173 #[.agg #[.string (bs i.key),.string (bs i.val),.pointer (pa i.node)]] w fun e w'=>e=.returned (.int .i64 (iQ i))∧Below w.heap.size w w':=by
 have h1:(bs i.key).size=i.key.length:=aK _
 have h2:(bs i.val).size=i.val.length:=aK _
 unfold iQ
 generalize bs i.key=k at*
 generalize bs i.val=v at*
 generalize pa i.node=q
 go_enter Tryz.func173,Tryz.ntmps173
 go_wp2
 go_ret
 refine⟨?_,(Below.refl _ w).alloc (af _) _⟩
 go_num
theorem xu (l:List It) (j:Nat) (hj:j<l.length):cj (l.take (j+1))=cj (l.take j)+iQ l[j]:=by
 rw[cI hj,sr];rfl
theorem yJ:∀(l:List It),(∀i∈l,i.key.length≤200∧i.val.length≤200)→cj l≤402*l.length
 |[],_=>aC _
 |i::l,h=>by
  have h1:=h i aA
  have h2:=yJ l fun x hx=>h x (aF _ hx)
  simp only[cj,iQ,aW]
  omega
theorem NV.Small.size {n:NV} (h:n.Small):cj n.its≤160800:=by
 have h1:=yJ n.its h.each
 have:=h.len
 omega
theorem NV.Small.part {n:NV} (h:n.Small) (j:Nat):cj (n.its.take j)≤160800:=by
 have h1:=yJ (n.its.take j) fun x hx=>h.each x (List.mem_of_mem_take hx)
 have:=h.len
 have:(n.its.take j).length≤n.its.length:=by rw[aN];omega
 omega
section
variable {w w':World} {p:Nat} {n:NV}
theorem Nd.c0 (h:Nd w p n):w.cell? ⟨p,0,none⟩=some (.int .i64 n.level):=h.blk.cell rfl
theorem Nd.c1 (h:Nd w p n):w.cell? ⟨p,1,none⟩=some (.slice (some ⟨n.rg,n.ro,none⟩) n.its.length n.cap):=h.blk.cell rfl
theorem Nd.c2 (h:Nd w p n):w.cell? ⟨p,2,none⟩=some (.int .i64 n.page):=h.blk.cell rfl
theorem Nd.c3 (h:Nd w p n):w.cell? ⟨p,3,none⟩=some (.string (bs n.lo)):=h.blk.cell rfl
theorem Nd.c4 (h:Nd w p n):w.cell? ⟨p,4,none⟩=some (.string (bs n.hi)):=h.blk.cell rfl
theorem Nd.c5 (h:Nd w p n):w.cell? ⟨p,5,none⟩=some (.int .i64 n.was):=h.blk.cell rfl
theorem Nd.c6 (h:Nd w p n):w.cell? ⟨p,6,none⟩=some (.int .i64 n.at_):=h.blk.cell rfl
theorem Nd.c7 (h:Nd w p n):w.cell? ⟨p,7,none⟩=some (.bool n.fresh):=h.blk.cell rfl
theorem gJ (h:Nd w p n):Calls Tryz.prog 130 #[ptr p] w fun e w'=>e=.returned (.int .i64 (cj n.its))∧Below w.heap.size w w':=by
 have c1:=h.c1
 have hl:=h.small.len
 have iY:(n.its.length:Int)≤400:=by omega
 obtain⟨N,hN⟩:∃N,N=cj n.its:=⟨_,rfl⟩
 rw[←hN]
 have HN:=aa hN
 have HI:=aa h
 clear h hN
 obtain⟨L,hL⟩:∃L,L=n.its.length:=⟨_,rfl⟩
 rw[←hL] at c1 hl iY
 have HL:=aa hL
 clear hL
 generalize hg:n.rg=g at*
 generalize ho:n.ro=o at*
 have HG:=aa (And.intro hg ho)
 clear hg ho
 go_enter Tryz.func130,Tryz.ntmps130
 unfold ptr
 go_wp2
 go_loopw [3,11] (fun sv i wr=>∃j:Nat,j≤L∧i=.int .i64 j∧∃s:Nat,sv=.int .i64 s∧s≤160800∧Hid (s=cj (n.its.take j))∧Hid (Below w.heap.size w wr)) (fun _ i _=>L-(RowKit.intOf i).toNat)
 case atStart=>exact⟨0,aC _,rfl,0,rfl,aC _,aa rfl,aa (Below.refl _ _)⟩
 case round=>
  obtain⟨j,hj,rfl,s,rfl,hs,hS,hB⟩:=hrel
  have xk:(s:Int)≤160800:=by omega
  by_cases hlt:j<L
  ·have hI:(j:Int)<L:=by omega
   have hjl:j<n.its.length:=by rw[←HL.o];exact hlt
   have s1:=(HI.o.still hB.o).item j hjl
   have HE:=aa (show s+iQ n.its[j]=cj (n.its.take (j+1)) by rw[xu _ _ hjl,hS.o])
   have hle:=HI.o.small.part (j+1)
   rw[←HE.o] at hle
   have Ap:=HI.o.small.each _ (bB hjl)
   have HC:=aa (fun W=>xq W n.its[j] ⟨by omega,by omega⟩)
   rw[HG.o.1,HG.o.2] at s1
   generalize n.its[j]=it at*
   obtain⟨s2,s3,s4⟩:=s1
   have dJ:=aa hlt
   clear hlt hj hjl Ap
   go_wp2_with fail
   refine (HC.o _).mono ?_
   rintro e w1 ⟨rfl,bF⟩
   have Iy:=aa (((hB.o.alloc hB.o.size _)).trans (bF.mono (by simp only[bk];have:=hB.o.size;omega)))
   clear bF
   generalize iQ it=z at*
   have hz:(s:Int)+z≤160800:=by omega
   go_wp2
   go_roundw
   case rel=>exact⟨j+1,dJ.o,by go_num,s+z,by go_num,hle,HE,Iy⟩
   case measure=>have:=dJ.o;simp[RowKit.intOf];omega
  ·have hI:¬(j:Int)<L:=by omega
   have HJ:=aa (show s=N by rw[HN.o,hS.o,bZ (by rw[←HL.o];omega)])
   clear hlt hj
   go_wp2
   go_ret
   exact⟨by rw[HJ.o];rfl,hB.o⟩
end
end
namespace Tr
abbrev Tx:=List UInt8
def lt:Tx→Tx→Bool
 |_,[]=>false
 |[],_::_=>true
 |a::x,b::y=>a<b||(a==b&&lt x y)
theorem lt_irrefl:∀a,lt a a=false
 |[]=>rfl
 |a::x=>by simp[lt,lt_irrefl x]
theorem lt_trans:∀{a b c:Tx},lt a b=true→lt b c=true→lt a c=true
 |[],[],_,h,_=>by cases h
 |[],_::_,[],_,h=>by simp[lt] at h
 |[],_::_,_::_,_,_=>rfl
 |_::_,[],_,h,_=>by simp[lt] at h
 |_::_,_::_,[],_,h=>by simp[lt] at h
 |a::x,b::y,c::z,h1,h2=>by
  simp only[lt,Bool.or_eq_true,decide_eq_true_eq,fy,beq_iff_eq] at h1 h2 ⊢
  rcases h1 with h1|⟨rfl,h1⟩
  ·grind
  ·rcases h2 with h2|⟨rfl,h2⟩
   ·exact .inl h2
   ·exact .inr ⟨rfl,lt_trans h1 h2⟩
theorem kU:∀a b:Tx,lt a b=false→lt b a=false→a=b
 |[],[],_,_=>rfl
 |[],_::_,h,_=>by simp[lt] at h
 |_::_,[],_,h=>by simp[lt] at h
 |a::x,b::y,h1,h2=>by
  simp only[lt,Bool.or_eq_false_iff,decide_eq_false_iff_not,Bool.and_eq_false_iff,beq_eq_false_iff_ne,ne_eq] at h1 h2
  have hab:a=b:=UInt8.le_antisymm (rj.1 h2.1) (rj.1 h1.1)
  subst hab
  rw[kU x y (by simpa using h1.2) (by simpa using h2.2)]
theorem lt_asymm {a b:Tx} (h:lt a b=true):lt b a=false:=by
 grind [lt,lt_trans,lt_irrefl]
def le (a b:Tx):Prop:=lt b a=false
theorem le_refl (a:Tx):le a a:=lt_irrefl a
theorem le_of_lt {a b:Tx} (h:lt a b=true):le a b:=lt_asymm h
theorem lt_of_le_of_lt {a b c:Tx} (h:le a b) (h2:lt b c=true):lt a c=true:=by
 cases e:lt a b
 ·rw[kU a b e h];exact h2
 ·exact lt_trans e h2
theorem lt_of_lt_of_le {a b c:Tx} (h:lt a b=true) (h2:le b c):lt a c=true:=by
 cases e:lt b c
 ·rw[←kU b c e h2];exact h
 ·exact lt_trans h e
theorem le_trans {a b c:Tx} (h:le a b) (h2:le b c):le a c:=by
 grind [le,lt,lt_of_lt_of_le]
theorem nil_le (a:Tx):le [] a:=by cases a<;>rfl
theorem ne_of_lt {a b:Tx} (h:lt a b=true):a≠b:=by rintro rfl;rw[lt_irrefl] at h;cases h
def su (a:Tx):Option Tx→Prop
 |none=>True
 |some b=>lt a b=true
def hle:Option Tx→Option Tx→Prop
 |_,none=>True
 |none,some _=>False
 |some a,some b=>le a b
theorem Mx {a:Tx}:∀{h h':Option Tx},su a h→hle h h'→su a h'
 |_,none,_,_=>trivial
 |none,some _,_,h2=>h2.elim
 |some _,some _,h,h2=>lt_of_lt_of_le h h2
theorem CI {a:Tx}:∀{h:Option Tx},su a h→hle (some a) h
 |none,_=>trivial
 |some _,h=>le_of_lt h
theorem ug {a b:Tx}:∀{h:Option Tx},le a b→su b h→su a h
 |none,_,_=>trivial
 |some _,h,h2=>lt_of_le_of_lt h h2
structure Hd where
 page:Option Nat
 fresh:Bool
def E:Nat→Type
 |0=>Tx
 |k+1=>Hd×List (Tx×E k)
def mk {k:Nat} (h:Hd) (l:List (Tx×E k)):E (k+1):=(h,l)
def hd {k:Nat} (n:E (k+1)):Hd:=Prod.fst n
def its {k:Nat} (n:E (k+1)):List (Tx×E k):=Prod.snd n
@[simp] theorem hd_mk {k:Nat} (h:Hd) (l:List (Tx×E k)):hd (mk h l)=h:=rfl
@[simp] theorem its_mk {k:Nat} (h:Hd) (l:List (Tx×E k)):its (mk h l)=l:=rfl
theorem Py {k:Nat} (n:E (k+1)):mk (hd n) (its n)=n:=rfl
def FR:(k:Nat)→E k→Nat
 |0,t=>List.length (α:=UInt8) t
 |_+1,_=>2
def iQ (k:Nat) (p:Tx×E k):Nat:=2+p.1.length+FR k p.2
def sz (k:Nat):List (Tx×E k)→Nat
 |[]=>0
 |p::l=>iQ k p+sz k l
theorem dV (k:Nat):∀a b:List (Tx×E k),sz k (a++b)=sz k a+sz k b
 |[],b=>by simp[sz]
 |p::a,b=>by simp only[gD,sz,dV k a b];omega
def ct:(k:Nat)→List (Tx×E k)→List (Tx×Tx)
 |0,l=>l
 |k+1,l=>l.flatMap fun p=>ct k (its p.2)
theorem bJ:∀(k:Nat) (a b:List (Tx×E k)),ct k (a++b)=ct k a++ct k b
 |0,_,_=>rfl
 |_+1,_,_=>List.flatMap_append
theorem j8:∀k,ct k []=[]
 |0=>rfl
 |_+1=>rfl
theorem dK (k:Nat) (p:Tx×E (k+1)):ct (k+1) [p]=ct k (its p.2):=by simp[ct]
def b8:(k:Nat)→E k→List Nat
 |0,_=>[]
 |k+1,n=>(hd n).page.toList++(its n).flatMap fun p=>b8 k p.2
def dI (k:Nat) (l:List (Tx×E k)):List Nat:=l.flatMap fun p=>b8 k p.2
theorem bp (k:Nat) (n:E (k+1)):b8 (k+1) n=(hd n).page.toList++dI k (its n):=rfl
theorem bK (k:Nat) (a b:List (Tx×E k)):dI k (a++b)=dI k a++dI k b:=List.flatMap_append
theorem fI (k:Nat) (a:Tx×E k) (b:List (Tx×E k)):dI k (a::b)=b8 k a.2++dI k b:=List.flatMap_cons
def eT:(k:Nat)→E k→Nat
 |0,_=>0
 |k+1,n=>(if (hd n).page.isSome then 0 else 1)+((its n).map fun p=>eT k p.2).sum
def jP (k:Nat) (l:List (Tx×E k)):Nat:=(l.map fun p=>eT k p.2).sum
theorem cz (k:Nat) (a b:List (Tx×E k)):jP k (a++b)=jP k a+jP k b:=by simp[jP]
theorem ew (k:Nat) (a:Tx×E k) (b:List (Tx×E k)):jP k (a::b)=eT k a.2+jP k b:=by simp[jP]
theorem bR (k:Nat) (n:E (k+1)):eT (k+1) n=(if (hd n).page.isSome then 0 else 1)+jP k (its n):=rfl
def Old:(k:Nat)→E k→Prop
 |0,_=>True
 |k+1,n=>(hd n).page.isSome∧∀p,(its n).head?=some p→Old k p.2
def bA {α:Type} (x:Tx):List (Tx×α)→List (Tx×α)
 |[]=>[]
 |p::l=>(x,p.2)::l
@[simp] theorem setHd_nil {α:Type} (x:Tx):bA x ([]:List (Tx×α))=[]:=rfl
@[simp] theorem setHd_cons {α:Type} (x:Tx) (p:Tx×α) (l:List (Tx×α)):bA x (p::l)=(x,p.2)::l:=rfl
theorem eW {α:Type} (x:Tx):∀(a b:List (Tx×α)),a≠[]→bA x (a++b)=bA x a++b
 |[],_,h=>absurd rfl h
 |_::_,_,_=>rfl
theorem Aq {α:Type} (x y:Tx) (l:List (Tx×α)):bA x (bA y l)=bA x l:=by cases l<;>rfl
theorem pX {α:Type} (x:Tx) (l:List (Tx×α)):bA x l=[]↔l=[]:=by cases l<;>simp
theorem jo (k:Nat) (x:Tx) (l:List (Tx×E (k+1))):ct (k+1) (bA x l)=ct (k+1) l:=by cases l<;>simp[ct]
theorem ry (k:Nat) (x:Tx) (l:List (Tx×E k)):dI k (bA x l)=dI k l:=by cases l<;>simp[dI]
theorem rz (k:Nat) (x:Tx) (l:List (Tx×E k)):jP k (bA x l)=jP k l:=by cases l<;>simp[jP]
def cV {α:Type} (O:Tx→Option Tx→α→Prop) (C:α→Tx→α→Prop) (h:Option Tx):List (Tx×α)→Prop
 |[]=>True
 |[a]=>O a.1 h a.2
 |a::b::r=>O a.1 (some b.1) a.2∧(lt a.1 b.1=true∧b.1.length≤96∧C a.2 b.1 b.2)∧cV O C h (b::r)
section
variable {α:Type} {O O':Tx→Option Tx→α→Prop} {C C':α→Tx→α→Prop} {h h':Option Tx}
theorem cV.append:∀{A:List (Tx×α)} {a b:Tx×α} {B:List (Tx×α)},cV O C h (A++a::b::B)↔cV O C (some b.1) (A++[a])∧(lt a.1 b.1=true∧b.1.length≤96∧C a.2 b.1 b.2)∧cV O C h (b::B)
 |[],_,_,_=>by simp only[dF,cV]
 |[_],_,_,_=>by
  simp only[gD,dF,cV]
  exact⟨fun ⟨h1,h2,h3,h4,h5⟩=>⟨⟨h1,h2,h3⟩,h4,h5⟩,fun ⟨⟨h1,h2,h3⟩,h4,h5⟩=>⟨h1,h2,h3,h4,h5⟩⟩
 |x::y::A,a,b,B=>by
  have ih:=cV.append (A:=y::A) (a:=a) (b:=b) (B:=B)
  simp only[gD,cV] at ih ⊢
  rw[ih]
  exact⟨fun ⟨h1,h2,h3,h4,h5⟩=>⟨⟨h1,h2,h3⟩,h4,h5⟩,fun ⟨⟨h1,h2,h3⟩,h4,h5⟩=>⟨h1,h2,h3,h4,h5⟩⟩
theorem cV.last:∀{A:List (Tx×α)} {a:Tx×α},cV O C h (A++[a])→O a.1 h a.2
 |[],_,h=>h
 |[_],_,h=>h.2.2
 |_::y::A,_,h=>cV.last (A:=y::A) h.2.2
theorem cV.iE:∀{A:List (Tx×α)} {a:Tx×α} {x:α},cV O C h (A++[a])→O a.1 h' x→(∀b k,C b k a.2→C b k x)→cV O C h' (A++[(a.1,x)])
 |[],_,_,_,h2,_=>h2
 |[_],_,_,h,h2,h3=>⟨h.1,⟨h.2.1.1,h.2.1.2.1,h3 _ _ h.2.1.2.2⟩,h2⟩
 |_::y::A,_,_,h,h2,h3=>⟨h.1,h.2.1,cV.iE (A:=y::A) h.2.2 h2 h3⟩
theorem cV.mono (hO:∀a u x,O a u x→O' a u x) (hC:∀a k b,C a k b→C' a k b):∀{l:List (Tx×α)},cV O C h l→cV O' C' h l
 |[],_=>trivial
 |[_],h=>hO _ _ _ h
 |_::b::r,h=>⟨hO _ _ _ h.1,⟨h.2.1.1,h.2.1.2.1,hC _ _ _ h.2.1.2.2⟩,cV.mono hO hC (l:=b::r) h.2.2⟩
theorem cV.hi (hO:∀a x,O a h x→O a h' x):∀{l:List (Tx×α)},cV O C h l→cV O C h' l
 |[],_=>trivial
 |[_],h=>hO _ _ h
 |_::b::r,h=>⟨h.1,h.2.1,cV.hi hO (l:=b::r) h.2.2⟩
theorem cV.tail {a:Tx×α}:∀{l:List (Tx×α)},cV O C h (a::l)→cV O C h l
 |[],_=>trivial
 |_::_,h=>h.2.2
theorem cV.behind:∀{A B:List (Tx×α)},cV O C h (A++B)→cV O C h B
 |[],_,h=>h
 |_::A,_,h=>cV.behind (A:=A) h.tail
end
def cut:(k:Nat)→E k→Tx→E k→Prop
 |0,_,_,_=>True
 |k+1,a,x,b=>510<sz k (its a)+sz k (its b)+(if k=0 then 0 else x.length)
instance:(k:Nat)→(a:E k)→(x:Tx)→(b:E k)→Decidable (cut k a x b)
 |0,_,_,_=>.isTrue trivial
 |k+1,a,x,b=>inferInstanceAs (Decidable (510<sz k (its a)+sz k (its b)+(if k=0 then 0 else x.length)))
def Head (k:Nat) (lo:Tx) (l:List (Tx×E k)):Prop:=∀p,l.head?=some p→if k=0 then le lo p.1∧p.1.length≤96 else p.1=[]
def qT (k:Nat) (lo:Tx) (l:List (Tx×E k)):List (Tx×E k):=if k=0 then l else bA lo l
def Ok:(k:Nat)→Tx→Option Tx→E k→Prop
 |0,x,h,v=>FR 0 v≤56∧su x h
 |k+1,lo,h,n=>its n≠[]∧sz k (its n)≤510∧Head k lo (its n)∧cV (Ok k) (cut k) h (qT k lo (its n))
def Rw (k:Nat) (lo:Tx) (h:Option Tx) (l:List (Tx×E k)):Prop:=Head k lo l∧cV (Ok k) (cut k) h (qT k lo l)
def ig (k:Nat) (lo:Tx) (h:Option Tx) (n:E (k+1)):Prop:=sz k (its n)≤664∧Rw k lo h (its n)
theorem Ok.near {k:Nat} {lo:Tx} {h:Option Tx} {n:E (k+1)} (o:Ok (k+1) lo h n):ig k lo h n:=⟨by have:=o.2.1;omega,o.2.2⟩
theorem ig.ok {k:Nat} {lo:Tx} {h:Option Tx} {n:E (k+1)} (o:ig k lo h n) (h1:its n≠[]) (h2:sz k (its n)≤510):Ok (k+1) lo h n:=⟨h1,h2,o.2⟩
theorem Ok.hi:∀{k:Nat} {lo:Tx} {h h':Option Tx} {n:E k},Ok k lo h n→hle h h'→Ok k lo h' n
 |0,_,_,_,_,o,hh=>⟨o.1,Mx o.2 hh⟩
 |_+1,_,_,_,_,o,hh=>⟨o.1,o.2.1,o.2.2.1,o.2.2.2.hi fun _ _ x=>x.hi hh⟩
theorem cV.later {k:Nat} {h h':Option Tx} {l:List (Tx×E k)} (s:cV (Ok k) (cut k) h l) (hh:hle h h'):cV (Ok k) (cut k) h' l:=s.hi fun _ _ x=>x.hi hh
theorem Ok.lt:∀{k:Nat} {lo:Tx} {h:Option Tx} {n:E k},Ok k lo h n→su lo h
 |0,_,_,_,o=>o.2
 |k+1,lo,h,n,o=>by
  obtain⟨h1,_,h3,h4⟩:=o
  have all:∀(l:List (Tx×E k)) (x:Tx),(∀p,l.head?=some p→le x p.1)→l≠[]→cV (Ok k) (cut k) h l→su x h:=by
   intro l
   induction l with
   |nil=>intro _ _ h;exact absurd rfl h
   |cons p r ih=>
    intro x hx _ hs
    cases r with
    |nil=>exact ug (hx p rfl) (Ok.lt (k:=k) hs)
    |cons q r=>exact ih x (fun z hz=>by cases hz;exact le_trans (hx p rfl) (le_of_lt hs.2.1.1)) (by simp) hs.2.2
  refine all (qT k lo (its n)) lo ?_ ?_ h4
  ·intro p hp
   unfold qT at hp
   split at hp
   ·rename_i hk
    have:=h3 p hp
    rw[if_pos hk] at this
    exact this.1
   ·cases e:its n with
    |nil=>exact absurd e h1
    |cons q r=>rw[e] at hp;cases hp;exact le_refl _
  ·grind [qT,pX]
theorem Rw.lo {k:Nat} {lo lo':Tx} {h:Option Tx} {l:List (Tx×E k)} (o:∀{a:Tx} {u:Option Tx} {x:E k},Ok k a u x→le lo' a→0<k→Ok k lo' u x) (w:Rw k lo h l) (hl:le lo' lo):Rw k lo' h l:=by
 obtain⟨h3,h4⟩:=w
 cases hk:decide (k=0) with
 |true=>
  have hk:=of_decide_eq_true hk
  subst hk
  refine⟨fun p hp=> ?_,h4⟩
  have:=h3 p hp
  rw[if_pos rfl] at this ⊢
  exact⟨le_trans hl this.1,this.2⟩
 |false=>
  have hk:=of_decide_eq_false hk
  refine⟨fun p hp=> ?_, ?_⟩
  ·have:=h3 p hp
   rw[if_neg hk] at this ⊢
   exact this
  ·unfold qT at h4 ⊢
   rw[if_neg hk] at h4 ⊢
   cases l with
   |nil=>trivial
   |cons p r=>
    cases r with
    |nil=>exact o h4 hl (Nat.pos_of_ne_zero hk)
    |cons q r=>exact⟨o h4.1 hl (Nat.pos_of_ne_zero hk),⟨lt_of_le_of_lt hl h4.2.1.1,h4.2.1.2⟩,h4.2.2⟩
theorem Ok.lo:∀{k:Nat} {lo lo':Tx} {h:Option Tx} {n:E (k+1)},Ok (k+1) lo h n→le lo' lo→Ok (k+1) lo' h n
 |0,_,_,_,_,o,hl=>⟨o.1,o.2.1,Rw.lo (fun _ _ h=>absurd h (Nat.lt_irrefl _)) o.2.2 hl⟩
 |_+1,_,_,_,_,o,hl=>⟨o.1,o.2.1,Rw.lo (fun x hx _=>Ok.lo x hx) o.2.2 hl⟩
theorem ig.lo {k:Nat} {lo lo':Tx} {h:Option Tx} {n:E (k+1)} (o:ig k lo h n) (hl:le lo' lo):ig k lo' h n:=by
 refine⟨o.1, ?_⟩
 cases k with
 |zero=>exact Rw.lo (fun _ _ h=>absurd h (Nat.lt_irrefl _)) o.2 hl
 |succ k=>exact Rw.lo (fun x hx _=>Ok.lo x hx) o.2 hl
end Tr
section
open Go.RowKit Lib
namespace Tr
theorem lt_eq:∀a b:List UInt8,Op.bytesLess a b=lt a b
 |[],[]=>rfl
 |_::_,[]=>rfl
 |[],_::_=>rfl
 |a::x,b::y=>by
  show (decide (a<b)||(a==b&&Op.bytesLess x y))=(decide (a<b)||(a==b&&lt x y))
  rw[lt_eq x y]
theorem oP:∀a b:List UInt8,Lib.compareBytes a b<0↔lt a b=true
 |[],[]=>by simp[Lib.compareBytes,lt]
 |_::_,[]=>by simp[Lib.compareBytes,lt]
 |[],_::_=>by simp[Lib.compareBytes,lt]
 |a::x,b::y=>by
  have ih:=oP x y
  unfold Lib.compareBytes lt
  by_cases h:a<b
  ·simp[h]
  ·by_cases h2:b<a
   ·have:¬a=b:=by rintro rfl;exact h h2
    simp[h,h2,this]
   ·have:a=b:=UInt8.le_antisymm (rj.1 h2) (rj.1 h)
    subst this
    simp[ih,h]
theorem compare_eq:∀a b:List UInt8,Lib.compareBytes a b=0↔a=b
 |[],[]=>by simp[Lib.compareBytes]
 |_::_,[]=>by simp[Lib.compareBytes]
 |[],_::_=>by simp[Lib.compareBytes]
 |a::x,b::y=>by
  have ih:=compare_eq x y
  unfold Lib.compareBytes
  by_cases h:a<b
  ·grind
  ·by_cases h2:b<a
   ·have:¬a=b:=by rintro rfl;exact h h2
    simp[h,h2,this]
   ·have:a=b:=UInt8.le_antisymm (rj.1 h2) (rj.1 h)
    subst this
    simp[ih,h]
end Tr
def Jg (l:List It):Prop:=l.Pairwise fun a b=>Tr.lt a.key b.key=true
def posOf (l:List It) (key:List UInt8):Nat:=(l.takeWhile fun i=>Tr.lt i.key key).length
def ec (l:List It) (key:List UInt8):Bool:=match l[posOf l key]? with|some i=>decide (i.key=key)|none=>false
theorem uh (l:List It) (key:List UInt8):posOf l key≤l.length:=by
 grind [posOf,List.takeWhile_sublist]
theorem Jh {l:List It} {key:List UInt8} {i:Nat} (hi:i≤l.length) (h1:∀t (h:t<l.length),t<i→Tr.lt l[t].key key=true) (h2:∀t (h:t<l.length),t=i→Tr.lt l[t].key key=false):posOf l key=i:=by
 have e:l=l.take i++l.drop i:=(cL i l).symm
 unfold posOf
 conv=>lhs;rw[e]
 rw[List.takeWhile_append_of_pos (by
  intro x hx
  obtain⟨t,ht,rfl⟩:=List.mem_iff_getElem.1 hx
  rw[aN] at ht
  rw[List.getElem_take]
  exact h1 t (by omega) (by omega))]
 rcases dw i l.length with hlt|hge
 ·rw[cm hlt,List.takeWhile_cons_of_neg (by rw[h2 i hlt rfl];simp),bh,aN]
  omega
 ·rw[List.drop_eq_nil_of_le hge,List.takeWhile_nil,bh,aN]
  omega
theorem Ji {l:List It} (h:Jg l) {t s:Nat} (ht:t<l.length) (hs:s<l.length) (hts:t≤s):Tr.le l[t].key l[s].key:=by
 rcases dw t s with h1|h1
 ·exact Tr.le_of_lt (gE.1 h t s ht hs h1)
 ·have:t=s:=by omega
  subst this
  exact Tr.le_refl _
section
variable {w w':World} {p q:Nat} {n m:NV}
theorem iF (h:Nd w p n):Calls Tryz.prog 129 #[ptr p] w fun e w'=>e=.returned (.bool (decide (cj n.its≤510)))∧Below w.heap.size w w':=by
 have hs:=h.small.size
 have HI:=aa (gJ h)
 clear h
 obtain⟨b,hb⟩:∃b,b=decide (cj n.its≤510):=⟨_,rfl⟩
 rw[←hb]
 have HB:=aa hb
 clear hb
 generalize cj n.its=s at*
 have xk:(s:Int)≤160800:=by omega
 go_enter Tryz.func129,Tryz.ntmps129
 go_wp2_with fail
 refine HI.o.mono ?_
 rintro e w1 ⟨rfl,bF⟩
 go_wp2
 go_ret
 exact⟨by rw[HB.o];congr 1;congr 1;simp;omega,bF⟩
theorem kD (h:Nd w p n) (h2:Nd w q m) (key:List UInt8) (hk:key.length≤1000000):Calls Tryz.prog 174 #[ptr p,ptr q,.string (bs key)] w fun e w'=>e=.returned (.bool (decide (cj n.its+cj m.its+(if n.level=0 then 0 else key.length)≤510)))∧Below w.heap.size w w':=by
 have hs:=h.small.size
 have kN:=h2.small.size
 have c0:=h.c0
 have HI:=aa h
 have HA:=aa (gJ h)
 have HI2:=aa h2
 have hkk:(bs key).size=key.length:=aK _
 clear h h2
 obtain⟨b,hb⟩:∃b,b=decide (cj n.its+cj m.its+(if n.level=0 then 0 else key.length)≤510):=⟨_,rfl⟩
 rw[←hb]
 have HB:=aa hb
 clear hb
 generalize bs key=k at*
 obtain⟨s,Rf⟩:∃s,s=cj n.its:=⟨_,rfl⟩
 obtain⟨s2,Pz⟩:∃s2,s2=cj m.its:=⟨_,rfl⟩
 rw[←Rf] at hs
 rw[←Pz] at kN
 have HS:=aa (And.intro Rf Pz)
 clear Rf Pz
 have xk:(s:Int)≤160800:=by omega
 have aah:(s2:Int)≤160800:=by omega
 have s9:(key.length:Int)≤1000000:=by omega
 go_enter Tryz.func174,Tryz.ntmps174
 unfold ptr
 go_wp2_with fail
 refine HA.o.mono ?_
 rintro e w1 ⟨rfl,bF⟩
 have H1:=aa (And.intro (HI2.o.still bF) bF)
 rw[←HS.o.1]
 clear bF
 go_wp2_with fail
 refine (gJ H1.o.1).mono ?_
 rintro e w2 ⟨rfl,aP⟩
 rw[←HS.o.2]
 have H2:=aa (H1.o.2.trans (aP.mono H1.o.2.size))
 have c0':=(HI.o.still H2.o).c0
 clear aP
 by_cases hl:n.level=0
 ·have iY:¬(0:Int)<n.level:=by omega
  have HL:=aa hl
  clear hl
  go_wp2
  go_ret
  exact⟨by rw[HB.o,if_pos HL.o,←HS.o.1,←HS.o.2];congr 1;congr 1;simp;omega,H2.o⟩
 ·have iY:(0:Int)<n.level:=by omega
  have HL:=aa hl
  clear hl
  go_wp2
  go_ret
  exact⟨by rw[HB.o,if_neg HL.o,←HS.o.1,←HS.o.2];congr 1;congr 1;simp;omega,H2.o⟩
theorem pY (w:World) (lo hi key:List UInt8):Calls Tryz.prog 144 #[.agg #[.string (bs lo),.string (bs hi)],.string (bs key)] w fun e w'=>e=.returned (.bool (!hi.isEmpty&& !Tr.lt key hi))∧Below w.heap.size w w':=by
 have h1:(bs hi).toList=hi:=bE hi
 have h2:(bs key).toList=key:=bE key
 rw[←Tr.lt_eq]
 generalize bs lo=l
 generalize bs hi=h at*
 generalize bs key=k at*
 rw[←h1,←h2]
 clear h1 h2
 go_enter Tryz.func144,Tryz.ntmps144
 go_wp2
 ·rename_i e
  go_ret
  exact⟨by rw[e];rfl,(Below.refl _ w).alloc (af _) _⟩
 ·go_ret
  exact⟨rfl,(Below.refl _ w).alloc (af _) _⟩
theorem mV (w:World) (lo hi key:List UInt8):Calls Tryz.prog 95 #[.agg #[.string (bs lo),.string (bs hi)],.string (bs key)] w fun e w'=>e=.returned (.bool (!Tr.lt key lo&& !(!hi.isEmpty&& !Tr.lt key hi)))∧Below w.heap.size w w':=by
 have h1:(bs lo).toList=lo:=bE lo
 have h2:(bs key).toList=key:=bE key
 have HC:=aa (fun W=>pY W lo hi key)
 generalize (!hi.isEmpty&& !Tr.lt key hi)=b at*
 rw[←Tr.lt_eq]
 generalize bs lo=l at*
 generalize bs hi=h at*
 generalize bs key=k at*
 rw[←h1,←h2]
 clear h1 h2
 cases hlo:Op.bytesLess k.toList l.toList with
 |true=>
  go_enter Tryz.func95,Tryz.ntmps95
  go_wp2
  go_ret
  exact⟨by simp,(Below.refl _ w).alloc (af _) _⟩
 |false=>
  go_enter Tryz.func95,Tryz.ntmps95
  go_wp2_with fail
  refine (HC.o _).mono ?_
  rintro e w1 ⟨rfl,bF⟩
  have fY:=aa ((Below.refl w.heap.size w).alloc (af _) _|>.trans (bF.mono (by simp only[bk];omega)))
  clear bF
  go_wp2
  go_ret
  exact⟨by simp,fY.o⟩
theorem CJ (a b:ByteArray) (w:World):
  Calls Tryz.prog 124 #[.string a,.string b] w fun e w'=>e=.returned (.int .i64 (Lib.compareBytes a.data.toList b.data.toList))∧w'=w:=by
 go_enter Tryz.func124,Tryz.ntmps124
 go_wp2
 rw[run_callFunc_extern Tryz.func171 (by kernel_rfl) (by kernel_rfl) (by kernel_rfl) (e:=Extern.BytealgCompare.compare) (by kernel_rfl),Lib.run_compareString]
 simp only[Result.andThen]
 rw[Oper.upon_value]
 go_wp2
 go_ret
 exact⟨rfl,rfl⟩
theorem uj (a b:ByteArray) (w:World):
  Calls Tryz.prog 82 #[.string a,.string b] w fun e w'=>e=.returned (.int .i64 (Lib.compareBytes a.data.toList b.data.toList))∧w'=w:=by
 go_enter Tryz.func82,Tryz.ntmps82
 go_wp2_with fail
 refine (CJ _ _ _).mono ?_
 rintro e w' ⟨rfl,rfl⟩
 go_wp2
 go_ret
 exact⟨rfl,rfl⟩
theorem oQ (a b:List UInt8):-1≤Lib.compareBytes a b∧Lib.compareBytes a b≤1:=by
 induction a generalizing b with
 |nil=>cases b<;>simp[Lib.compareBytes]
 |cons x a ih=>
  cases b with
  |nil=>simp[Lib.compareBytes]
  |cons y b=>
   unfold Lib.compareBytes
   split
   ·omega
   ·grind
theorem FT (w:World) (k v key:List UInt8) (q:Option Addr):Calls Tryz.prog 81 #[.agg #[.string (bs k),.string (bs v),.pointer q],.string (bs key)] w fun e w'=>e=.returned (.int .i64 (Lib.compareBytes k key))∧Below w.heap.size w w':=by
 have h1:(bs k).data.toList=k:=rfl
 have h2:(bs key).data.toList=key:=rfl
 generalize bs k=a at*
 generalize bs v=b at*
 generalize bs key=c at*
 obtain⟨z,hz⟩:∃z,z=Lib.compareBytes k key:=⟨_,rfl⟩
 have HC:=aa (fun W:World=>uj a c W)
 rw[h1,h2,←hz] at HC
 rw[←hz]
 clear h1 h2 hz
 go_enter Tryz.func81,Tryz.ntmps81
 go_wp2_with fail
 refine (HC.o _).mono ?_
 rintro e w1 ⟨rfl,rfl⟩
 go_wp2
 go_ret
 exact⟨rfl,(Below.refl _ w).alloc (af _) _⟩
theorem Ar (w:World) (g o cap:Nat) (l:List It) (hl:a_ aj w g o l) (hn:l.length≤400) (hs:Jg l) (key:List UInt8):
  Calls Tryz.prog 80 #[.slice (some ⟨g,o,none⟩) l.length cap,.string (bs key),.func (.func 81) #[] #[]] w
   fun e w'=>e=.returned (.tuple #[.int .i64 (posOf l key),.bool (ec l key)])∧Below w.heap.size w w':=by
 have OB:(l.length:Int)≤400:=by omega
 have HL:=aa hl
 have HS:=aa hs
 clear hl hs hn
 obtain⟨L,hL⟩:∃L,L=l.length:=⟨_,rfl⟩
 rw[←hL] at OB ⊢
 have wD:=aa hL
 clear hL
 obtain⟨P,hP⟩:∃P,P=posOf l key:=⟨_,rfl⟩
 obtain⟨T,hT⟩:∃T,T=ec l key:=⟨_,rfl⟩
 rw[←hP,←hT]
 have HP:=aa (And.intro hP hT)
 clear hP hT
 have HC:=aa (fun (W:World) (i:It)=>FT W i.key i.val key (pa i.node))
 generalize bs key=kk at*
 go_enter Tryz.func80,Tryz.ntmps80
 go_wp2
 go_loopw [9,10] (fun iv jv wr=>∃i j:Nat,i≤j∧j≤L∧iv=.int .i64 i∧jv=.int .i64 j∧Hid ((∀t (h:t<l.length),t<i→Tr.lt l[t].key key=true)∧∀t (h:t<l.length),j≤t→Tr.lt l[t].key key=false)∧Hid (Below w.heap.size w wr)) (fun iv jv _=>(RowKit.intOf jv).toNat-(RowKit.intOf iv).toNat)
 case atStart=>exact⟨0,L,aC _,af _,rfl,rfl,aa ⟨fun _ _ h=>absurd h (Nat.not_lt_zero _),fun t h1 h2=>by have:=wD.o;omega⟩,aa (Below.refl _ _)⟩
 case round=>
  obtain⟨i,j,hij,hj,rfl,rfl,hI,hB⟩:=hrel
  by_cases hlt:i<j
  ·have kX:(i:Int)<j:=by omega
   have FU:(j:Int)≤400:=by omega
   have hk1:i≤(i+j)/2:=by omega
   have hk2:(i+j)/2<j:=by omega
   have lM:(i+j)/2<l.length:=by rw[←wD.o];omega
   have s9:(((i+j)/2:Nat):Int)<L:=by omega
   have aai:((i:Int)+j)/2<L:=by omega
   have oh:0≤((i:Int)+j)/2:=by omega
   have a0:=aV (dZ HL.o hB.o) _ lM
   obtain⟨it,hit⟩:∃it,it=l[(i+j)/2]:=⟨_,rfl⟩
   rw[←hit] at a0
   obtain⟨a0,a1,a2⟩:=a0
   have HK:=aa (show i≤(i+j)/2∧(i+j)/2<j∧∃h:(i+j)/2<l.length,it=l[(i+j)/2] from⟨hk1,hk2,lM,hit⟩)
   have mN:=aa (oQ it.key key)
   obtain⟨z,hz⟩:∃z,z=Lib.compareBytes it.key key:=⟨_,rfl⟩
   have FV:=aa (fun W=>HC.o W it)
   rw[←hz] at FV mN
   have HZ:=aa hz
   have OC:=mN.o.1
   have Wr:=mN.o.2
   clear lM hit hk1 hk2 hz hij
   go_wp2_with fail
   refine (FV.o _).mono ?_
   rintro e w1 ⟨rfl,bF⟩
   have fY:=aa (hB.o.trans (bF.mono hB.o.size))
   clear bF
   by_cases Zu:z<0
   ·have Ws:=aa ((Tr.oP _ _).1 (by rw[←HZ.o];exact Zu))
    go_wp2
    go_roundw
    case rel=>exact⟨(i+j)/2+1,j,by have:=HK.o.2.1;omega,hj,by go_num,rfl,aa ⟨fun t h1 h2=>Tr.lt_of_le_of_lt (Ji HS.o h1 HK.o.2.2.1 (by omega)) (by rw[←HK.o.2.2.2];exact Ws.o),hI.o.2⟩,fY⟩
    case measure=>have:=HK.o;simp[RowKit.intOf];omega
   ·have Ws:=aa (show Tr.lt it.key key=false by
     cases h:Tr.lt it.key key
     ·rfl
     ·exact absurd (by rw[HZ.o];exact (Tr.oP _ _).2 h) Zu)
    go_wp2
    go_roundw
    case rel=>exact⟨i,(i+j)/2,HK.o.1,by have:=HK.o.2.1;omega,rfl,by go_num,aa ⟨hI.o.1,fun t h1 h2=>by
     cases h:Tr.lt l[t].key key
     ·rfl
     ·exact absurd (Tr.lt_of_le_of_lt (Ji HS.o HK.o.2.2.1 h1 h2) h) (by rw[←HK.o.2.2.2,Ws.o];simp)⟩,fY⟩
    case measure=>have:=HK.o;simp[RowKit.intOf];omega
  ·obtain rfl:i=j:=by omega
   have kX:¬(i:Int)<i:=by omega
   clear hlt hij
   have Vg:=aa (show P=i from HP.o.1.trans (Jh (by rw[←wD.o];exact hj) (fun t h1 h2=>hI.o.1 t h1 h2) (fun t h1 h2=>hI.o.2 t h1 (by omega))))
   by_cases Vh:i<L
   ·have Jj:(i:Int)<L:=by omega
    have hil:i<l.length:=by rw[←wD.o];exact Vh
    have a0:=aV (dZ HL.o hB.o) _ hil
    have HT:=aa (show T=decide (l[i].key=key) by
     rw[HP.o.2]
     unfold ec
     rw[←HP.o.1,Vg.o,aJ hil])
    generalize l[i]=it at*
    obtain⟨a0,a1,a2⟩:=a0
    obtain⟨z,hz⟩:∃z,z=Lib.compareBytes it.key key:=⟨_,rfl⟩
    have FV:=aa (fun W=>HC.o W it)
    rw[←hz] at FV
    have HZ:=aa (show decide (it.key=key)=(z==0) by rw[hz,jc,decide_eq_true_eq,beq_iff_eq];exact (Tr.compare_eq _ _).symm)
    clear hil Vh hz
    go_wp2_with fail
    refine (FV.o _).mono ?_
    rintro e w1 ⟨rfl,bF⟩
    have fY:=aa (hB.o.trans (bF.mono hB.o.size))
    clear bF
    go_wp2
    go_ret2
    exact⟨by rw[Vg.o,HT.o,HZ.o];rfl,fY.o⟩
   ·have Jj:¬(i:Int)<L:=by omega
    have HT:=aa (show T=false by
     rw[HP.o.2]
     unfold ec
     rw[←HP.o.1,Vg.o,List.getElem?_eq_none (by rw[←wD.o];omega)])
    clear Vh
    go_wp2
    go_ret2
    exact⟨by rw[Vg.o,HT.o];rfl,hB.o⟩
end
end
namespace Tr
theorem mX {k:Nat} {a a' b:E (k+1)} {x:Tx} (h:cut (k+1) a x b) (hs:sz k (its a)≤sz k (its a')):cut (k+1) a' x b:=by unfold cut at h ⊢;omega
theorem kY {k:Nat} {a b b':E (k+1)} {x:Tx} (h:cut (k+1) a x b) (hs:sz k (its b)≤sz k (its b')):cut (k+1) a x b':=by unfold cut at h ⊢;omega
theorem tj (a b:E 1) (x:Tx):cut 1 a x b↔510<sz 0 (its a)+sz 0 (its b):=by
 show 510<sz 0 (its a)+sz 0 (its b)+0↔_
 rw[dN]
theorem tq {k:Nat} (a b:E (k+2)) (x:Tx):cut (k+2) a x b↔510<sz (k+1) (its a)+sz (k+1) (its b)+x.length:=by
 show 510<_+(if k+1=0 then 0 else x.length)↔_
 rw[if_neg (cT _)]
theorem cF {α:Type} (A:List α) (a:α):(A++[a]).getLast?=some a:=by simp
theorem oH {α:Type} (A:List α) (a:α):(A++[a]).dropLast=A:=by simp
theorem dA {α:Type} {l:List α} (h:l≠[]):∃A a,l=A++[a]:=⟨l.dropLast,l.getLast h,(List.dropLast_concat_getLast h).symm⟩
theorem jB {α:Type} (x:Tx) (A:List (Tx×α)) (a:Tx×α):∃A' y,bA x (A++[a])=A'++[(y,a.2)]∧∀v:α,bA x (A++[(a.1,v)])=A'++[(y,v)]:=by
 cases A with
 |nil=>exact⟨[],x,rfl,fun _=>rfl⟩
 |cons p A=>exact⟨(x,p.2)::A,a.1,rfl,fun _=>rfl⟩
theorem My (k:Nat) (p:Tx×E k):2≤iQ k p:=by unfold iQ;omega
theorem d_ (k:Nat) (p:Tx×E (k+1)):iQ (k+1) p=4+p.1.length:=by show 2+p.1.length+2=_;omega
theorem Jk (k:Nat) (x:Tx) (p:Tx×E k) (l:List (Tx×E k)):sz k (bA x (p::l))+p.1.length=sz k (p::l)+x.length:=by simp only[setHd_cons,sz,iQ];omega
theorem Mz {k:Nat} {l:List (Tx×E k)} (h:l≠[]):2≤sz k l:=by
 cases l with
 |nil=>exact absurd rfl h
 |cons p l=>have:=My k p;simp only[sz];omega
theorem Jl {k:Nat} {l:List (Tx×E (k+1))} (h:l≠[]):4≤sz (k+1) l:=by
 cases l with
 |nil=>exact absurd rfl h
 |cons p l=>rw[sz,d_];omega
def join:(k:Nat)→E (k+1)→E (k+1)→Tx→E (k+1)×List Nat
 |0,n,m,_=>(mk ⟨(hd n).page,true⟩ (its n++its m),(hd m).page.toList)
 |k+1,n,m,x=>
  match (its n).getLast?,its m with
  |some a,b::r=>
   if cut (k+1) a.2 x b.2 then (mk ⟨(hd n).page,true⟩ (its n++(x,b.2)::r),(hd m).page.toList)
   else (mk ⟨(hd n).page,true⟩ ((its n).dropLast++(a.1,(join k a.2 b.2 x).1)::r),(join k a.2 b.2 x).2++(hd m).page.toList)
  |_,_=>(n,[])
theorem rA (n m:E 1) (x:Tx):join 0 n m x=(mk ⟨(hd n).page,true⟩ (its n++its m),(hd m).page.toList):=rfl
theorem kZ {k:Nat} {n m:E (k+2)} {x:Tx} {A r:List (Tx×E (k+1))} {a b:Tx×E (k+1)} (hn:its n=A++[a]) (hm:its m=b::r):
  join (k+1) n m x=if cut (k+1) a.2 x b.2 then (mk ⟨(hd n).page,true⟩ (A++a::(x,b.2)::r),(hd m).page.toList)
   else (mk ⟨(hd n).page,true⟩ (A++(a.1,(join k a.2 b.2 x).1)::r),(join k a.2 b.2 x).2++(hd m).page.toList):=by
 show (match (its n).getLast?,its m with
  |some a,b::r=>
   if cut (k+1) a.2 x b.2 then (mk ⟨(hd n).page,true⟩ (its n++(x,b.2)::r),(hd m).page.toList)
   else (mk ⟨(hd n).page,true⟩ ((its n).dropLast++(a.1,(join k a.2 b.2 x).1)::r),(join k a.2 b.2 x).2++(hd m).page.toList)
  |_,_=>(n,[]))=_
 rw[hn,hm,cF]
 simp only[oH,aB,gD,dF]
theorem Ok.key {k:Nat} {lo:Tx} {h:Option Tx} {b:Tx×E (k+1)} {r:List (Tx×E (k+1))} {m:E (k+2)} (o:Ok (k+2) lo h m) (hm:its m=b::r):b.1=[]∧cV (Ok (k+1)) (cut (k+1)) h ((lo,b.2)::r):=by
 obtain⟨_,_,h3,h4⟩:=o
 refine⟨?_, ?_⟩
 ·have:=h3 b (by rw[hm];rfl)
  rwa [if_neg (cT _)] at this
 ·simp_all[qT]
structure Joined (k:Nat) (lo:Tx) (h:Option Tx) (n m:E (k+1)) (j:E (k+1)) (sp:List Nat):Prop where
 ok:Ok (k+1) lo h j
 ct:ct k (its j)=ct k (its n)++ct k (its m)
 page:(hd j).page=(hd n).page
 left:sz k (its n)≤sz k (its j)
 right:sz k (its m)≤sz k (its j)
 b8:(b8 (k+1) j++sp).Perm (b8 (k+1) n++b8 (k+1) m)
 old:Old (k+1) n→Old (k+1) j
 eT:Old (k+1) m→eT (k+1) j=eT (k+1) n+eT (k+1) m
theorem sS {α:Type} (A:List α) (a:α) (B:List α):(A++a::B).head?=(A++[a]).head?:=by cases A<;>rfl
theorem xw {a b:List Nat} {p q:List Nat}:((p++(a++b))++q).Perm ((p++a)++(q++b)):=by
 grind
theorem pZ:∀(k:Nat) {lo:Tx} {h:Option Tx} {n m:E (k+1)} {x:Tx},Ok (k+1) lo (some x) n→Ok (k+1) x h m→x.length≤96→¬cut (k+1) n x m→Joined k lo h n m (join k n m x).1 (join k n m x).2
 |0,lo,h,n,m,x,on,om,hx,hc=>by
  rw[rA]
  obtain⟨n1,n2,n3,n4⟩:=on
  obtain⟨m1,m2,m3,m4⟩:=om
  obtain⟨A,a,hA⟩:=dA n1
  cases hB:its m with
  |nil=>exact absurd hB m1
  |cons b B=>
   have hsz:sz 0 (its n++its m)=sz 0 (its n)+sz 0 (its m):=dV _ _ _
   have EC:=m3 b (by rw[hB];rfl)
   rw[if_pos rfl] at EC
   refine⟨⟨?_, ?_, ?_, ?_⟩, ?_,rfl, ?_, ?_, ?_, ?_, ?_⟩
   ·simp_all
   ·simp_all[tj]
   ·intro p hp
    refine n3 p ?_
    rw[its_mk,hA,aB] at hp
    rw[hA]
    cases A<;>exact hp
   ·show cV (Ok 0) (cut 0) h (its n++b::B)
    rw[hA,aB]
    unfold qT at n4 m4
    rw[if_pos rfl] at n4 m4
    rw[hA] at n4
    rw[hB] at m4
    have hl:lt a.1 b.1=true:=lt_of_lt_of_le n4.last.2 EC.1
    exact cV.append.2 ⟨cV.iE (x:=a.2) n4 ⟨n4.last.1,hl⟩ (fun _ _ h=>h),⟨hl,EC.2,trivial⟩,m4⟩
   ·rw[its_mk,←hB];rfl
   ·rw[its_mk,←hB,hsz];omega
   ·rw[its_mk,←hB,hsz];omega
   ·rw[bp,bp,bp,its_mk,hd_mk,←hB,bK]
    exact xw
   ·intro o
    refine⟨o.1,fun _ _=>trivial⟩
   ·intro o
    have hp:=o.1
    rw[bR,bR,bR,its_mk,hd_mk,←hB,cz,if_pos hp]
    show (if (hd n).page.isSome=true then 0 else 1)+_=_
    omega
 |k+1,lo,h,n,m,x,on,om,hx,hc=>by
  obtain⟨A,a,hA⟩:=dA on.1
  cases hB:its m with
  |nil=>exact absurd hB om.1
  |cons b r=>
   rw[kZ hA hB]
   obtain⟨hb,ms⟩:=om.key hB
   have ns:cV (Ok (k+1)) (cut (k+1)) (some x) (bA lo (A++[a])):=by
    have:=on.2.2.2
    unfold qT at this
    rwa [if_neg (cT _),hA] at this
   obtain⟨A',y,PA,hA2⟩:=jB lo A a
   rw[PA] at ns
   have Zv:lt y x=true:=ns.last.lt
   have Jm:=Jl on.1
   have Wt:sz (k+1) (its m)=4+sz (k+1) r:=by rw[hB,sz,d_,hb];rfl
   have hcs:sz (k+1) (its n)+sz (k+1) (its m)+x.length≤510:=by
    rw[tq] at hc
    omega
   have xx:∀(v:E (k+1)) (B:List (Tx×E (k+1))),Head (k+1) lo (A++(a.1,v)::B):=by
    intro v B p hp
    rw[if_neg (cT _)]
    have h3:=on.2.2.1
    cases A with
    |nil=>
     cases hp
     have:=h3 a (by rw[hA];rfl)
     rwa [if_neg (cT _)] at this
    |cons q A=>
     have:=h3 p (by rw[hA];exact hp)
     rwa [if_neg (cT _)] at this
   have Sq:∀(v:E (k+1)) (B:List (Tx×E (k+1))),qT (k+1) lo (A++(a.1,v)::B)=A'++(y,v)::B:=by
    intro v B
    unfold qT
    rw[if_neg (cT _),show A++(a.1,v)::B=(A++[(a.1,v)])++B by simp,eW _ _ _ (by simp),hA2 v]
    simp
   have FW:∀(v:E (k+1)) (B:List (Tx×E (k+1))),sz (k+1) (A++(a.1,v)::B)=sz (k+1) (its n)+sz (k+1) B:=by
    grind [dV,sz,d_]
   by_cases wm:cut (k+1) a.2 x b.2
   ·rw[if_pos wm]
    have e1:A++a::(x,b.2)::r=A++(a.1,a.2)::(x,b.2)::r:=rfl
    refine⟨⟨?_, ?_, ?_, ?_⟩, ?_,rfl, ?_, ?_, ?_, ?_, ?_⟩
    ·rw[its_mk];simp
    ·rw[its_mk,e1,FW,sz,d_]
     show _+(4+x.length+_)≤510
     omega
    ·rw[its_mk];exact xx a.2 _
    ·rw[its_mk,e1,Sq]
     exact cV.append.2 ⟨ns,⟨Zv,hx,wm⟩,ms⟩
    ·rw[its_mk,hA,hB,show A++a::(x,b.2)::r=(A++[a])++(x,b.2)::r by simp,bJ]
     rfl
    ·rw[its_mk,e1,FW];omega
    ·rw[its_mk,e1,FW,Wt,sz,d_];omega
    ·rw[bp,bp,bp,its_mk,hd_mk,hA,hB,show A++a::(x,b.2)::r=(A++[a])++(x,b.2)::r by simp,bK]
     exact xw
    ·intro o
     refine⟨o.1,fun p hp=>o.2 p ?_⟩
     rw[its_mk,sS] at hp
     rw[hA];exact hp
    ·intro o
     rw[bR,bR,bR,its_mk,hd_mk,hA,hB,show A++a::(x,b.2)::r=(A++[a])++(x,b.2)::r by simp,cz,if_pos o.1,ew,ew]
     show (if (hd n).page.isSome=true then 0 else 1)+(_+(eT (k+1) b.2+_))=_
     omega
   ·rw[if_neg wm]
    have key:∀h',Ok (k+1) x h' b.2→Joined k y h' a.2 b.2 (join k a.2 b.2 x).1 (join k a.2 b.2 x).2:=fun h' ob=>pZ k ns.last ob hx wm
    generalize hj:join k a.2 b.2 x=j at key
    have J:Joined k y (match r with|[]=>h|c::_=>some c.1) a.2 b.2 j.1 j.2:=by
     cases r with
     |nil=>exact key _ ms
     |cons c r=>exact key _ ms.1
    refine⟨⟨?_, ?_, ?_, ?_⟩, ?_,rfl, ?_, ?_, ?_, ?_, ?_⟩
    ·rw[its_mk];simp
    ·rw[its_mk,FW];omega
    ·rw[its_mk];exact xx _ _
    ·rw[its_mk,Sq]
     cases r with
     |nil=>exact cV.iE (a:=(y,a.2)) ns J.ok (fun _ _ hc=>kY hc J.left)
     |cons c r=>
      have hs:=cV.iE (a:=(y,a.2)) (h':=some c.1) ns J.ok (fun _ _ hc=>kY hc J.left)
      exact cV.append.2 ⟨hs,⟨lt_trans Zv ms.2.1.1,ms.2.1.2.1,mX ms.2.1.2.2 J.right⟩,ms.2.2⟩
    ·rw[its_mk,hA,hB,bJ,bJ,show (a.1,j.1)::r=[(a.1,j.1)]++r from rfl,show b::r=[b]++r from rfl,bJ,bJ,dK,dK,dK,J.ct]
     simp only[aB]
    ·rw[its_mk,FW];omega
    ·rw[its_mk,FW];omega
    ·have hp:=J.b8
     rw[bp,bp (k+1) n,bp (k+1) m,its_mk,hd_mk,hA,hB,bK,bK,fI,fI,fI]
     show (((hd n).page.toList++(dI (k+1) A++(b8 (k+1) j.1++dI (k+1) r)))++(j.2++(hd m).page.toList)).Perm (((hd n).page.toList++(dI (k+1) A++(b8 (k+1) a.2++dI (k+1) [])))++((hd m).page.toList++(b8 (k+1) b.2++dI (k+1) r)))
     have e0:dI (k+1) ([]:List (Tx×E (k+1)))=[]:=rfl
     rw[e0,bh]
     simp only[aB]
     refine List.Perm.append_left _ (List.Perm.append_left _ ?_)
     generalize dI (k+1) r=R
     generalize (hd m).page.toList=M
     have h1:(b8 (k+1) j.1++(R++(j.2++M))).Perm ((b8 (k+1) j.1++j.2)++(R++M)):=by
      rw[aB]
      refine List.Perm.append_left _ ?_
      rw[←aB,←aB]
      exact List.Perm.append_right _ l7
     refine h1.trans ((List.Perm.append_right _ hp).trans ?_)
     rw[aB]
     refine List.Perm.append_left _ ?_
     have h2:(b8 (k+1) b.2++(R++M)).Perm ((b8 (k+1) b.2++R)++M):=by rw[aB]
     exact h2.trans l7
    ·intro o
     refine⟨o.1,fun p hp=> ?_⟩
     rw[its_mk] at hp
     cases A with
     |nil=>
      cases hp
      exact J.old (o.2 a (by rw[hA];rfl))
     |cons q A=>exact o.2 p (by rw[hA];exact hp)
    ·intro o
     have ho:=J.eT (o.2 b (by rw[hB];rfl))
     rw[bR,bR (k+1) n,bR (k+1) m,its_mk,hd_mk,hA,hB,cz,cz,ew,ew,ew,if_pos o.1]
     show (if (hd n).page.isSome=true then 0 else 1)+(_+(eT (k+1) j.1+_))=_
     have e0:jP (k+1) ([]:List (Tx×E (k+1)))=0:=rfl
     omega
end Tr
namespace Tr
def cA:Tx→Tx→Tx
 |[],b=>b.take 1
 |_::_,[]=>[]
 |x::a,y::b=>if x=y then y::cA a b else [y]
theorem sx:∀{a b:Tx},lt a b=true→le (cA a b) b∧lt a (cA a b)=true∧(cA a b).length≤b.length
 |[],[],h=>by cases h
 |[],y::b,_=>⟨by simp only[cA,le,List.take,lt];cases b<;>simp,rfl,by simp[cA]⟩
 |_::_,[],h=>by simp[lt] at h
 |x::a,y::b,h=>by
  unfold cA
  by_cases e:x=y
  ·subst e
   rw[if_pos rfl]
   have h':lt a b=true:=by
    simp_all[lt,UInt8.lt_irrefl]
   obtain⟨h1,h2,h3⟩:=sx h'
   refine⟨?_, ?_,by simpa using h3⟩
   ·simp_all[le,lt]
   ·simp[lt,h2]
  ·simp_all[lt,Bool.or_eq_true,fy,le]
def cg (k:Nat) (tot:Nat):Nat→List (Tx×E k)→List (Tx×E k)×List (Tx×E k)
 |_,[]=>([],[])
 |_,[p]=>([],[p])
 |s,p::q::r=>if 2*s<tot then (p::(cg k tot (s+iQ k p) (q::r)).1,(cg k tot (s+iQ k p) (q::r)).2) else ([],p::q::r)
theorem oR (k tot:Nat):∀(l:List (Tx×E k)) (s:Nat),(cg k tot s l).1++(cg k tot s l).2=l
 |[],_=>rfl
 |[_],_=>rfl
 |p::q::r,s=>by
  unfold cg
  split
  ·show p::(_++_)=_
   rw[oR k tot (q::r)]
  ·rfl
theorem l8 (k tot:Nat):∀(l:List (Tx×E k)) (s:Nat),l≠[]→(cg k tot s l).2≠[]
 |[],_,h=>absurd rfl h
 |[_],_,_=>by simp[cg]
 |p::q::r,s,_=>by
  unfold cg
  split
  ·exact l8 k tot (q::r) _ (by simp)
  ·simp
theorem uk (k tot M:Nat):∀(l:List (Tx×E k)) (s:Nat),(∀p∈l,iQ k p≤M)→2*s<tot+2*M→2*(s+sz k (cg k tot s l).1)<tot+2*M
 |[],s,_,h=>by simpa[cg,sz] using h
 |[_],s,_,h=>by simpa[cg,sz] using h
 |p::q::r,s,hM,h=>by
  unfold cg
  split
  ·rename_i h1
   have hp:=hM p aA
   have:=uk k tot M (q::r) (s+iQ k p) (fun x hx=>hM x (aF _ hx)) (by omega)
   show 2*(s+(iQ k p+_))<_
   omega
  ·simpa[sz] using h
theorem sy (k tot M:Nat):∀(l:List (Tx×E k)) (s:Nat),(∀p∈l,iQ k p≤M)→s+sz k l=tot→2*sz k (cg k tot s l).2≤tot∨sz k (cg k tot s l).2≤M
 |[],_,_,_=>.inr (aC _)
 |[p],_,hM,_=>.inr (by have:=hM p aA;simpa[cg,sz] using this)
 |p::q::r,s,hM,h=>by
  unfold cg
  split
  ·exact sy k tot M (q::r) (s+iQ k p) (fun x hx=>hM x (aF _ hx)) (by rw[sz] at h;omega)
  ·grind
theorem l_ (k tot:Nat) (l:List (Tx×E k)) (h1:sz k l=tot) (hM:∀p∈l,iQ k p≤510) (ht:510<tot):(cg k tot 0 l).1≠[]:=by
 cases l with
 |nil=>rw[sz] at h1;omega
 |cons p l=>
  cases l with
  |nil=>
   have:=hM p aA
   simp only[sz] at h1
   omega
  |cons q r=>
   unfold cg
   rw[if_pos (by omega)]
   simp
structure OD (k:Nat) where
 low:E (k+1)
 key:Tx
 up:E (k+1)
def p4 {α:Type} (l:List (Tx×α)):Tx:=match l.getLast? with|none=>[]|some a=>a.1
def b7 {α:Type} (l:List (Tx×α)):Tx:=match l with|[]=>[]|a::_=>a.1
def part (k:Nat) (n:E (k+1)):OD k:=
 ⟨mk ⟨(hd n).page,true⟩ (cg k (sz k (its n)) 0 (its n)).1,
  if k=0 then cA (p4 (cg k (sz k (its n)) 0 (its n)).1) (b7 (cg k (sz k (its n)) 0 (its n)).2) else b7 (cg k (sz k (its n)) 0 (its n)).2,
  mk ⟨none,true⟩ (if k=0 then (cg k (sz k (its n)) 0 (its n)).2 else bA [] (cg k (sz k (its n)) 0 (its n)).2)⟩
structure CK (k:Nat) (lo:Tx) (h:Option Tx) (n:E (k+1)) (s:OD k):Prop where
 low:Ok (k+1) lo (some s.key) s.low
 up:Ok (k+1) s.key h s.up
 len:s.key.length≤96
 cut:cut (k+1) s.low s.key s.up
 ct:ct k (its s.low)++ct k (its s.up)=ct k (its n)
 b8:b8 (k+1) s.low++b8 (k+1) s.up=b8 (k+1) n
 old:Old (k+1) n→Old (k+1) s.low
 eT:eT (k+1) s.low+eT (k+1) s.up=eT (k+1) n+1
theorem cV.lens {α:Type} {O:Tx→Option Tx→α→Prop} {C:α→Tx→α→Prop} {h:Option Tx}:∀{a:Tx×α} {l:List (Tx×α)},cV O C h (a::l)→∀p∈l,p.1.length≤96
 |_,[],_,_,hp=>by cases hp
 |_,b::r,hs,p,hp=>by
  rcases aQ.1 hp with rfl|hp
  ·exact hs.2.1.2.1
  ·exact cV.lens (a:=b) hs.2.2 p hp
theorem cV.each {α:Type} {O:Tx→Option Tx→α→Prop} {C:α→Tx→α→Prop} {h:Option Tx}:∀{l:List (Tx×α)},cV O C h l→∀p∈l,∃u,O p.1 u p.2
 |[],_,_,hp=>by cases hp
 |[a],hs,p,hp=>by rw[cH.1 hp];exact⟨_,hs⟩
 |a::b::r,hs,p,hp=>by
  rcases aQ.1 hp with rfl|hp
  ·exact⟨_,hs.1⟩
  ·exact cV.each (l:=b::r) hs.2.2 p hp
theorem Rw.size {k:Nat} {lo:Tx} {h:Option Tx} {l:List (Tx×E k)} (w:Rw k lo h l):∀p∈l,iQ k p≤154:=by
 intro p hp
 obtain⟨h3,h4⟩:=w
 cases l with
 |nil=>cases hp
 |cons a r=>
  have ha:=h3 a rfl
  unfold qT at h4
  cases k with
  |zero=>
   rw[if_pos rfl] at ha h4
   obtain⟨u,hu⟩:=h4.each p hp
   have hl:p.1.length≤96:=by
    rcases aQ.1 hp with rfl|hp
    ·exact ha.2
    ·exact h4.lens p hp
   have:=hu.1
   unfold iQ
   omega
  |succ k=>
   rw[if_neg (cT _)] at ha h4
   rw[d_]
   have hl:p.1.length≤96:=by
    rcases aQ.1 hp with rfl|hp
    ·grind
    ·exact cV.lens (a:=(lo,a.2)) h4 p hp
   omega
theorem p5 {α:Type} (A:List (Tx×α)) (a:Tx×α):p4 (A++[a])=a.1:=by unfold p4;rw[cF]
theorem nJ (k:Nat) {lo:Tx} {h:Option Tx} {n:E (k+1)} (o:ig k lo h n) (hb:510<sz k (its n)):CK k lo h n (part k n):=by
 have hM:=o.2.size
 have hall:=oR k (sz k (its n)) (its n) 0
 have hne:its n≠[]:=by intro e;rw[e] at hb;exact absurd hb (by simp[sz])
 have hu:=l8 k (sz k (its n)) (its n) 0 hne
 have hl:=l_ k _ (its n) rfl (fun p hp=>by have:=hM p hp;omega) hb
 have s1:=uk k (sz k (its n)) 154 (its n) 0 hM (by omega)
 have s2:=sy k (sz k (its n)) 154 (its n) 0 hM (by omega)
 have hsz:=dV k (cg k (sz k (its n)) 0 (its n)).1 (cg k (sz k (its n)) 0 (its n)).2
 rw[hall] at hsz
 have h664:=o.1
 obtain⟨o3,o4⟩:=o.2
 unfold part
 generalize cg k (sz k (its n)) 0 (its n)=lu at*
 obtain⟨L,U⟩:=lu
 simp only at hall hu hl s1 s2 hsz ⊢
 obtain⟨A,a,rfl⟩:=dA hl
 cases U with
 |nil=>exact absurd rfl hu
 |cons b B=>
  rw[p5]
  have xx:∀p,(A++[a]).head?=some p→(its n).head?=some p:=by
   grind
  cases k with
  |zero=>
   simp only[if_pos]
   unfold qT at o4
   rw[if_pos rfl,←hall,aB] at o4
   obtain⟨t1,t2,t3⟩:=cV.append.1 o4
   obtain⟨k1,k2,k3⟩:=sx t2.1
   show CK 0 lo h n ⟨_,cA a.1 b.1,_⟩
   generalize cA a.1 b.1=x at k1 k2 k3
   refine⟨⟨?_, ?_, ?_, ?_⟩,⟨?_, ?_, ?_, ?_⟩,by have:=t2.2.1;show x.length≤96;omega, ?_, ?_, ?_, ?_, ?_⟩
   ·rw[its_mk];exact hl
   ·simp_all;omega
   ·intro p hp;exact o3 p (xx p hp)
   ·show cV (Ok 0) (cut 0) (some x) (A++[a])
    exact cV.iE (x:=a.2) t1 ⟨t1.last.1,k2⟩ (fun _ _ h=>h)
   ·rw[its_mk];simp
   ·simp_all;omega
   ·intro p hp
    rw[its_mk] at hp
    cases hp
    rw[if_pos rfl]
    exact⟨k1,t2.2.1⟩
   ·exact t3
   ·simp_all[sz,tj]
   ·rw[its_mk,its_mk,←hall];rfl
   ·have e2:=bK 0 (A++[a]) (b::B)
    rw[bp,bp,bp,←hall,e2,aB];rfl
   ·intro q;exact⟨q.1,fun _ _=>trivial⟩
   ·have e2:=cz 0 (A++[a]) (b::B)
    rw[bR,bR,bR,←hall,e2]
    show (if (hd n).page.isSome=true then 0 else 1)+jP 0 (A++[a])+(1+jP 0 (b::B))=_
    omega
  |succ k=>
   rw[if_neg (cT _),if_neg (cT _)]
   unfold qT at o4
   rw[if_neg (cT _),←hall] at o4
   obtain⟨A',y,PA,_⟩:=jB lo A a
   rw[eW _ _ _ hl,PA,aB] at o4
   obtain⟨t1,t2,t3⟩:=cV.append.1 o4
   have e1:=Jk (k+1) [] b B
   show CK (k+1) lo h n ⟨_,b.1,_⟩
   refine⟨⟨?_, ?_, ?_, ?_⟩,⟨?_, ?_, ?_, ?_⟩,t2.2.1, ?_, ?_, ?_, ?_, ?_⟩
   ·rw[its_mk];exact hl
   ·rw[its_mk];omega
   ·intro p hp;exact o3 p (xx p hp)
   ·simp_all[qT]
   ·simp_all
   ·simp_all;omega
   ·intro p hp
    rw[its_mk] at hp
    cases hp
    rw[if_neg (cT _)]
   ·simp_all[qT]
   ·simp_all[tq];omega
   ·rw[its_mk,its_mk,jo,←bJ,hall]
   ·have e2:=bK (k+1) (A++[a]) (b::B)
    rw[bp,bp,bp,←hall,e2,aB];rfl
   ·intro q
    refine⟨q.1,fun p hp=>q.2 p (xx p ?_)⟩
    rw[its_mk] at hp
    exact hp
   ·have e2:=cz (k+1) (A++[a]) (b::B)
    rw[bR,bR,bR,←hall,e2]
    show (if (hd n).page.isSome=true then 0 else 1)+jP (k+1) (A++[a])+(1+jP (k+1) (b::B))=_
    omega
end Tr
namespace Bl
open Wl (Text)
open Rm
theorem FX (x:Option Text) (pg:List (Option Text)):used (x::pg)=x.isSome.toNat+used pg:=by
 unfold used
 cases x
 ·rw[cS,if_neg (by decide)]
  show _=0+_
  omega
 ·rw[cS,if_pos (show (some _:Option Text).isSome=true from rfl),aW]
  show _=1+_
  omega
theorem j9:∀{pg:List (Option Text)},used pg<pg.length→∃p,firstFree pg=some p
 |[],h=>absurd h (Nat.not_lt_zero _)
 |none::pg,_=>⟨0,rfl⟩
 |some t::pg,h=>by
  obtain⟨p,hp⟩:=j9 (pg:=pg) (by
   rw[FX,aW] at h
   have:(some t:Option Text).isSome.toNat=1:=rfl
   omega)
  exact⟨p+1,by show (firstFree pg).map (· +1)=_;rw[hp];rfl⟩
end Bl
section
open Go.RowKit Lib
theorem j_ (s:ByteArray) (k:Nat) (hk:k<s.size):s.data.toList.getD k 0=s[k]:=by
 rw[bT,aJ (by rw[aZ];exact hk),Option.getD_some]
 rfl
theorem CL (a b:Nat) (h:a|||b<9223372036854775808) (ha:a<18446744073709551616) (hb:b<18446744073709551616):bits .or .i64 (a:Int) (b:Int)=((a|||b:Nat):Int):=by
 show IntKind.i64.wrap ((BitVec.ofInt 64 (a:Int)|||BitVec.ofInt 64 (b:Int)).toNat:Int)=_
 rw[BitVec.toNat_or,ofInt_u64 a ha,ofInt_u64 b hb]
 generalize a|||b=c at*
 have e:(c:Int)%2^64=c:=Int.emod_eq_of_lt (by omega) (by omega)
 simp only[IntKind.wrap,IntKind.bits,IntKind.signed,e]
 rw[if_neg]
 simp
 omega
theorem cN (n:Nat) (h:n<9223372036854775808):IntKind.i64.wrap (n:Int)=(n:Int):=by
 have e:(n:Int)%2^64=n:=Int.emod_eq_of_lt (by omega) (by omega)
 simp only[IntKind.wrap,IntKind.bits,IntKind.signed,e]
 rw[if_neg]
 simp
 omega
theorem Sr (a b n:Nat) (h:b<2^n):a*2^n|||b=a*2^n+b:=by
 rw[show a*2^n=a<<<n from by rw[Nat.shiftLeft_eq],←Nat.shiftLeft_add_eq_or_of_lt h]
theorem CN (a b:UInt8):bits .or .i64 (IntKind.i64.wrap (IntKind.i64.wrap (a.toNat:Int)*256)) (IntKind.i64.wrap (b.toNat:Int))=((a.toNat*256+b.toNat:Nat):Int):=by
 have ha:=a.toNat_lt
 have hb:=b.toNat_lt
 have e:a.toNat*256|||b.toNat=a.toNat*256+b.toNat:=Sr _ _ 8 hb
 rw[cN b.toNat (by omega),cN a.toNat (by omega),show (a.toNat:Int)*256=((a.toNat*256:Nat):Int) by omega,cN (a.toNat*256) (by omega),CL _ _ (by rw[e];omega) (by omega) (by omega),e]
theorem Jn (w:World) (g c:Nat) (l:List UInt8) (hb:aS w g 5 (l.map bL)):(convert 94 9 (.slice (some ⟨g,0,none⟩) l.length c)).run Tryz.prog w=.ok (.string (bs l)) w:=by
 exact run_convert_bytes_back (P:=Tryz.prog) w 94 9 5 ⟨g,0,none⟩ c l (by kernel_rfl) (by kernel_rfl) (by kernel_rfl) (by
  intro j hj
  rw[show (⟨g,0,none⟩:Addr).add j=⟨g,j,none⟩ by unfold Addr.add;split<;>simp_all]
  refine hb.cell ?_
  rw[cJ,aJ hj]
  rfl)
section
variable {w w':World} {p q:Nat} {n m:NV}
theorem ke (h:Nd w p n) (hs:Jg n.its) (key:List UInt8):
  Calls Tryz.prog 52 #[ptr p,.string (bs key)] w fun e w'=>e=.returned (.tuple #[.int .i64 (posOf n.its key),.bool (ec n.its key)])∧Below w.heap.size w w':=by
 have c1:=h.c1
 have HC:=aa (Ar w n.rg n.ro n.cap n.its h.row h.small.len hs key)
 clear h
 go_enter Tryz.func52,Tryz.ntmps52
 unfold ptr
 go_wp2_with fail
 refine HC.o.mono ?_
 rintro e w1 ⟨rfl,bF⟩
 go_wp2
 go_ret2
 exact⟨rfl,bF⟩
theorem CO (p:Nat) (h:w.cell? ⟨p,1,none⟩=some (.slice none 0 0)) (key:List UInt8):
  Calls Tryz.prog 52 #[ptr p,.string (bs key)] w fun e w'=>e=.returned (.tuple #[.int .i64 0,.bool false])∧Below w.heap.size w w':=by
 have HC:Calls Tryz.prog 80 #[.slice none 0 0,.string (bs key),.func (.func 81) #[] #[]] w fun e w'=>e=.returned (.tuple #[.int .i64 0,.bool false])∧Below w.heap.size w w':=by
  go_enter Tryz.func80,Tryz.ntmps80
  go_wp2
  go_loopw [9,10] (fun iv jv wr=>iv=.int .i64 0∧jv=.int .i64 0∧Hid (Below w.heap.size w wr)) (fun _ _ _=>0)
  case atStart=>exact⟨rfl,rfl,aa (Below.refl _ _)⟩
  case round=>
   obtain⟨rfl,rfl,hB⟩:=hrel
   go_wp2
   go_ret2
   exact⟨rfl,hB.o⟩
 have wE:=aa HC
 go_enter Tryz.func52,Tryz.ntmps52
 unfold ptr
 go_wp2_with fail
 refine wE.o.mono ?_
 rintro e w1 ⟨rfl,bF⟩
 go_wp2
 go_ret2
 exact⟨rfl,bF⟩
def sA (l:List It) (key:List UInt8):Int:=if ec l key then posOf l key else (posOf l key:Int)-1
theorem um (h:Nd w p n) (hs:Jg n.its) (key:List UInt8):
  Calls Tryz.prog 78 #[ptr p,.string (bs key)] w fun e w'=>e=.returned (.int .i64 (sA n.its key))∧Below w.heap.size w w':=by
 have HC:=aa (ke h hs key)
 have hp:=uh n.its key
 have hl:=h.small.len
 have OE:(posOf n.its key:Int)≤400:=by omega
 unfold sA
 clear h hs
 generalize posOf n.its key=a at*
 cases ht:ec n.its key with
 |true=>
  rw[ht] at HC
  go_enter Tryz.func78,Tryz.ntmps78
  go_wp2_with fail
  refine HC.o.mono ?_
  rintro e w1 ⟨rfl,bF⟩
  go_wp2
  go_ret
  exact⟨rfl,bF⟩
 |false=>
  rw[ht] at HC
  go_enter Tryz.func78,Tryz.ntmps78
  go_wp2_with fail
  refine HC.o.mono ?_
  rintro e w1 ⟨rfl,bF⟩
  go_wp2
  go_ret
  exact⟨rfl,bF⟩
theorem p6 {fn:Func} {p:Tmp} (h:fn.results=#[.cell p 125]) (tmps:Array Value) (w:World) (g:Nat) (x y:Value) (fr:Nat×Nat)
  (hp:tmps.getD p undef=.pointer (some ⟨g,0,none⟩)) (hg:w.heap[g]?=some (.cells #[x,y] 125 fr)):
  (results fn tmps).run Tryz.prog w=.ok (.agg #[x,y]) w:=
 results_cell_row h tmps w g _ _ fr _ hp hg Tryz.underlying125 rfl (by kernel_rfl)
theorem me (w:World) (x y:Obj):((w.alloc x).alloc y).heap[w.heap.size]?=some x:=by
 rw[Below.heap_alloc _ _ _ (by simp only[bk];omega)]
 exact heap_alloc_new w x
def eF (n:NV) (j:Nat):List UInt8:=if j=0 then n.lo else (n.its.map It.key).getD j []
def dW (n:NV) (j:Nat):List UInt8:=if j+1<n.its.length then (n.its.map It.key).getD (j+1) [] else n.hi
theorem As (h:Nd w p n) (j:Nat) (hj:j<n.its.length):
  Calls Tryz.prog 170 #[ptr p,.int .i64 j] w fun e w'=>e=.returned (.agg #[.string (bs (eF n j)),.string (bs (dW n j))])∧Below w.heap.size w w':=by
 have c1:=h.c1
 have c3:=h.c3
 have c4:=h.c4
 have dH:=h.blk.lt
 have hrl:=th h.row hj
 obtain⟨s1,s2,s3⟩:=aV h.row j hj
 have hl:=h.small.len
 have FU:(j:Int)<n.its.length:=by omega
 have iY:(n.its.length:Int)≤400:=by omega
 obtain⟨LO,hLO⟩:∃x,x=bs (eF n j):=⟨_,rfl⟩
 obtain⟨HI,hHI⟩:∃x,x=bs (dW n j):=⟨_,rfl⟩
 rw[←hLO,←hHI]
 have HH:=aa (And.intro hLO hHI)
 clear hLO hHI
 by_cases h0:0<j
 ·have Re:(0:Int)<j:=by omega
  have HL:=aa (show LO=bs n.its[j].key by rw[HH.o.1];unfold eF;rw[if_neg (by omega),bT,cJ,aJ hj];rfl)
  by_cases h1:j+1<n.its.length
  ·have Oz:(j:Int)+1<n.its.length:=by omega
   obtain⟨t1,t2,t3⟩:=aV h.row (j+1) h1
   have HR:=aa (show HI=bs n.its[j+1].key by rw[HH.o.2];unfold dW;rw[if_pos h1,bT,cJ,aJ h1];rfl)
   clear h
   go_enter Tryz.func170,Tryz.ntmps170
   unfold ptr
   go_wp2
   refine bodyPost_ret (p6 rfl _ _ w.heap.size _ _ _ rfl (me w _ _)) rfl ?_
   exact⟨by rw[HL.o,HR.o],((Below.refl _ w).alloc (af _) _).alloc (by simp only[bk];omega) _⟩
  ·have Oz:¬(j:Int)+1<n.its.length:=by omega
   have HR:=aa (show HI=bs n.hi by rw[HH.o.2];unfold dW;rw[if_neg h1])
   clear h
   go_enter Tryz.func170,Tryz.ntmps170
   unfold ptr
   go_wp2
   refine bodyPost_ret (p6 rfl _ _ w.heap.size _ _ _ rfl (me w _ _)) rfl ?_
   exact⟨by rw[HL.o,HR.o],((Below.refl _ w).alloc (af _) _).alloc (by simp only[bk];omega) _⟩
 ·have Re:¬(0:Int)<j:=by omega
  have HL:=aa (show LO=bs n.lo by rw[HH.o.1];unfold eF;rw[if_pos (by omega)])
  by_cases h1:j+1<n.its.length
  ·have Oz:(j:Int)+1<n.its.length:=by omega
   obtain⟨t1,t2,t3⟩:=aV h.row (j+1) h1
   have HR:=aa (show HI=bs n.its[j+1].key by rw[HH.o.2];unfold dW;rw[if_pos h1,bT,cJ,aJ h1];rfl)
   clear h
   go_enter Tryz.func170,Tryz.ntmps170
   unfold ptr
   go_wp2
   refine bodyPost_ret (p6 rfl _ _ w.heap.size _ _ _ rfl (me w _ _)) rfl ?_
   exact⟨by rw[HL.o,HR.o],((Below.refl _ w).alloc (af _) _).alloc (by simp only[bk];omega) _⟩
  ·have Oz:¬(j:Int)+1<n.its.length:=by omega
   have HR:=aa (show HI=bs n.hi by rw[HH.o.2];unfold dW;rw[if_neg h1])
   clear h
   go_enter Tryz.func170,Tryz.ntmps170
   unfold ptr
   go_wp2
   refine bodyPost_ret (p6 rfl _ _ w.heap.size _ _ _ rfl (me w _ _)) rfl ?_
   exact⟨by rw[HL.o,HR.o],((Below.refl _ w).alloc (af _) _).alloc (by simp only[bk];omega) _⟩
theorem Jo (W:World) (g:Nat) (a b:UInt8) (h:aS W g 5 [.int .u8 (a.toNat:Int),.int .u8 (b.toNat:Int)]):(convert 94 9 (.slice (some ⟨g,0,none⟩) 2 2)).run Tryz.prog W=.ok (.string (bs [a,b])) W:=Jn W g 2 [a,b] h
def pv (p:Nat):List UInt8:=[aY (p/256),aY (p%256)]
theorem fJ (w:World) (p:Nat) (hp:p<65536):
  Calls Tryz.prog 179 #[.int .i64 p] w fun e w'=>e=.returned (.string (bs (pv p)))∧Below w.heap.size w w':=by
 have OE:(p:Int)<65536:=by omega
 have hx1:((aY (p/256)).toNat:Int)=(p:Int)/256:=by rw[dY];omega
 have hx2:((aY (p%256)).toNat:Int)=(p:Int)%256:=by rw[dY];omega
 obtain⟨R,hR⟩:∃R,R=bs (pv p):=⟨_,rfl⟩
 have hc:(convert 94 9 (.slice (some ⟨w.heap.size,0,none⟩) 2 2)).run Tryz.prog (w.alloc (.cells #[.int .u8 ((p:Int)/256),.int .u8 ((p:Int)%256)] 5))=.ok (.string R) (w.alloc (.cells #[.int .u8 ((p:Int)/256),.int .u8 ((p:Int)%256)] 5)):=by
  rw[hR]
  exact Jo _ w.heap.size (aY (p/256)) (aY (p%256)) (by rw[hx1,hx2];exact aS.new w _ _)
 rw[←hR]
 clear hx1 hx2 hR
 go_enter Tryz.func179,Tryz.ntmps179
 go_wp2
 go_ret
 exact⟨rfl,(Below.refl _ w).alloc (af _) _⟩
theorem CP (w:World) (s:ByteArray) (hs:s.size=2):
  Calls Tryz.prog 169 #[.string s] w fun e w'=>e=.returned (.int .i64 ((s.data.toList.getD 0 0).toNat*256+(s.data.toList.getD 1 0).toNat:Nat))∧Below w.heap.size w w':=by
 have h4:0<s.size:=by omega
 have h5:1<s.size:=by omega
 obtain⟨N,hN⟩:∃N,N=(s.data.toList.getD 0 0).toNat*256+(s.data.toList.getD 1 0).toNat:=⟨_,rfl⟩
 have hA:N=s[0].toNat*256+s[1].toNat:=by rw[hN,j_ s 0 h4,j_ s 1 h5]
 rw[←hN]
 have HJ:=aa (show _=(N:Int) from (CN s[0] s[1]).trans (congrArg _ hA.symm))
 have HE:=aa (show IntKind.i64.wrap (s[0].toNat:Int)=s[0].toNat∧IntKind.i64.wrap (s[1].toNat:Int)=s[1].toNat∧IntKind.i64.wrap ((s[0].toNat:Int)*256)=(s[0].toNat:Int)*256 from⟨cN _ (by have:=s[0].toNat_lt;omega),cN _ (by have:=s[1].toNat_lt;omega),by
  have:=cN (s[0].toNat*256) (by have:=s[0].toNat_lt;omega)
  rwa [show ((s[0].toNat*256:Nat):Int)=(s[0].toNat:Int)*256 by omega] at this⟩)
 clear hN hA
 go_enter Tryz.func169,Tryz.ntmps169
 go_wp2_with (refine wp_region_any (by kernel_rfl) ?_;refine Hid.o ?_)
 refine aa ?_
 try (change wpAny _ _ _ _ _ _ _ (bD _))
 refine tk 0 ?_
 refine tk 1 ?_
 refine tk 2 ?_
 refine tk 3 ?_
 refine tk 4 ?_
 refine tk 5 ?_
 refine tk 6 ?_
 refine tk 7 ?_
 refine tk 8 ?_
 refine wpAny_done (by kernel_rfl) ?_ _
 simp only[HJ.o]
 simp only[HE.o.1,HE.o.2.1,HE.o.2.2]
 try simp only[Act.put,az,ay,au]
 go_wp2
 go_ret
 exact⟨rfl,(Below.refl _ w).drew⟩
theorem MA (p:Nat) (hp:p<65536):((bs (pv p)).data.toList.getD 0 0).toNat*256+((bs (pv p)).data.toList.getD 1 0).toNat=p:=by
 rw[bO]
 show (aY (p/256)).toNat*256+(aY (p%256)).toNat=p
 rw[dY,dY]
 omega
theorem CQ (w:World) (p:Nat) (hp:p<65536):
  Calls Tryz.prog 169 #[.string (bs (pv p))] w fun e w'=>e=.returned (.int .i64 p)∧Below w.heap.size w w':=by
 have:=CP w (bs (pv p)) (by rw[aK];rfl)
 rwa [MA p hp] at this
theorem Tr.wF (c a b:List UInt8):Tr.cA (c++a) (c++b)=c++Tr.cA a b:=by
 induction c with
 |nil=>rfl
 |cons x c ih=>show (if x=x then x::Tr.cA (c++a) (c++b) else [x])=_;rw[if_pos rfl,ih];rfl
theorem Tr.MC (c a b:List UInt8):Tr.lt (c++a) (c++b)=Tr.lt a b:=by
 induction c with
 |nil=>rfl
 |cons x c ih=>show (decide (x<x)||(x==x&&Tr.lt (c++a) (c++b)))=_;rw[ih];simp
theorem Au {a b:List UInt8} {k:Nat} (h:Tr.lt a b=true) (_hk:k≤a.length) (e:a.take k=b.take k):
  ∃hb:k<b.length,(∀ha:k<a.length,a[k]=b[k]→a.take (k+1)=b.take (k+1))∧((∀ha:k<a.length,a[k]≠b[k])→Tr.cA a b=b.take (k+1)):=by
 have ea:a=a.take k++a.drop k:=(cL k a).symm
 have eb:b=a.take k++b.drop k:=by rw[e];exact (cL k b).symm
 have hd:Tr.lt (a.drop k) (b.drop k)=true:=by
  rw[ea,eb,Tr.MC] at h
  have e1:(List.take k a++List.drop k a).drop k=a.drop k:=by rw[←ea]
  exact h
 have hb:k<b.length:=by
  rcases dw k b.length with h1|h1
  ·exact h1
  ·rw[List.drop_eq_nil_of_le h1] at hd
   cases a.drop k<;>simp[Tr.lt] at hd
 refine⟨hb,fun ha e2=> ?_,fun hn=> ?_⟩
 ·rw[cI ha,cI hb,e,e2]
 ·have es:Tr.cA a b=a.take k++Tr.cA (a.drop k) (b.drop k):=by
   conv=>lhs;rw[ea,eb]
   exact Tr.wF _ _ _
  rw[es,cI hb,←e,cm hb]
  congr 1
  rcases dw k a.length with h1|h1
  ·rw[cm h1]
   show (if a[k]=b[k] then _ else [b[k]])=_
   rw[if_neg (hn h1)]
  ·rw[List.drop_eq_nil_of_le h1];rfl
theorem p7 (w:World) (a b:List UInt8) (h:Tr.lt a b=true) (ha:a.length≤1000000) (hb:b.length≤1000000):
  Calls Tryz.prog 177 #[.string (bs a),.string (bs b)] w fun e w'=>e=.returned (.string (bs (Tr.cA a b)))∧Below w.heap.size w w':=by
 have h1:(bs a).size=a.length:=aK _
 have h2:(bs b).size=b.length:=aK _
 have LQ:(a.length:Int)≤1000000:=by omega
 have LR:(b.length:Int)≤1000000:=by omega
 have HT:=aa (fun n=>jz (bs b) n)
 have HA:=aa (fun (k:Nat) (hk:k<(bs a).size)=>(j_ (bs a) k hk).symm)
 have HB:=aa (fun (k:Nat) (hk:k<(bs b).size)=>(j_ (bs b) k hk).symm)
 have HH:=aa h
 obtain⟨R,hR⟩:∃R,R=Tr.cA a b:=⟨_,rfl⟩
 rw[←hR]
 have HR:=aa hR
 clear hR h
 obtain⟨x,hx⟩:∃x,x=bs a:=⟨_,rfl⟩
 obtain⟨y,hy⟩:∃y,y=bs b:=⟨_,rfl⟩
 rw[←hx] at h1 HA ⊢
 rw[←hy] at h2 HT HB ⊢
 have HX:=aa (And.intro hx hy)
 clear hx hy
 go_enter Tryz.func177,Tryz.ntmps177
 go_wp2
 go_loopw [5] (fun iv wr=>∃k:Nat,k≤a.length∧iv=.int .i64 k∧Hid (a.take k=b.take k)∧Hid (Below w.heap.size w wr)) (fun iv _=>a.length-(RowKit.intOf iv).toNat)
 case atStart=>exact⟨0,aC _,rfl,aa rfl,aa (Below.refl _ _)⟩
 case round=>
  obtain⟨k,hk,rfl,hE,hBl⟩:=hrel
  obtain⟨hkb,p1,p2⟩:=Au HH.o hk hE.o
  have s9:(k:Int)<b.length:=by omega
  have hy:k<y.size:=by rw[h2];exact hkb
  by_cases hka:k<a.length
  ·have Wu:(k:Int)<a.length:=by omega
   have hx:k<x.size:=by rw[h1];exact hka
   have ex:x[k]=a[k]:=by
    have:=HA.o k hx
    rw[this,HX.o.1,bO,bT,aJ hka];rfl
   have ey:y[k]=b[k]:=by
    have:=HB.o k hy
    rw[this,HX.o.2,bO,bT,aJ hkb];rfl
   have P1:=aa (p1 hka)
   have P2:=aa (fun (hn:a[k]≠b[k])=>p2 fun _=>hn)
   clear p1 p2
   rw[←ex,←ey] at P1 P2
   clear ex ey
   have HK:=aa (And.intro hka hkb)
   by_cases he:x[k]=y[k]
   ·have P3:=aa (P1.o he)
    have he':(x[k].toNat:Int)=y[k].toNat:=by rw[he]
    clear he P1 P2
    go_wp2_with fail
    go_quiet (fail)
    go_wp2
    go_roundw
    case rel=>exact⟨k+1,HK.o.1,by go_num,P3,aa (hBl.o.trans ⟨rfl,rfl,rfl,af _,fun _ _=>rfl⟩)⟩
    case measure=>have:=HK.o;simp[RowKit.intOf];omega
   ·have P3:=aa (P2.o he)
    have he':¬(x[k].toNat:Int)=y[k].toNat:=fun e=>he (UInt8.toNat_inj.1 (by omega))
    have P4:=aa (show y.extract 0 (k+1)=bs R by rw[HR.o,P3.o,HT.o,HX.o.2,bO])
    clear he P1 P2
    go_wp2_with fail
    go_quiet (fail)
    go_wp2
    go_ret
    exact⟨by rw[←P4.o];rfl,hBl.o.trans ⟨rfl,rfl,rfl,af _,fun _ _=>rfl⟩⟩
  ·have Wu:¬(k:Int)<a.length:=by omega
   have P3:=aa (p2 fun h=>absurd h hka)
   have P4:=aa (show y.extract 0 (k+1)=bs R by rw[HR.o,P3.o,HT.o,HX.o.2,bO])
   clear p1 p2
   go_wp2_with fail
   go_quiet (fail)
   go_wp2
   go_ret
   exact⟨by rw[←P4.o];rfl,hBl.o.trans ⟨rfl,rfl,rfl,af _,fun _ _=>rfl⟩⟩
theorem CR (h:Nd w p n):
  Calls Tryz.prog 94 #[ptr p] w fun e w'=>e=.returned (if n.level=0 then .slice (some ⟨n.rg,n.ro,none⟩) n.its.length n.cap else .slice none 0 0)∧w'=w:=by
 have c0:=h.c0
 have c1:=h.c1
 by_cases hl:n.level=0
 ·have iY:¬(0:Int)<n.level:=by omega
  rw[if_pos hl]
  clear h hl
  go_enter Tryz.func94,Tryz.ntmps94
  unfold ptr
  go_wp2
  go_ret
  exact⟨rfl,rfl⟩
 ·have iY:(0:Int)<n.level:=by omega
  rw[if_neg hl]
  clear h hl
  go_enter Tryz.func94,Tryz.ntmps94
  unfold ptr
  go_wp2
  go_ret
  exact⟨rfl,rfl⟩
end
end
end Go.Proofs.YtebbahjombdalaaGreatDoor
