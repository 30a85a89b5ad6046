/- Elder texts, cut down and merged (2). -/
import Derived.Test.YtgfdijemhanfkaaGreatDoorP1
import Derived.WalkKit
import Derived.WalkSpells
import Derived.WalkLawsBesides
import Derived.Laws.Rows
import Derived.Test.YtgfdijemhanfkaaGreatDoorChecked
import Derived.Deep.AppendLies
import Derived.Deep.RegionLaw
import Derived.Lib.AppendStr
import Derived.Test.YtgfdijemhanfkaaGreatDoorPTk
set_option maxRecDepth 100000
set_option maxHeartbeats 8000000
namespace Go.Proofs.YtgfdijemhanfkaaGreatDoor
open _root_.Go.Proofs.Tryz
open Option renaming some→av,none→aK
open Obj renaming cells→dg
open Value renaming int→bf,slice→cx,string→cu
open Or renaming inl→cS,inr→dc
open IntKind renaming i64→ct,u8→eD
open Ending renaming returned→c8
open Nat renaming le_refl->af,le_trans->aN,lt_of_lt_of_le->bL,zero_add->bG,lt_or_ge->ep,min_eq_left->bT
open World renaming block_lt_of_cell?->bA
open _root_.Array renaming getElem?_eq_some_iff->fY,length_toList->aU
open List renaming length_append->aq,length_cons->a_,getElem?_append_right->gO,take_append_drop->b_,length_take->aJ,take_of_length_le->bD,mem_singleton->bB,length_set->bV,map_cons->bI,mem_map->bY
section
open Go.RowKit
structure aE (S:Φ) (w w':World):Prop where
 os:w'.os=w.os
 tape:w'.tape=w.tape
 output:w'.output=w.output
 size:w.heap.size<=w'.heap.size
 block:∀k,k<w.heap.size->¬S k->w'.heap[k]?=w.heap[k]?
theorem aE.refl (S:Φ) (w:World):aE S w w:=⟨rfl,rfl,rfl,af _,fun _ _ _=>rfl⟩
theorem aE.trans {S T:Φ} {a b c:World} (h:aE S a b) (k:aE T b c) (H:∀i,i<a.heap.size->T i->S i):aE S a c:=
 ⟨k.os.trans h.os,k.tape.trans h.tape,k.output.trans h.output,aN h.size k.size,fun i hi hn=>
  (k.block i (bL hi h.size) (fun d=>hn (H i hi d))).trans (h.block i hi hn)⟩
theorem aE.mono {S T:Φ} {w w':World} (h:aE S w w') (a:∀i,i<w.heap.size->S i->T i):aE T w w':=
 ⟨h.os,h.tape,h.output,h.size,fun k H hn=>h.block k H fun hs=>hn (a k H hs)⟩
theorem aE.alloc {S:Φ} {a w:World} (h:aE S a w) (o:Obj):aE S a (w.alloc o):=
 h.trans (T:=fun _=>False) ⟨rfl,rfl,rfl,ν,fun k H _=>Below.heap_alloc _ _ _ H⟩ fun _ _ hf=>hf.elim
theorem aE.drew {S:Φ} {a w:World} (h:aE S a w):aE S a w.drew:=⟨h.os,h.tape,h.output,h.size,h.block⟩
theorem aE.drewN {S:Φ} {a w:World} (h:aE S a w) (n:Nat):aE S a (w.drewN n):=⟨h.os,h.tape,h.output,h.size,h.block⟩
theorem aE.setCell {S:Φ} {a w:World} (h:aE S a w) (p:Addr) (u:Value) (hp:p.block<a.heap.size->S p.block):aE S a (w.setCell p u):=
 h.trans (T:=fun k=>k=p.block) ⟨rfl,rfl,rfl,by simp[World.setCell],fun k _ hn=>Below.heap_setCell _ _ _ _ hn⟩ fun i hi e=>by subst e;exact hp hi
theorem aE.grown {S:Φ} {a w w':World} {row:Option Nat} (h:aE S a w) (hg:w.grownBy w' row) (hr:∀k,row=av k->k<a.heap.size->S k):aE S a w':=
 h.trans (T:=fun k=>row=av k) ⟨hg.os,hg.tape,hg.output,hg.size,fun k H hn=>hg.block k H (fun e=>hn e.symm)⟩ fun i hi e=>hr i e hi
theorem aE.aF {w w':World} (h:Below w.heap.size w w') (S:Φ):aE S w w':=⟨h.os,h.tape,h.output,h.size,fun k H _=>h.block k H⟩
theorem aE.below {S:Φ} {B:Nat} {w w':World} (h:aE S w w') (a:B<=w.heap.size) (hS:∀k,k<B->¬S k):Below B w w':=
 ⟨h.os,h.tape,h.output,h.size,fun k H=>h.block k (bL H a) (hS k H)⟩
theorem aE.cell {S:Φ} {w w':World} (h:aE S w w') {p:Addr} {u:Value} (hc:w.cell? p=av u) (hn:¬S p.block):w'.cell? p=av u:=
 (World.cell?_of_block (w:=w) (h.block p.block (bA _ _ hc) hn)).trans hc
theorem aE.frozen {S:Φ} {w w':World} (h:aE S w w') {p:Addr} (hl:p.block<w.heap.size) (hn:¬S p.block):w'.frozen? p=w.frozen? p:=
 World.frozen?_of_block (w:=w) (h.block p.block hl hn)
def aW (w:World) (g:Nat) (t:TypeId) (cs:List Value):Prop:=w.heap[g]?=av (dg cs.toArray t (0,0))
theorem aW.lt {w:World} {g:Nat} {t:TypeId} {cs:List Value} (h:aW w g t cs):g<w.heap.size:=(fY.1 h).1
theorem aW.cell {w:World} {g:Nat} {t:TypeId} {cs:List Value} (h:aW w g t cs) {j:Nat} {u:Value} (hu:cs[j]?=av u):w.cell? ⟨g,j,aK⟩=av u:=by unfold aW at h;simp[World.cell?,h,hu]
theorem aW.frozen {w:World} {g:Nat} {t:TypeId} {cs:List Value} (h:aW w g t cs) (j:Nat):w.frozen? ⟨g,j,aK⟩=false:=by unfold aW at h;simp[World.frozen?,h]
theorem aW.set {w:World} {g:Nat} {t:TypeId} {cs:List Value} (h:aW w g t cs) (j:Nat) (u:Value):aW (w.setCell ⟨g,j,aK⟩ u) g t (cs.set j u):=by unfold aW at h |-;rw[heap_setCell_same w g j _ _ _ h];simp
theorem aW.but {S:Φ} {w w':World} {g:Nat} {t:TypeId} {cs:List Value} (h:aW w g t cs) (H:aE S w w') (hn:¬S g):aW w' g t cs:=by have:=H.block g h.lt hn;unfold aW at h |-;rw[this];exact h
theorem aW.below {B:Nat} {w w':World} {g:Nat} {t:TypeId} {cs:List Value} (h:aW w g t cs) (H:Below B w w') (hg:g<B):aW w' g t cs:=by have:=H.block g hg;unfold aW at h |-;rw[this];exact h
theorem aW.drew {w:World} {g:Nat} {t:TypeId} {cs:List Value} (h:aW w g t cs):aW w.drew g t cs:=h
theorem aW.alloc {w:World} {g:Nat} {t:TypeId} {cs:List Value} (h:aW w g t cs) (o:Obj):aW (w.alloc o) g t cs:=by unfold aW;rw[Below.heap_alloc _ _ _ h.lt];exact h
theorem aW.other {w:World} {g:Nat} {t:TypeId} {cs:List Value} (h:aW w g t cs) (p:Addr) (u:Value) (H:g≠p.block):aW (w.setCell p u) g t cs:=by unfold aW;rw[Below.heap_setCell _ _ _ _ H];exact h
theorem aW.new (w:World) (cs:Array Value) (t:TypeId):aW (w.alloc (dg cs t)) w.heap.size t cs.toList:=heap_alloc_new w _
structure Elem (α:Type) where
 enc:α->List Value
 size:Nat
 pos:0<size
 len:∀a,(enc a).length=size
 one:∀a,∀u∈enc a,u.oneCell'=true
namespace Elem
variable {α:Type} (K:Elem α)
def cells (l:List α):List Value:=l.flatMap K.enc
theorem BL:K.cells []=[]:=rfl
theorem bS (a:α) (l:List α):K.cells (a::l)=K.enc a++K.cells l:=by simp[cells]
theorem cj (l m:List α):K.cells (l++m)=K.cells l++K.cells m:=by simp[cells]
theorem cm (l:List α):(K.cells l).length=l.length*K.size:=by
 induction l with
 |nil=>simp[cells]
 |cons a l i=>rw[bS,aq,i,K.len,a_,Nat.add_mul];omega
theorem qM (l:List α):∀u∈K.cells l,u.oneCell'=true:=by intro u hu;simp only[cells,List.mem_flatMap] at hu;obtain⟨a,_,ha⟩:=hu;exact K.one a u ha
theorem Me (l:List α):∀(j o:Nat),o<K.size->∀h:j<l.length,(K.cells l)[j*K.size+o]?=(K.enc l[j])[o]?:=by
 induction l with
 |nil=>intro j o _ h;cases h
 |cons a l i=>
  intro j o H h;rw[bS];cases j with
  |zero=>rw[Nat.zero_mul,bG,List.getElem?_append_left (by rw[K.len];exact H)];rfl
  |succ j=>rw[gO (by rw[K.len,Nat.add_mul];omega),K.len,show (j+1)*K.size+o-K.size=j*K.size+o by rw[Nat.add_mul];omega];rw[i j o H zax];rfl
theorem yB (l:List α) (n:Nat):K.cells (l.take n)=(K.cells l).take (n*K.size):=by
 rcases ep n l.length with hn|hn;·grind [cj,b_,cm,aJ,bT,Nat.le_of_lt,List.take_left]
 ·simp_all[bD,cm,Nat.mul_le_mul_right]
theorem Ih (l:List α) (n:Nat) (hn:n<=l.length):K.cells (l.drop n)=(K.cells l).drop (n*K.size):=by
 have e:K.cells l=K.cells (l.take n)++K.cells (l.drop n):=by rw[<-cj,b_]
 have hl:(K.cells (l.take n)).length=n*K.size:=by rw[cm,aJ,bT hn]
 rw[e,<-hl,List.drop_left]
end Elem
def nS {α:Type} (f:α->Value) (h:∀a,(f a).oneCell'=true):Elem α:=⟨fun a=>[f a],1,ξ,fun _=>rfl,fun a u hu=>by rw[bB.1 hu];exact h a⟩
theorem cv {α:Type} (f:α->Value) (h:∀a,(f a).oneCell'=true) (l:List α):(nS f h).cells l=l.map f:=by
 induction l with
 |nil=>rfl
 |cons a l i=>rw[Elem.bS,i];rfl
def eo (k:IntKind):Elem Int:=nS (fun n=>bf k n) (fun _=>rfl)
structure dx (P:Program) (T E:TypeId) (size:Nat):Prop where
 under:P.underlying T=av (.slice E)
 info:∃i z,P.info? E=av i/\i.zero=av z/\i.size=size/\z.cells.size=size/\i.bytes<=100000
theorem dx.of {P:Program} {T E:TypeId} {size bytes:Nat} {z:Value} (hu:P.underlying T=av (.slice E)) (hi:(P.info? E).map (fun i=>(i.zero,i.size,i.bytes))=av (av z,size,bytes)) (H:z.cells.size=size) (a:bytes<=100000):dx P T E size:=by
 refine⟨hu, ?_⟩;cases h:P.info? E with
 |none=>rw[h] at hi;cases hi
 |some i=>rw[h] at hi;simp only[Option.map_some,Option.some.injEq,Prod.mk.injEq] at hi;exact⟨i,z,rfl,hi.1,hi.2.1,H,by rw[hi.2.2];exact a⟩
section
variable {α:Type} {K:Elem α} {P:Program}
def bg (K:Elem α) (w:World) (g o:Nat) (l:List α):Prop:=∀j u,(K.cells l)[j]?=av u->w.cell? ⟨g,o+j,aK⟩=av u
theorem bg.at {w:World} {g o:Nat} {l:List α} (h:bg K w g o l) (j i:Nat) (hi:i<K.size) (H:j<l.length) (u:Value) (hu:(K.enc l[j])[i]?=av u):w.cell? ⟨g,o+(j*K.size+i),aK⟩=av u:=
 h _ u (by rw[K.Me l j i hi H];exact hu)
theorem bg.but {S:Φ} {w w':World} {g o:Nat} {l:List α} (h:bg K w g o l) (H:aE S w w') (hn:¬S g):bg K w' g o l:=fun j u hu=>H.cell (h j u hu) hn
theorem bg.below {B:Nat} {w w':World} {g o:Nat} {l:List α} (h:bg K w g o l) (H:Below B w w') (hg:g<B):bg K w' g o l:=fun j u hu=>(H.cell (p:=⟨g,o+j,aK⟩) hg).trans (h j u hu)
theorem bg.part {w:World} {g o:Nat} {l:List α} (h:bg K w g o l) (n m:Nat) (hn:n<=l.length):bg K w g (o+n*K.size) ((l.drop n).take m):=by
 intro j u hu;rw[K.yB,K.Ih l n hn] at hu;have H:j<m*K.size:=zaB
 rw[List.getElem?_take_of_lt H,List.getElem?_drop] at hu;rw[Nat.add_assoc];exact h _ u hu
theorem bg.news {w:World} {g o:Nat} {l:List α} (h:bg K w g o l):∀j u,(K.cells l)[j]?=av u->w.cell? ((⟨g,o,aK⟩:Addr).add j)=av u:=by
 intro j u hu;have e:(⟨g,o,aK⟩:Addr).add j=⟨g,o+j,aK⟩:=by
  rcases Nat.eq_zero_or_pos j with rfl|hp;·simp[Addr.add]
  ·simp[Addr.add,Nat.ne_of_gt hp]
 rw[e];exact h j u hu
theorem bg.dZ {w:World} {g:Nat} {t:TypeId} {cs:List Value} {l:List α} (h:aW w g t cs) (H:cs=K.cells l):bg K w g 0 l:=by subst H;intro j u hu;rw[bG];exact h.cell hu
def Own (K:Elem α) (E:TypeId) (B:Nat) (w:World) (v:Value) (l:List α):Prop:=w.ownsRow B E K.size v l.length (K.cells l)
variable {E T:TypeId} {B:Nat} {w:World} {v:Value} {l:List α}
theorem Own.nil (K:Elem α) (E:TypeId) (B:Nat) (w:World):Own K E B w (cx aK 0 0) []:=World.ownsRow_nil w B E K.size
theorem Own.but {S:Φ} {w':World} (h:Own K E B w v l) (H:aE S w w') (hn:∀g,v.ownBlock=av g->¬S g):Own K E B w' v l:=by
 refine⟨h.1, ?_⟩;rcases h.2 with a|⟨g,cap,cur,rfl,hg,hh,r⟩;·exact cS a
 ·exact dc ⟨g,cap,cur,rfl,hg,by rw[H.block g (fY.1 hh).1 (hn g rfl)];exact hh,r⟩
theorem Own.below {B':Nat} {w':World} (h:Own K E B w v l) (H:Below B' w w') (a:w.heap.size<=B'):Own K E B w' v l:=
 h.but (S:=fun _=>False) ⟨H.os,H.tape,H.output,H.size,fun k b _=>H.block k (bL b a)⟩ fun _ _ hf=>hf
theorem Own.mono {B':Nat} (h:Own K E B w v l) (H:B'<=B):Own K E B' w v l:=by
 refine⟨h.1, ?_⟩;rcases h.2 with a|⟨g,cap,cur,b,hg,r⟩;·exact cS a
 ·exact dc ⟨g,cap,cur,b,aN H hg,r⟩
theorem Own.alloc (h:Own K E B w v l) (o:Obj):Own K E B (w.alloc o) v l:=World.ownsRow.alloc h o
theorem Own.drew (h:Own K E B w v l):Own K E B w.drew v l:=h
theorem Own.drewN (h:Own K E B w v l) (n:Nat):Own K E B (w.drewN n) v l:=h
theorem Own.slice (h:Own K E B w v l):∃a cap,v=cx a l.length cap/\l.length<=cap:=by
 rcases h.2 with⟨e,H⟩|⟨g,cap,cur,e,_,_,hc,_⟩;·grind
 ·exact⟨_,cap,e,hc⟩
theorem Own.form (h:Own K E B w v l) (hn:0<l.length):∃g cap,v=cx (av ⟨g,0,aK⟩) l.length cap/\B<=g/\g<w.heap.size/\l.length<=cap:=by
 rcases h.2 with⟨_,H⟩|⟨g,cap,cur,e,hg,hh,hc,_⟩;·omega
 ·grind
theorem Own.block (h:Own K E B w v l):∀g,v.ownBlock=av g->B<=g/\g<w.heap.size:=World.ownsRow.lt h
theorem Own.lies {g n cap:Nat} (h:Own K E B w (cx (av ⟨g,0,aK⟩) n cap) l):bg K w g 0 l:=by
 intro j u hu;have hn:n=l.length:=by
  rcases h.2 with⟨e,_⟩|⟨G,c,cur,e,_⟩;·cases e
  ·injection e
 subst hn;have H:j<l.length*K.size:=by
  rcases ep j (l.length*K.size) with h'|h';·exact h'
  ·rw[List.getElem?_eq_none (by rw[K.cm];exact h')] at hu;cases hu
 rw[bG,World.ownsRow.cellAt h j H,hu]
theorem Own.frozen {g n cap:Nat} (h:Own K E B w (cx (av ⟨g,0,aK⟩) n cap) l) (j:Nat):w.frozen? ⟨g,j,aK⟩=false:=by
 have hn:n=l.length:=by
  rcases h.2 with⟨e,_⟩|⟨G,c,cur,e,_⟩;·cases e
  ·injection e
 subst hn;exact World.ownsRow.frozenAt h j
theorem Own.store {α:Type} {f:α->Value} {hf:∀a,(f a).oneCell'=true} {E:TypeId} {B:Nat} {w:World} {l:List α} {g n cap:Nat}
  (h:Own (nS f hf) E B w (cx (av ⟨g,0,aK⟩) n cap) l) (j:Nat) (x:α):Own (nS f hf) E B (w.setCell ⟨g,j,aK⟩ (f x)) (cx (av ⟨g,0,aK⟩) n cap) (l.set j x):=by
 have hn:n=l.length:=by
  rcases h.2 with⟨e,_⟩|⟨G,c,cur,e,_⟩;·cases e
  ·injection e
 subst hn;have:=(World.ownsRow.stored h j (f x)).1;unfold Own;rw[bV,cv,List.map_set];rw[cv] at this;exact this
theorem yC (S:dx P T E K.size) {o:Oper} {a:Act} {K':Act->Ψ} {Q:Exit->Act->Ψ} (s x:Operand)
  (n:o.op=.call {callee:=.builtin .append,args:=#[s,x],argTypes:=#[T,T]})
  (hs:a.eval s=v) (hown:Own K E B w v l) (p:B<=w.heap.size)
  (g d m c:Nat) (ms:List α) (q:a.eval x=cx (av ⟨g,d,aK⟩) m c) (k:ms.length=m) (H:bg K w g d ms) (e:l.length+m<=1000000000)
  (h:∀v' w',Own K E B w' v' (l++ms)->w.grownBy w' v.ownBlock->K' (a.put o.dst v') w'):o.wp P a w K' Q:=by
 obtain⟨i,z,hi,r,b,f,j⟩:=S.info;refine wp_append_own w s x T n B E i z K.size i.bytes S.under hi r b rfl f K.pos v l.length (K.cells l) hs hown ⟨g,d,aK⟩ m c (K.cells ms) q (by rw[K.cm,k]) H.news (K.qM _) zat ?_ p ?_;·exact aN (Nat.mul_le_mul e j) ξ
 ·intro v' w' t u _;refine h v' w' ?_ u;unfold Own;rw[aq,K.cj,k];exact t
theorem gP (S:dx P T E K.size) {ops:Array Oper} {rest:List Oper} {o:Oper} {a:Act} {Q:Exit->Act->Ψ} (e:o.guard=aK) (s x:Operand)
  (f:o.op=.call {callee:=.builtin .append,args:=#[s,x],argTypes:=#[T,T]})
  (hs:a.eval s=v) (hown:Own K E B w v l) (i:B<=w.heap.size)
  (g d m c:Nat) (ms:List α) (j:a.eval x=cx (av ⟨g,d,aK⟩) m c) (k:ms.length=m) (H:bg K w g d ms) (b:l.length+m<=1000000000)
  (h:∀v' w',Own K E B w' v' (l++ms)->w.grownBy w' v.ownBlock->wpList P ops Q rest (a.put o.dst v') w'):wpList P ops Q (o::rest) a w:=
 wpList_plain e fun _ n=>yC S s x f hs hown i g d m c ms j k H b fun v' w' p q=>n _ _ (h v' w' p q)
theorem C6 (S:dx P T E K.size) {ops:Array Oper} {rest:List Oper} {o:Oper} {a:Act} {Q:Exit->Act->Ψ} (b:o.guard=aK) (s x:Operand)
  (e:o.op=.makeSlice T s x) (B:Nat) (f:B<=w.heap.size) (C:Int) (c:Nat) (hs:a.eval s=bf ct 0) (g:a.eval x=bf ct C) (j:C=c) (hc:c<=1000000000)
  (h:∀w',Own K E B w' (cx (av ⟨w.heap.size,0,aK⟩) 0 c) []->w.grownBy w' aK->wpList P ops Q rest (a.put o.dst (cx (av ⟨w.heap.size,0,aK⟩) 0 c)) w'):wpList P ops Q (o::rest) a w:=by
 obtain⟨i,z,hi,k,H,l,d⟩:=S.info;refine wpList_make_own _ b s x T e B E i z K.size S.under hi k H _ _ _ c hs g j ?_ zat f h;exact aN (Nat.mul_le_mul d hc) ξ
end
section
variable {P:Program}
theorem vL (w:World) (base:Nat) (t ty e:TypeId) (i:TypeInfo) (z:Value) (size bytes:Nat) (s:P.underlying t=av (.slice e)) (hi:P.info? e=av i) (y:i.zero=av z)
  (h:i.size=size) (d:i.bytes=bytes) (q:z.cells.size=size) (r:0<size)
  (v:Value) (n:Nat) (xs:List Value) (hown:w.ownsRow base e size v n xs)
  (a:Addr) (m c:Nat) (news:List Value) (hl:news.length=m*size) (H:∀j u,news[j]?=av u->w.cell? (a.add j)=av u) (A:∀u∈news,u.oneCell'=true)
  (f:n+m<=maxLen) (b:(n+m)*bytes<=140737488355328) (l:base<=w.heap.size):
  ∃v' w',(Builtin.append_ #[t,t] ty #[v,.slice (av a) m c]).run P w=.ok v' w'/\w'.ownsRow base e size v' (n+m) (xs++news)/\w.grownBy w' v.ownBlock/\
   (v'.ownBlock=v.ownBlock\/∀k,v'.ownBlock=av k->w.heap.size<=k):=by
 obtain⟨v',w',hr,D,h3,_⟩:=run_append_own (P:=P) w base t ty e i z size bytes s hi y h d q r v n xs hown a m c news hl H A f b l
 refine⟨v',w',hr,D,h3, ?_⟩
 have o:=hown
 rcases hown.2 with⟨rfl,rfl⟩|⟨g,cap,cur,rfl,V,hg,E,F,hcs,M⟩
 ·obtain⟨v2,W,N,B,_⟩:=run_append_own (P:=P) w w.heap.size t ty e i z size bytes s hi y h d q r (.slice aK 0 0) 0 xs ⟨hown.1,cS ⟨rfl,rfl⟩⟩ a m c news hl H A f b (af _);rw[hr] at N;injection N with e1 e2;subst e1 e2;exact dc fun k C=>(B.lt k C).1
 ·by_cases p:n+m<=cap;·obtain⟨W,N,_⟩:=run_append_fits (P:=P) w base t ty e i size s hi h g n cap xs o a m c news hl H A p;rw[hr] at N;injection N with e1 e2;subst e1;exact cS rfl
  ·subst h d;have holds:∀j u,xs[j]?=av u->w.cell? ((⟨g,0,aK⟩:Addr).add j)=av u:=hown.cells (g:=g) rfl;have x:n+m<=9223372036854775807:=(by simp only[maxLen] at f;omega);have N:=run_append_grow (P:=P) w t ty e i z s hi y ⟨g,0,aK⟩ n cap xs hown.1 holds a m c news hl H κ κ (growslice_fits κ b);rw[hr] at N;injection N with e1 e2;subst e1;refine dc fun k C=> ?_;simp[Value.ownBlock] at C;omega
variable {α:Type} {K:Elem α} {E T:TypeId} {B:Nat} {w:World} {v:Value} {l:List α}
theorem ia (S:dx P T E K.size) {o:Oper} {a:Act} {K':Act->Ψ} {Q:Exit->Act->Ψ} (s x:Operand)
  (p:o.op=.call {callee:=.builtin .append,args:=#[s,x],argTypes:=#[T,T]})
  (hs:a.eval s=v) (hown:Own K E B w v l) (q:B<=w.heap.size)
  (g d m c:Nat) (ms:List α) (r:a.eval x=cx (av ⟨g,d,aK⟩) m c) (n:ms.length=m) (H:bg K w g d ms) (e:l.length+m<=1000000000)
  (h:∀v' w',Own K E B w' v' (l++ms)->w.grownBy w' v.ownBlock->(v'.ownBlock=v.ownBlock\/∀k,v'.ownBlock=av k->w.heap.size<=k)->K' (a.put o.dst v') w'):o.wp P a w K' Q:=by
 obtain⟨i,z,hi,t,b,f,j⟩:=S.info;obtain⟨v',w',hr,u,h3,h4⟩:=vL (P:=P) w B T o.type E i z K.size i.bytes S.under hi t b rfl f K.pos v l.length (K.cells l) hown ⟨g,d,aK⟩ m c (K.cells ms) (by rw[K.cm,n]) H.news (K.qM _) zat (aN (Nat.mul_le_mul e j) ξ) q;unfold Oper.wp execOp;simp only[p,resolve,invoke,builtin,Sem.run_bind,Sem.run_pure,Result.andThen_ok,List.map_toArray,bI,List.map_nil,hs,r,hr];refine h v' w' ?_ h3 h4;unfold Own;rw[aq,K.cj,n];exact u
theorem fB (S:dx P T E K.size) {ops:Array Oper} {rest:List Oper} {o:Oper} {a:Act} {Q:Exit->Act->Ψ} (e:o.guard=aK) (s x:Operand)
  (f:o.op=.call {callee:=.builtin .append,args:=#[s,x],argTypes:=#[T,T]})
  (hs:a.eval s=v) (hown:Own K E B w v l) (i:B<=w.heap.size)
  (g d m c:Nat) (ms:List α) (j:a.eval x=cx (av ⟨g,d,aK⟩) m c) (n:ms.length=m) (H:bg K w g d ms) (b:l.length+m<=1000000000)
  (h:∀v' w',Own K E B w' v' (l++ms)->w.grownBy w' v.ownBlock->(v'.ownBlock=v.ownBlock\/∀k,v'.ownBlock=av k->w.heap.size<=k)->wpList P ops Q rest (a.put o.dst v') w'):wpList P ops Q (o::rest) a w:=
 wpList_plain e fun _ p=>ia S s x f hs hown i g d m c ms j n H b fun v' w' q r h3=>p _ _ (h v' w' q r h3)
end
structure jC (w:World):Prop where
 aaa:∀i,i<64->w.cell? ⟨0,i,aK⟩=av (bf .u32 ((Sha.e8 i:Nat):Int))
 size:0<w.heap.size
theorem jC.below {w w':World} {B:Nat} (h:jC w) (H:Below B w w') (a:w.heap.size<=B):jC w':=
 ⟨fun i hi=>(H.cell (p:=⟨0,i,aK⟩) (bL h.size a)).trans (h.aaa i hi),bL h.size H.size⟩
def lenOf:Value->Nat|cx _ n _=>n|_=>0
theorem KB {k:IntKind} {a b:Int} (h:a=b):Ending.returned (bf k a)=c8 (bf k b):=by rw[h]
theorem C7 {a b:ByteArray} (h:a=b):Ending.returned (cu a)=c8 (cu b):=by rw[h]
theorem yD:(prog.info? 5).map (fun i=>(i.zero,i.size,i.bytes))=av (av (bf eD 0),1,1):=η
def mU (B:Nat) (w:World) (v:Value) (l:List UInt8):Prop:=w.ownsRow B 5 1 v l.length (Hx.bc l)
theorem mU.alloc {B:Nat} {w:World} {v:Value} {l:List UInt8} (h:mU B w v l) (o:Obj):mU B (w.alloc o) v l:=World.ownsRow.alloc h o
theorem yE (w:World) (x:UInt8) (a:Int) (t:TypeId) (ha:a=x.toNat):∀j u,(Hx.bc [x])[j]?=av u->(w.alloc (dg #[bf eD a] t)).cell? ((⟨w.heap.size,0,aK⟩:Addr).add j)=av u:=by subst ha;exact World.news_of_block (w:=(w.alloc (dg #[bf eD x.toNat] t))) (cs:=#[bf eD x.toNat]) (t:=t) (fr:=(0,0)) (heap_alloc_new w _)
theorem Xh (l:List UInt8):∀u∈Hx.bc l,u.oneCell'=true:=by intro u hu;simp only[Hx.bc,bY] at hu;obtain⟨c,_,rfl⟩:=hu;rfl
theorem TB {o:Oper} {a:Act} {w:World} {K:Act->Ψ} {Q:Exit->Act->Ψ} (s x:Operand)
  (g:o.op=.call {callee:=.builtin .append,args:=#[s,x],argTypes:=#[151,151]})
  (B:Nat) (w0:World) (v:Value) (l:List UInt8) (hs:a.eval s=v) (hown:mU B w v l) (i:Below B w0 w) (e:B<=w.heap.size)
  (A:Addr) (m c:Nat) (ms:List UInt8) (n:a.eval x=.slice (av A) m c) (p:ms.length=m) (H:∀j u,(Hx.bc ms)[j]?=av u->w.cell? (A.add j)=av u)
  (f:l.length+m<=1000000000000)
  (h:∀v' w',mU B w' v' (l++ms)->Below B w0 w'->K (a.put o.dst v') w'):o.wp prog a w K Q:=by
 obtain⟨I,hi,P,E,O⟩:=info_parts yD;refine wp_append_own w s x 151 g B 5 I (.int eD 0) 1 1 underlying151 hi P E O rfl ξ v l.length (Hx.bc l) hs hown A m c (Hx.bc ms) n (by rw[Hx.Md];omega) H (Xh _) zat κ e ?_;intro v' w' b d _;refine h v' w' ?_ (i.grown d e fun k q=>(hown.lt k q).1);unfold mU;rw[aq,Hx.BK,p];exact b
theorem l8 {ops:Array Oper} {rest:List Oper} {o:Oper} {a:Act} {w:World} {Q:Exit->Act->Ψ} (d:o.guard=aK) (s x:Operand)
  (e:o.op=.call {callee:=.builtin .append,args:=#[s,x],argTypes:=#[151,151]})
  (B:Nat) (w0:World) (v:Value) (l:List UInt8) (hs:a.eval s=v) (hown:mU B w v l) (f:Below B w0 w) (g:B<=w.heap.size)
  (A:Addr) (m c:Nat) (ms:List UInt8) (i:a.eval x=cx (av A) m c) (k:ms.length=m) (H:∀j u,(Hx.bc ms)[j]?=av u->w.cell? (A.add j)=av u)
  (b:l.length+m<=1000000000000)
  (h:∀v' w',mU B w' v' (l++ms)->Below B w0 w'->wpList prog ops Q rest (a.put o.dst v') w'):wpList prog ops Q (o::rest) a w:=
 wpList_plain d fun _ n=>TB s x e B w0 v l hs hown f g A m c ms i k H b fun v' w' p q=>n _ _ (h v' w' p q)
theorem Bb {ops:Array Oper} {rest:List Oper} {o:Oper} {a:Act} {w:World} {Q:Exit->Act->Ψ} (c:o.guard=aK) (s x:Operand)
  (g:o.op=.call {callee:=.builtin .append,args:=#[s,x],argTypes:=#[151,9]})
  (B:Nat) (w0:World) (v:Value) (l:List UInt8) (hs:a.eval s=v) (hown:mU B w v l) (i:Below B w0 w) (d:B<=w.heap.size)
  (r:ByteArray) (j:a.eval x=.string r) (f:l.length+r.size<=1000000000000)
  (h:∀v' w',mU B w' v' (l++r.data.toList)->Below B w0 w'->wpList prog ops Q rest (a.put o.dst v') w'):wpList prog ops Q (o::rest) a w:=by
 obtain⟨I,hi,P,E,O⟩:=info_parts yD;refine Lib.wpList_append_own_string _ c s x 151 9 g B 5 I underlying151 underlying9 hi P E O v l.length (Hx.bc l) hs hown r j zat κ d ?_;intro v' w' H b _;refine h v' w' ?_ (i.grown b d fun k m=>(hown.lt k m).1);have e:r.data.toList.length=r.size:=aU;unfold mU;rw[aq,e,Hx.BK];exact H
theorem mU.form {B:Nat} {w:World} {v:Value} {l:List UInt8} (h:mU B w v l) (hn:0<l.length):∃g cap,v=cx (av ⟨g,0,aK⟩) l.length cap:=by obtain⟨g,cap,H,_⟩:=World.ownsRow.form h hn;exact⟨g,cap,H⟩
theorem mU.len {B:Nat} {w:World} {v:Value} {l:List UInt8} (h:mU B w v l):lenOf v=l.length:=by
 rcases h.2 with⟨rfl,H⟩|⟨g,cap,cur,rfl,_⟩;·exact H.symm
 ·rfl
theorem Mf (w:World) (x y z u:UInt8) (a b c d:Int) (t:TypeId) (ha:a=x.toNat) (h:b=y.toNat) (hc:c=z.toNat) (hd:d=u.toNat):
  ∀j U,(Hx.bc [x,y,z,u])[j]?=av U->(w.alloc (dg #[bf eD a,bf eD b,bf eD c,bf eD d] t)).cell? ((⟨w.heap.size,0,aK⟩:Addr).add j)=av U:=by
 subst ha h hc hd;exact World.news_of_block (w:=(w.alloc (dg #[bf eD x.toNat,bf eD y.toNat,bf eD z.toNat,bf eD u.toNat] t))) (cs:=#[bf eD x.toNat,bf eD y.toNat,bf eD z.toNat,bf eD u.toNat]) (t:=t) (fr:=(0,0)) (heap_alloc_new w _)
theorem BM {ops:Array Oper} {rest:List Oper} {o:Oper} {a:Act} {w:World} {Q:Exit->Act->Ψ} (b:o.guard=aK) (s x:Operand)
  (e:o.op=.makeSlice 151 s x) (B:Nat) (w0:World) (C:Int) (c:Nat) (hs:a.eval s=.int ct 0) (f:a.eval x=.int ct C) (g:C=c) (hc:c<=1000000000000) (i:Below B w0 w) (d:B<=w.heap.size)
  (h:∀v' w',mU B w' v' []->Below B w0 w'->wpList prog ops Q rest (a.put o.dst v') w'):wpList prog ops Q (o::rest) a w:=by
 obtain⟨I,hi,P,E,O⟩:=info_parts yD;refine wpList_make_own _ b s x 151 e B 5 I (.int eD 0) 1 underlying151 hi P E _ _ _ c hs f g (by rw[O];omega) zat d ?_;intro w' hown H;exact h _ w' hown (i.grown H d fun k j=>by cases j)
theorem KC {B:Nat} {w:World} {v:Value} {l:List UInt8} (h:mU B w v l):(convert 151 9 v).run prog w=.ok (.string ⟨l.toArray⟩) w:=by
 rcases h.2 with⟨rfl,H⟩|⟨g,cap,cur,rfl,hg,hh,hn,hc,hs,b⟩;·obtain rfl:l=[]:=List.eq_nil_of_length_eq_zero H;rw[run_convert_bytes_nil w _ 5 underlying151 underlying5 0 0 _ underlying9];rfl
 ·refine run_convert_bytes_back w _ _ 5 _ cap l underlying151 underlying5 underlying9 fun j a=> ?_;have hu:(Hx.bc l)[j]?=av (.int eD (l[j].toNat:Int)):=by simp[Hx.bc,a]
  exact World.ownsRow.cells h (g:=g) rfl j _ hu
end
end Go.Proofs.YtgfdijemhanfkaaGreatDoor
