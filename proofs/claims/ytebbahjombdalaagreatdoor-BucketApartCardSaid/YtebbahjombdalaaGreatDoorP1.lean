/- Elder texts, cut down and merged (1). -/
import Derived.WalkKit
import Derived.ProofKit
import Derived.OpenShut
import Derived.ShutString
import Derived.Test.YtebbahjombdalaaGreatDoorRows
import Derived.Carry
import Derived.SliceStrings
import Derived.SizedLaws
import Derived.Deep.Strs
import Derived.WalkSpells
import Derived.WalkLawsBesides
import Derived.Laws.Rows
import Derived.Test.YtebbahjombdalaaGreatDoorChecked
import Derived.Deep.QuietTactic
import Derived.Laws.Tables
import Derived.Laws.IdiomStrings
import Derived.Laws.MakeOwn
import Derived.Lib.AppendStr
import Derived.Laws.Bits128
import Derived.BigQuiet
import Derived.Deep.RegionLaw
import Derived.BigRegion
import Derived.Lib.Hide
import Derived.Deep.DeepFit
import Derived.Deep.RegionHeld3
import Derived.Laws.CopyRow
import Derived.StillTailTactics
import Derived.Test.YtebbahjombdalaaGreatDoorPTk
set_option maxRecDepth 100000
set_option maxHeartbeats 8000000
namespace Go.Proofs.YtebbahjombdalaaGreatDoor
open List renaming mem_append→ah,mem_cons_self→aA,mem_cons_of_mem→aF,length_append→aq,length_cons→aW,getElem?_append_right→gN,take_append_drop→cL,length_take→aN,take_left→fF,take_of_length_le→bZ,mem_singleton→cH,length_set→bP,length_drop→aT,replicate→bg,map_cons→bH,take_succ_eq_append_getElem→cI,mem_cons→aQ,length_map→aM,getElem?_map→cJ,getElem?_eq_getElem→aJ,getD_eq_getElem?_getD→bT,mem_append_right→yz,getElem_mem→bB,nil_append→dF,map_append→bI,map_congr_left→oN,length_replicate→dM,set_cons_zero→au,getElem?_replicate→mQ,append_nil→bh,length_eq_zero_iff→ef,pairwise_cons→cw
open Nat renaming le_refl→af,le_trans→aG,lt_of_lt_of_le→cW,zero_add→bV,lt_or_ge→dw,min_eq_left→b_,add_assoc→gd,zero_le→aC
open World renaming block_lt_of_cell?→bt
open _root_.Array renaming getElem?_eq_some_iff→iA,length_toList→aZ
open Int renaming toNat_natCast→cX
open UInt8 renaming ofNat→aY,toNat_ofNat'→dY
section
open Go.ChangeShapes Go.WideShapes Go.ChangeAt Go.RowKit
theorem own:ownKnob Tryz.prog.godebug=none:=by kernel_rfl
theorem Ct {H:Type} {enc:TypeId×Value→H} {P:Program} {f:Func} {s:ChangeSpec} {apart fresh handsOn again:Bool} {W W':World} {args:Array Value} {v:Value} {ds gs:List (DataW H)} {before pa pv:List MemPlace}
  (hW:DataW.Whole enc P f.params.toList s.vars apart W args.toList ds gs before) (hb:Below W.heap.size W W') (hps:before=pa++pv)
  (hres:∀(b:Nat) (sp:Nat→Bool) (hd:Bool),DataW.TrodAll enc P W' b sp hd f.resultTypes.toList (v.resultList f.resultTypes.size) (s.fn H (ds++gs)).results [])
  (hargs:∀sp:Nat→Bool,(∀p∈before,sp p.block=true)→DataW.TrodAll enc P W' 0 sp true f.params.toList args.toList (s.fn H (ds++gs)).args pa)
  (hvars:∀sp:Nat→Bool,(∀p∈before,sp p.block=true)→DataW.TrodVars enc P W' sp s.vars (s.fn H (ds++gs)).vars pv)
  (hok:∀(j:Nat) (t:TypeId) (r:Value),f.resultTypes[j]?=some t→(v.resultList f.resultTypes.size)[j]?=some r→Value.okWide P W' .any 0 t r):
  s.post enc P f apart fresh handsOn again W args v W':=by
 have lt:∀p∈before,p.block<W.heap.size:=fun p hp=>hW.lt p hp
 have old:∀p∈before,(fun b=>decide (b<W.heap.size)) p.block=true:=fun p hp=>by simpa using hW.lt p hp
 refine⟨ds,gs,before,[],pa,pv,hW,hres _ _ _,hargs _ old,hvars _ old,World.keptBut_mono (fun p hp=>⟨hp, ?_⟩) (hb.frame (· ∈before)),fun _=> ?_⟩
 ·rw[hps,ah] at hp
  exact .inr hp
 ·obtain⟨_,_,_,_,_,hz,hn⟩:=hW
  refine⟨hok,_,_,([]++pa)++pv,⟨[]++pa,pv,trodAll_append (hargs _ (fun _ _=>rfl)) (hres _ _ _),hvars _ (fun _ _=>rfl),rfl,fun b off hp=> ?_,fun ha=> ?_⟩,fun p hp _=> ?_⟩
  ·have hin:MemPlace.cell b off∈before:=by rw[hps];simpa using hp
   have hl:b<W.heap.size:=lt _ hin
   rw[hb.frozen hl]
   exact hz b off hin
  ·have h:=hn ha
   rw[hps] at h
   simpa using h
  ·rw[hps]
   simpa using hp
theorem laidOut:laidOutB Tryz.prog=true:=by kernel_rfl
theorem wA {H:Type} {enc:TypeId×Value→H} {W W':World} {sp:Nat→Bool} (ts:List TypeId):
  ∀{vs:List Value} {ds:List (DataW H)} {ps:List MemPlace},(∀t∈ts,Tryz.prog.readableRec t=true∧t<Tryz.prog.types.size)→
   DataW.TrodAll enc Tryz.prog W 0 (fun _=>true) true ts vs ds ps→(∀p∈ps,W.sameAt W' p)→(∀p∈ps,sp p.block=true)→DataW.TrodAll enc Tryz.prog W' 0 sp true ts vs ds ps:=by
 induction ts with
 |nil=>
  intro vs ds ps _ h _ _
  cases vs<;>cases ds<;>first|exact h|cases h
 |cons t ts ih=>
  intro vs ds ps ht h hs hp
  cases vs with
  |nil=>cases h
  |cons v vs=>
   cases ds with
   |nil=>cases h
   |cons d ds=>
    obtain⟨p,q,h1,h2,rfl⟩:=h
    have h0:=ht t (aA ..)
    exact⟨p,q,WideElems.Trod_stays laidOut h0.1 h0.2 h1 (fun x hx=>hs x (ah.2 (.inl hx))) (fun x hx=>hp x (ah.2 (.inl hx))),
     ih (fun t ht'=>ht t (aF _ ht')) h2 (fun x hx=>hs x (ah.2 (.inr hx))) (fun x hx=>hp x (ah.2 (.inr hx))),rfl⟩
end
section
open Go.RowKit
structure aE (S:Nat→Prop) (w w':World):Prop where
 os:w'.os=w.os
 tape:w'.tape=w.tape
 output:w'.output=w.output
 size:w.heap.size≤w'.heap.size
 block:∀k,k<w.heap.size→¬S k→w'.heap[k]?=w.heap[k]?
theorem aE.refl (S:Nat→Prop) (w:World):aE S w w:=⟨rfl,rfl,rfl,af _,fun _ _ _=>rfl⟩
theorem aE.trans {S T:Nat→Prop} {a b c:World} (h:aE S a b) (k:aE T b c) (hT:∀i,i<a.heap.size→T i→S i):aE S a c:=
 ⟨k.os.trans h.os,k.tape.trans h.tape,k.output.trans h.output,aG h.size k.size,fun i hi hn=>
  (k.block i (cW hi h.size) (fun ht=>hn (hT i hi ht))).trans (h.block i hi hn)⟩
theorem aE.mono {S T:Nat→Prop} {w w':World} (h:aE S w w') (hT:∀i,i<w.heap.size→S i→T i):aE T w w':=
 ⟨h.os,h.tape,h.output,h.size,fun k hk hn=>h.block k hk fun hs=>hn (hT k hk hs)⟩
theorem aE.alloc {S:Nat→Prop} {a w:World} (h:aE S a w) (o:Obj):aE S a (w.alloc o):=
 h.trans (T:=fun _=>False) ⟨rfl,rfl,rfl,by simp,fun k hk _=>Below.heap_alloc _ _ _ hk⟩ fun _ _ hf=>hf.elim
theorem aE.drew {S:Nat→Prop} {a w:World} (h:aE S a w):aE S a w.drew:=⟨h.os,h.tape,h.output,h.size,h.block⟩
theorem aE.drewN {S:Nat→Prop} {a w:World} (h:aE S a w) (n:Nat):aE S a (w.drewN n):=⟨h.os,h.tape,h.output,h.size,h.block⟩
theorem aE.setCell {S:Nat→Prop} {a w:World} (h:aE S a w) (p:Addr) (u:Value) (hp:p.block<a.heap.size→S p.block):aE S a (w.setCell p u):=
 h.trans (T:=fun k=>k=p.block) ⟨rfl,rfl,rfl,by simp[World.setCell],fun k _ hn=>Below.heap_setCell _ _ _ _ hn⟩ fun i hi e=>by subst e;exact hp hi
theorem aE.grown {S:Nat→Prop} {a w w':World} {row:Option Nat} (h:aE S a w) (hg:w.grownBy w' row) (hr:∀k,row=some k→k<a.heap.size→S k):aE S a w':=
 h.trans (T:=fun k=>row=some k) ⟨hg.os,hg.tape,hg.output,hg.size,fun k hk hn=>hg.block k hk (fun e=>hn e.symm)⟩ fun i hi e=>hr i e hi
theorem aE.aH {w w':World} (h:Below w.heap.size w w') (S:Nat→Prop):aE S w w':=⟨h.os,h.tape,h.output,h.size,fun k hk _=>h.block k hk⟩
theorem aE.below {S:Nat→Prop} {B:Nat} {w w':World} (h:aE S w w') (hB:B≤w.heap.size) (hS:∀k,k<B→¬S k):Below B w w':=
 ⟨h.os,h.tape,h.output,h.size,fun k hk=>h.block k (cW hk hB) (hS k hk)⟩
theorem aE.cell {S:Nat→Prop} {w w':World} (h:aE S w w') {p:Addr} {u:Value} (hc:w.cell? p=some u) (hn:¬S p.block):w'.cell? p=some u:=
 (World.cell?_of_block (w:=w) (h.block p.block (bt _ _ hc) hn)).trans hc
theorem aE.frozen {S:Nat→Prop} {w w':World} (h:aE S w w') {p:Addr} (hl:p.block<w.heap.size) (hn:¬S p.block):w'.frozen? p=w.frozen? p:=
 World.frozen?_of_block (w:=w) (h.block p.block hl hn)
def aS (w:World) (g:Nat) (t:TypeId) (cs:List Value):Prop:=w.heap[g]?=some (.cells cs.toArray t (0,0))
theorem aS.lt {w:World} {g:Nat} {t:TypeId} {cs:List Value} (h:aS w g t cs):g<w.heap.size:=(iA.1 h).1
theorem aS.cell {w:World} {g:Nat} {t:TypeId} {cs:List Value} (h:aS w g t cs) {j:Nat} {u:Value} (hu:cs[j]?=some u):w.cell? ⟨g,j,none⟩=some u:=by
 unfold aS at h;simp[World.cell?,h,hu]
theorem aS.frozen {w:World} {g:Nat} {t:TypeId} {cs:List Value} (h:aS w g t cs) (j:Nat):w.frozen? ⟨g,j,none⟩=false:=by
 unfold aS at h;simp[World.frozen?,h]
theorem aS.set {w:World} {g:Nat} {t:TypeId} {cs:List Value} (h:aS w g t cs) (j:Nat) (u:Value):aS (w.setCell ⟨g,j,none⟩ u) g t (cs.set j u):=by
 unfold aS at h ⊢
 rw[heap_setCell_same w g j _ _ _ h]
 simp
theorem aS.but {S:Nat→Prop} {w w':World} {g:Nat} {t:TypeId} {cs:List Value} (h:aS w g t cs) (hb:aE S w w') (hn:¬S g):aS w' g t cs:=by
 have:=hb.block g h.lt hn
 unfold aS at h ⊢
 rw[this];exact h
theorem aS.below {B:Nat} {w w':World} {g:Nat} {t:TypeId} {cs:List Value} (h:aS w g t cs) (hb:Below B w w') (hg:g<B):aS w' g t cs:=by
 have:=hb.block g hg
 unfold aS at h ⊢
 rw[this];exact h
theorem aS.drew {w:World} {g:Nat} {t:TypeId} {cs:List Value} (h:aS w g t cs):aS w.drew g t cs:=h
theorem aS.alloc {w:World} {g:Nat} {t:TypeId} {cs:List Value} (h:aS w g t cs) (o:Obj):aS (w.alloc o) g t cs:=by
 unfold aS
 rw[Below.heap_alloc _ _ _ h.lt];exact h
theorem aS.other {w:World} {g:Nat} {t:TypeId} {cs:List Value} (h:aS w g t cs) (p:Addr) (u:Value) (hne:g≠p.block):aS (w.setCell p u) g t cs:=by
 unfold aS
 rw[Below.heap_setCell _ _ _ _ hne];exact h
theorem aS.new (w:World) (cs:Array Value) (t:TypeId):aS (w.alloc (.cells cs t)) w.heap.size t cs.toList:=heap_alloc_new w _
structure Elem (α:Type) where
 enc:α→List Value
 size:Nat
 pos:0<size
 len:∀a,(enc a).length=size
 one:∀a,∀u∈enc a,u.oneCell'=true
namespace Elem
variable {α:Type} (K:Elem α)
def cells (l:List α):List Value:=l.flatMap K.enc
theorem xf:K.cells []=[]:=rfl
theorem dL (a:α) (l:List α):K.cells (a::l)=K.enc a++K.cells l:=by simp[cells]
theorem bW (l m:List α):K.cells (l++m)=K.cells l++K.cells m:=by simp[cells]
theorem bX (l:List α):(K.cells l).length=l.length*K.size:=by
 induction l with
 |nil=>simp[cells]
 |cons a l ih=>rw[dL,aq,ih,K.len,aW,Nat.add_mul];omega
theorem nD (l:List α):∀u∈K.cells l,u.oneCell'=true:=by
 intro u hu
 simp only[cells,List.mem_flatMap] at hu
 obtain⟨a,_,ha⟩:=hu
 exact K.one a u ha
theorem Fx (l:List α):∀(j o:Nat),o<K.size→∀hj:j<l.length,(K.cells l)[j*K.size+o]?=(K.enc l[j])[o]?:=by
 induction l with
 |nil=>intro j o _ hj;cases hj
 |cons a l ih=>
  intro j o ho hj
  rw[dL]
  cases j with
  |zero=>
   rw[Nat.zero_mul,bV,List.getElem?_append_left (by rw[K.len];exact ho)]
   rfl
  |succ j=>
   rw[gN (by rw[K.len,Nat.add_mul];omega),K.len,show (j+1)*K.size+o-K.size=j*K.size+o by rw[Nat.add_mul];omega]
   rw[ih j o ho (by simpa using hj)]
   rfl
theorem tK (l:List α) (n:Nat):K.cells (l.take n)=(K.cells l).take (n*K.size):=by
 rcases dw n l.length with hn|hn
 ·grind [bW,cL,bX,aN,b_,Nat.le_of_lt,fF]
 ·simp_all[bZ,bX,Nat.mul_le_mul_right]
theorem Cu (l:List α) (n:Nat) (hn:n≤l.length):K.cells (l.drop n)=(K.cells l).drop (n*K.size):=by
 have e:K.cells l=K.cells (l.take n)++K.cells (l.drop n):=by rw[←bW,cL]
 have hl:(K.cells (l.take n)).length=n*K.size:=by rw[bX,aN,b_ hn]
 rw[e,←hl,List.drop_left]
end Elem
def nE {α:Type} (f:α→Value) (h:∀a,(f a).oneCell'=true):Elem α:=⟨fun a=>[f a],1,by decide,fun _=>rfl,fun a u hu=>by rw[cH.1 hu];exact h a⟩
theorem cM {α:Type} (f:α→Value) (h:∀a,(f a).oneCell'=true) (l:List α):(nE f h).cells l=l.map f:=by
 induction l with
 |nil=>rfl
 |cons a l ih=>rw[Elem.dL,ih];rfl
def fP (k:IntKind):Elem Int:=nE (fun n=>.int k n) (fun _=>rfl)
structure dD (P:Program) (T E:TypeId) (size:Nat):Prop where
 under:P.underlying T=some (.slice E)
 info:∃i z,P.info? E=some i∧i.zero=some z∧i.size=size∧z.cells.size=size∧i.bytes≤100000
theorem dD.of {P:Program} {T E:TypeId} {size bytes:Nat} {z:Value} (hu:P.underlying T=some (.slice E)) (hi:(P.info? E).map (fun i=>(i.zero,i.size,i.bytes))=some (some z,size,bytes)) (hz:z.cells.size=size) (hb:bytes≤100000):dD P T E size:=by
 refine⟨hu, ?_⟩
 cases h:P.info? E with
 |none=>rw[h] at hi;cases hi
 |some i=>
  rw[h] at hi
  simp only[Option.map_some,Option.some.injEq,Prod.mk.injEq] at hi
  exact⟨i,z,rfl,hi.1,hi.2.1,hz,by rw[hi.2.2];exact hb⟩
section
variable {α:Type} {K:Elem α} {P:Program}
def a_ (K:Elem α) (w:World) (g o:Nat) (l:List α):Prop:=∀j u,(K.cells l)[j]?=some u→w.cell? ⟨g,o+j,none⟩=some u
theorem a_.at {w:World} {g o:Nat} {l:List α} (h:a_ K w g o l) (j i:Nat) (hi:i<K.size) (hj:j<l.length) (u:Value) (hu:(K.enc l[j])[i]?=some u):w.cell? ⟨g,o+(j*K.size+i),none⟩=some u:=
 h _ u (by rw[K.Fx l j i hi hj];exact hu)
theorem a_.but {S:Nat→Prop} {w w':World} {g o:Nat} {l:List α} (h:a_ K w g o l) (hb:aE S w w') (hn:¬S g):a_ K w' g o l:=fun j u hu=>hb.cell (h j u hu) hn
theorem a_.below {B:Nat} {w w':World} {g o:Nat} {l:List α} (h:a_ K w g o l) (hb:Below B w w') (hg:g<B):a_ K w' g o l:=fun j u hu=>(hb.cell (p:=⟨g,o+j,none⟩) hg).trans (h j u hu)
theorem a_.part {w:World} {g o:Nat} {l:List α} (h:a_ K w g o l) (n m:Nat) (hn:n≤l.length):a_ K w g (o+n*K.size) ((l.drop n).take m):=by
 intro j u hu
 rw[K.tK,K.Cu l n hn] at hu
 have hlt:j<m*K.size:=by
  grind
 rw[List.getElem?_take_of_lt hlt,List.getElem?_drop] at hu
 rw[gd]
 exact h _ u hu
theorem a_.news {w:World} {g o:Nat} {l:List α} (h:a_ K w g o l):∀j u,(K.cells l)[j]?=some u→w.cell? ((⟨g,o,none⟩:Addr).add j)=some u:=by
 intro j u hu
 have e:(⟨g,o,none⟩:Addr).add j=⟨g,o+j,none⟩:=by
  rcases Nat.eq_zero_or_pos j with rfl|hp
  ·simp[Addr.add]
  ·simp[Addr.add,Nat.ne_of_gt hp]
 rw[e]
 exact h j u hu
theorem a_.gh {w:World} {g:Nat} {t:TypeId} {cs:List Value} {l:List α} (h:aS w g t cs) (he:cs=K.cells l):a_ K w g 0 l:=by
 subst he
 intro j u hu
 rw[bV]
 exact h.cell hu
def Own (K:Elem α) (E:TypeId) (B:Nat) (w:World) (v:Value) (l:List α):Prop:=w.ownsRow B E K.size v l.length (K.cells l)
variable {E T:TypeId} {B:Nat} {w:World} {v:Value} {l:List α}
theorem Own.nil (K:Elem α) (E:TypeId) (B:Nat) (w:World):Own K E B w (.slice none 0 0) []:=World.ownsRow_nil w B E K.size
theorem Own.but {S:Nat→Prop} {w':World} (h:Own K E B w v l) (hb:aE S w w') (hn:∀g,v.ownBlock=some g→¬S g):Own K E B w' v l:=by
 refine⟨h.1, ?_⟩
 rcases h.2 with h0|⟨g,cap,cur,rfl,hg,hh,r⟩
 ·exact .inl h0
 ·exact .inr ⟨g,cap,cur,rfl,hg,by rw[hb.block g (iA.1 hh).1 (hn g rfl)];exact hh,r⟩
theorem Own.below {B':Nat} {w':World} (h:Own K E B w v l) (hb:Below B' w w') (hB:w.heap.size≤B'):Own K E B w' v l:=
 h.but (S:=fun _=>False) ⟨hb.os,hb.tape,hb.output,hb.size,fun k hk _=>hb.block k (cW hk hB)⟩ fun _ _ hf=>hf
theorem Own.mono {B':Nat} (h:Own K E B w v l) (hB:B'≤B):Own K E B' w v l:=by
 refine⟨h.1, ?_⟩
 rcases h.2 with h0|⟨g,cap,cur,hv,hg,r⟩
 ·exact .inl h0
 ·exact .inr ⟨g,cap,cur,hv,aG hB hg,r⟩
theorem Own.alloc (h:Own K E B w v l) (o:Obj):Own K E B (w.alloc o) v l:=World.ownsRow.alloc h o
theorem Own.drew (h:Own K E B w v l):Own K E B w.drew v l:=h
theorem Own.slice (h:Own K E B w v l):∃a cap,v=.slice a l.length cap∧l.length≤cap:=by
 rcases h.2 with⟨e,h0⟩|⟨g,cap,cur,e,_,_,hc,_⟩
 ·grind
 ·exact⟨_,cap,e,hc⟩
theorem Own.form (h:Own K E B w v l) (hn:0<l.length):∃g cap,v=.slice (some ⟨g,0,none⟩) l.length cap∧B≤g∧g<w.heap.size∧l.length≤cap:=by
 rcases h.2 with⟨_,h0⟩|⟨g,cap,cur,e,hg,hh,hc,_⟩
 ·omega
 ·grind
theorem Own.block (h:Own K E B w v l):∀g,v.ownBlock=some g→B≤g∧g<w.heap.size:=World.ownsRow.lt h
theorem Own.lies {g n cap:Nat} (h:Own K E B w (.slice (some ⟨g,0,none⟩) n cap) l):a_ K w g 0 l:=by
 intro j u hu
 have hn:n=l.length:=by
  rcases h.2 with⟨e,_⟩|⟨g',cap',cur,e,_⟩
  ·cases e
  ·injection e
 subst hn
 have hlt:j<l.length*K.size:=by
  rcases dw j (l.length*K.size) with h'|h'
  ·exact h'
  ·rw[List.getElem?_eq_none (by rw[K.bX];exact h')] at hu;cases hu
 rw[bV,World.ownsRow.cellAt h j hlt,hu]
theorem Own.frozen {g n cap:Nat} (h:Own K E B w (.slice (some ⟨g,0,none⟩) n cap) l) (j:Nat):w.frozen? ⟨g,j,none⟩=false:=by
 have hn:n=l.length:=by
  rcases h.2 with⟨e,_⟩|⟨g',cap',cur,e,_⟩
  ·cases e
  ·injection e
 subst hn
 exact World.ownsRow.frozenAt h j
theorem Own.store {α:Type} {f:α→Value} {hf:∀a,(f a).oneCell'=true} {E:TypeId} {B:Nat} {w:World} {l:List α} {g n cap:Nat}
  (h:Own (nE f hf) E B w (.slice (some ⟨g,0,none⟩) n cap) l) (j:Nat) (x:α):Own (nE f hf) E B (w.setCell ⟨g,j,none⟩ (f x)) (.slice (some ⟨g,0,none⟩) n cap) (l.set j x):=by
 have hn:n=l.length:=by
  rcases h.2 with⟨e,_⟩|⟨g',cap',cur,e,_⟩
  ·cases e
  ·injection e
 subst hn
 have:=(World.ownsRow.stored h j (f x)).1
 unfold Own
 rw[bP,cM,List.map_set]
 rw[cM] at this
 exact this
theorem IK (ST:dD P T E K.size) {o:Oper} {a:Act} {K':Act→World→Prop} {Q:Exit→Act→World→Prop} (s x:Operand)
  (ho:o.op=.call {callee:=.builtin .append,args:=#[s,x],argTypes:=#[T,T]})
  (hs:a.eval s=v) (hown:Own K E B w v l) (hB:B≤w.heap.size)
  (g d m c:Nat) (ms:List α) (hx:a.eval x=.slice (some ⟨g,d,none⟩) m c) (hm:ms.length=m) (hnews:a_ K w g d ms) (hlen:l.length+m≤1000000000)
  (h:∀v' w',Own K E B w' v' (l++ms)→w.grownBy w' v.ownBlock→K' (a.put o.dst v') w'):o.wp P a w K' Q:=by
 obtain⟨i,z,hi,hz,hsize,hzs,hby⟩:=ST.info
 refine wp_append_own w s x T ho B E i z K.size i.bytes ST.under hi hz hsize rfl hzs K.pos v l.length (K.cells l) hs hown ⟨g,d,none⟩ m c (K.cells ms) hx (by rw[K.bX,hm]) hnews.news (K.nD _) (by unfold maxLen;omega) ?_ hB ?_
 ·exact aG (Nat.mul_le_mul hlen hby) (by decide)
 ·intro v' w' h1 h2 _
  refine h v' w' ?_ h2
  unfold Own
  rw[aq,K.bW,hm]
  exact h1
theorem lR (ST:dD P T E K.size) {ops:Array Oper} {rest:List Oper} {o:Oper} {a:Act} {Q:Exit→Act→World→Prop} (hgd:o.guard=none) (s x:Operand)
  (ho:o.op=.call {callee:=.builtin .append,args:=#[s,x],argTypes:=#[T,T]})
  (hs:a.eval s=v) (hown:Own K E B w v l) (hB:B≤w.heap.size)
  (g d m c:Nat) (ms:List α) (hx:a.eval x=.slice (some ⟨g,d,none⟩) m c) (hm:ms.length=m) (hnews:a_ K w g d ms) (hlen:l.length+m≤1000000000)
  (h:∀v' w',Own K E B w' v' (l++ms)→w.grownBy w' v.ownBlock→wpList P ops Q rest (a.put o.dst v') w'):wpList P ops Q (o::rest) a w:=
 wpList_plain hgd fun _ hK=>IK ST s x ho hs hown hB g d m c ms hx hm hnews hlen fun v' w' h1 h2=>hK _ _ (h v' w' h1 h2)
theorem yx (ST:dD P T E K.size) {ops:Array Oper} {rest:List Oper} {o:Oper} {a:Act} {Q:Exit→Act→World→Prop} (hgd:o.guard=none) (s x:Operand)
  (ho:o.op=.makeSlice T s x) (B:Nat) (hB:B≤w.heap.size) (C:Int) (c:Nat) (hs:a.eval s=.int .i64 0) (hx:a.eval x=.int .i64 C) (hC:C=c) (hc:c≤1000000000)
  (h:∀w',Own K E B w' (.slice (some ⟨w.heap.size,0,none⟩) 0 c) []→w.grownBy w' none→wpList P ops Q rest (a.put o.dst (.slice (some ⟨w.heap.size,0,none⟩) 0 c)) w'):wpList P ops Q (o::rest) a w:=by
 obtain⟨i,z,hi,hz,hsize,hzs,hby⟩:=ST.info
 refine wpList_make_own _ hgd s x T ho B E i z K.size ST.under hi hz hsize _ _ _ c hs hx hC ?_ (by unfold maxLen;omega) hB h
 exact aG (Nat.mul_le_mul hby hc) (by decide)
end
theorem aE.setRow {S:Nat→Prop} {a w:World} (h:aE S a w) (g:Nat) (cs:Array Value) (hp:g<a.heap.size→S g):aE S a (w.setRow g cs):=
 h.trans (T:=fun k=>k=g) ⟨rfl,rfl,rfl,by simp,fun k _ hn=>setRow_other _ _ _ _ hn⟩ fun i hi e=>by subst e;exact hp hi
def bL (b:UInt8):Value:=.int .u8 (b.toNat:Int)
theorem ep (w:World) (m:Nat):Below w.heap.size w (w.drewN m):=⟨rfl,rfl,rfl,af _,fun _ _=>rfl⟩
def bs (l:List UInt8):ByteArray:=⟨l.toArray⟩
theorem aK (l:List UInt8):(bs l).size=l.length:=by unfold bs;simp[ByteArray.size]
theorem xg (l m:List UInt8):bs l++bs m=bs (l++m):=by
 apply ByteArray.ext
 apply Array.ext'
 simp[bs]
theorem L7 (s:ByteArray):bs s.data.toList=s:=rfl
theorem bO (l:List UInt8):(bs l).data.toList=l:=rfl
theorem bE (a:List UInt8):(bs a).toList=a:=by
 rw[ByteArray.toList_eq];rfl
theorem kP (t:ByteArray) (n:Nat):(t.extract n t.size).data.toList=t.data.toList.drop n:=by
 simp_all[Array.toList_extract,bZ,aT,aZ]
theorem jz (t:ByteArray) (n:Nat):t.extract 0 n=bs (t.data.toList.take n):=by
 apply ByteArray.ext
 apply Array.ext'
 rw[ByteArray.data_extract,Array.toList_extract,List.extract_eq_take_drop]
 rfl
def Reads (w:World) (v:Value) (l:List (List UInt8)):Prop:=
 ∃(a:Option Addr) (cap:Nat),v=.slice a l.length cap∧l.length≤cap∧∀i (hi:i<l.length),∃g o,a=some ⟨g,o,none⟩∧g<w.heap.size∧∀j (hj:j<l.length),w.cell? ⟨g,o+j,none⟩=some (.string (bs l[j]))
theorem jZ {P:Program} {E:TypeId} {size bytes:Nat} {z:Value} (hi:(P.info? E).map (fun i=>(i.zero,i.size,i.bytes))=some (some z,size,bytes)):
  ∃i,P.info? E=some i∧i.zero=some z∧i.size=size∧i.bytes=bytes:=by
 cases h:P.info? E with
 |none=>rw[h] at hi;cases hi
 |some i=>
  rw[h] at hi
  simp only[Option.map_some,Option.some.injEq,Prod.mk.injEq] at hi
  exact⟨i,rfl,hi.1,hi.2.1,hi.2.2⟩
theorem tL (v:Value) (n:Nat):madeCells #[v] n=(bg n v).toArray:=by
 apply Array.ext
 ·simp[madeCells]
 ·intro k h1 h2
  simp[madeCells,Nat.mod_one]
theorem tM (w:World) (n:Nat) (hn:n≤1000000):(Instr.makeSlice 94 (.int .i64 n) (.int .i64 n)).run Tryz.prog w=.ok (.slice (some ⟨w.heap.size,0,none⟩) n n) (w.alloc (.cells (bg n (.int .u8 0)).toArray 5)):=by
 obtain⟨i,hi,hz,hs,hb⟩:=jZ (P:=Tryz.prog) (E:=5) (size:=1) (bytes:=1) (z:=.int .u8 0) (by kernel_rfl)
 have:=run_make (P:=Tryz.prog) w 94 5 i (.int .u8 0) Tryz.underlying94 hi hz .i64 .i64 n n (by omega) (by omega) (by rw[hb];omega) (by omega)
 rw[this,hs,cX,Nat.mul_one,show (Value.int IntKind.u8 0).cells=#[.int .u8 0] from rfl,tL]
end
namespace Dk
def fu {α:Type} (L:List α) (ws:List (Nat×α)):List α:=ws.foldl (fun L x=>L.set x.1 x.2) L
theorem mO {α:Type} (L:List α):fu L []=L:=rfl
theorem nF {α:Type} (L:List α) (x:Nat×α) (ws:List (Nat×α)):fu L (x::ws)=fu (L.set x.1 x.2) ws:=rfl
theorem r7 {α:Type} (L:List α) (a b:List (Nat×α)):fu L (a++b)=fu (fu L a) b:=by simp[fu]
theorem IL {α:Type} (L:List α) (i:Nat) (x:α):fu L [(i,x)]=L.set i x:=rfl
theorem gI {α:Type} (ws:List (Nat×α)):∀L:List α,(fu L ws).length=L.length:=by
 induction ws with
 |nil=>intro L;rfl
 |cons x ws ih=>intro L;rw[nF,ih,bP]
theorem IM {α β:Type} (T:α→β) (ws:List (Nat×α)):∀L:List α,(fu L ws).map T=fu (L.map T) (ws.map fun x=>(x.1,T x.2)):=by
 induction ws with
 |nil=>intro L;rfl
 |cons x ws ih=>intro L;rw[nF,ih,List.map_set,bH,nF]
theorem IP {α:Type} (ws:List (Nat×α)):∀(L:List α) (c:α),c∈fu L ws→c∈L∨∃i,(i,c)∈ws:=by
 induction ws with
 |nil=>intro L c h;exact .inl h
 |cons x ws ih=>
  intro L c h
  rcases ih _ _ h with h|⟨i,h⟩
  ·grind
  ·grind
theorem Fy {α:Type} (L:List α) (ws:List (Nat×α)) (k:Nat) (hk:k<ws.length):fu L (ws.take (k+1))=(fu L (ws.take k)).set (ws[k]).1 (ws[k]).2:=by
 rw[cI hk,r7];rfl
def kept {α:Type}:List Bool→List α→List α
 |_,[]=>[]
 |[],_::_=>[]
 |b::k,w::ws=>if b then w::kept k ws else kept k ws
structure b9 where
 fB:List (List UInt8)
 loose:List (Nat×List UInt8)
 fuel:Int
 off:Bool
def full (s:List UInt8):List UInt8:=s++bg (512-s.length) 0
theorem eR (s:List UInt8) (h:s.length≤512):(full s).length=512:=by simp[full];omega
def fresh (n:Nat):b9:=⟨bg n (full []),[],-1,false⟩
def b9.now (d:b9):List (List UInt8):=fu d.fB d.loose
def b9.gO (d:b9):b9:={d with fuel:=if 0<d.fuel then d.fuel-1 else d.fuel}
def b9.dead (d:b9):b9:={d with off:=true}
def b9.has (d:b9) (i:Int):Bool:=decide (0≤i)&&decide (i<d.fB.length)
def b9.read (d:b9) (i:Int):List UInt8×Int:=
 if d.off then ([],3) else if d.has i then (d.now.getD i.toNat [],0) else ([],2)
def b9.write (d:b9) (i:Int) (s:List UInt8):Int×b9:=
 if d.off then (3,d) else if !d.has i then (2,d) else if 512<s.length then (5,d) else if d.fuel=0 then (3,d.dead)
 else (0,{d.gO with loose:=d.loose++[(i.toNat,full s)]})
def b9.flush (d:b9):Int×b9:=
 if d.off then (3,d) else if d.fuel=0 then (3,d.dead) else (0,{d.gO with fB:=d.now,loose:=[]})
def b9.tN (d:b9) (n:Int):b9:={d with fuel:=max n (-1)}
end Dk
section
open Go.RowKit
theorem IQ {k:IntKind} {a b:Int} (h:a=b):Ending.returned (Value.int k a)=.returned (.int k b):=by rw[h]
theorem iB {a b:Bool} (h:a=b):Ending.returned (Value.bool a)=.returned (.bool b):=by rw[h]
section
variable {α β:Type} {K:Elem α} {K':Elem β} {E E' T:TypeId} {B B':Nat} {w:World} {v v':Value} {l:List α} {l':List β}
theorem Own.typed (h:Own K E B w v l) {k:Nat} (hk:v.ownBlock=some k):∃cur,w.heap[k]?=some (.cells cur E (0,0)):=by
 rcases h.2 with⟨rfl,_⟩|⟨g,cap,cur,rfl,_,hh,_⟩
 ·simp[Value.ownBlock] at hk
 ·simp[Value.ownBlock] at hk
  subst hk
  exact⟨cur,hh⟩
theorem Own.cY (h:Own K E B w v l) {g:Nat} {t:TypeId} {cs:List Value} (hb:aS w g t cs) (ht:E≠t):v.ownBlock≠some g:=by
 intro e
 obtain⟨cur,hc⟩:=h.typed e
 unfold aS at hb
 rw[hb] at hc
 injection hc with hc
 injection hc with _ hc
 exact ht hc.symm
theorem Own.Cv (h:Own K E B w v l) (h':Own K' E' B' w v' l') (ht:E≠E') {k:Nat} (hk:v.ownBlock=some k):v'.ownBlock≠some k:=by
 intro e
 obtain⟨cur,hc⟩:=h.typed hk
 obtain⟨cur',xh⟩:=h'.typed e
 rw[hc] at xh
 injection xh with xh
 injection xh with _ xh
 exact ht xh
theorem aS.ne {g g':Nat} {t t':TypeId} {cs cs':List Value} (h:aS w g t cs) (h':aS w g' t' cs') (ht:t≠t'):g≠g':=by
 grind [aS]
theorem Own.slot {g n c:Nat} (h:Own K E B w (.slice (some ⟨g,0,none⟩) n c) l):g<w.heap.size∧n=l.length∧l.length≤c:=by
 rcases h.2 with⟨e,_⟩|⟨g',cap',cur,e,_,hh,hc,_⟩
 ·cases e
 ·grind
end
def ptr (c:Nat):Value:=.pointer (some ⟨c,0,none⟩)
def cZ:Elem Nat:=nE ptr (fun _=>rfl)
def oM:Elem (Nat×Nat):=⟨fun x=>[.int .i64 x.1,ptr x.2],2,by decide,fun _=>rfl,by
 intro a u hu
 simp only[aQ,List.not_mem_nil,or_false] at hu
 rcases hu with rfl|rfl<;>rfl⟩
theorem VZ:dD Tryz.prog 100 190 oM.size:=dD.of (size:=2) (bytes:=16) (z:=.agg #[.int .i64 0,.pointer none]) Tryz.underlying100 (by kernel_rfl) rfl (by decide)
structure eu (w:World) (g f cf l cl:Nat) (vo:Value) (n:Int) (off:Bool) (pf pl:List Nat) (ws:List (Nat×Nat)):Prop where
 blk:aS w g 102 [.slice (some ⟨f,0,none⟩) pf.length cf,.slice (some ⟨l,0,none⟩) pl.length cl,vo,.int .i64 n,.bool off]
 of:Own cZ 138 0 w (.slice (some ⟨f,0,none⟩) pf.length cf) pf
 ol:Own cZ 138 0 w (.slice (some ⟨l,0,none⟩) pl.length cl) pl
 oo:Own oM 190 0 w vo ws
 fl:f≠l
namespace eu
variable {w w':World} {g f cf l cl:Nat} {vo:Value} {n:Int} {off:Bool} {pf pl:List Nat} {ws:List (Nat×Nat)}
theorem gf (h:eu w g f cf l cl vo n off pf pl ws):g≠f:=fun e=>h.of.cY h.blk (by decide) (by rw[e];rfl)
theorem gl (h:eu w g f cf l cl vo n off pf pl ws):g≠l:=fun e=>h.ol.cY h.blk (by decide) (by rw[e];rfl)
theorem og (h:eu w g f cf l cl vo n off pf pl ws):vo.ownBlock≠some g:=h.oo.cY h.blk (by decide)
theorem Zh (h:eu w g f cf l cl vo n off pf pl ws):vo.ownBlock≠some f:=fun e=>h.oo.Cv h.of (by decide) e rfl
theorem Zi (h:eu w g f cf l cl vo n off pf pl ws):vo.ownBlock≠some l:=fun e=>h.oo.Cv h.ol (by decide) e rfl
theorem but {S:Nat→Prop} (h:eu w g f cf l cl vo n off pf pl ws) (hb:aE S w w') (h1:¬S g) (h2:¬S f) (h3:¬S l) (h4:∀k,vo.ownBlock=some k→¬S k):eu w' g f cf l cl vo n off pf pl ws:=
 ⟨h.blk.but hb h1,h.of.but hb (fun k hk=>by simp[Value.ownBlock] at hk;subst hk;exact h2),h.ol.but hb (fun k hk=>by simp[Value.ownBlock] at hk;subst hk;exact h3),h.oo.but hb h4,h.fl⟩
theorem alloc (h:eu w g f cf l cl vo n off pf pl ws) (o:Obj):eu (w.alloc o) g f cf l cl vo n off pf pl ws:=
 h.but ((aE.refl (fun _=>False) w).alloc o) id id id (fun _ _=>id)
theorem Pq (h:eu w g f cf l cl vo n off pf pl ws) (j:Nat) (u:Value) (Et:Value) (n':Int) (off':Bool) (ws':List (Nat×Nat))
  (Zj:Own oM 190 0 w Et ws')
  (hs:[Value.slice (some ⟨f,0,none⟩) pf.length cf,.slice (some ⟨l,0,none⟩) pl.length cl,vo,.int .i64 n,.bool off].set j u=[.slice (some ⟨f,0,none⟩) pf.length cf,.slice (some ⟨l,0,none⟩) pl.length cl,Et,.int .i64 n',.bool off']):
  eu (w.setCell ⟨g,j,none⟩ u) g f cf l cl Et n' off' pf pl ws':=by
 have hb:aE (· =g) w (w.setCell ⟨g,j,none⟩ u):=(aE.refl _ w).setCell _ _ (fun _=>rfl)
 refine⟨?_,h.of.but hb (fun k hk e=>h.gf ?_),h.ol.but hb (fun k hk e=>h.gl ?_),Zj.but hb (fun k hk e=> ?_),h.fl⟩
 ·rw[←hs];exact h.blk.set j u
 ·simp[Value.ownBlock] at hk;omega
 ·simp[Value.ownBlock] at hk;omega
 ·exact Zj.cY h.blk (by decide) (by rw[hk,e])
theorem L8 (h:eu w g f cf l cl vo n off pf pl ws) (n':Int):eu (w.setCell ⟨g,3,none⟩ (.int .i64 n')) g f cf l cl vo n' off pf pl ws:=h.Pq 3 _ vo n' off ws h.oo rfl
theorem L9 (h:eu w g f cf l cl vo n off pf pl ws) (b:Bool):eu (w.setCell ⟨g,4,none⟩ (.bool b)) g f cf l cl vo n b pf pl ws:=h.Pq 4 _ vo n b ws h.oo rfl
theorem IU (h:eu w g f cf l cl vo n off pf pl ws) (Et:Value) (ws':List (Nat×Nat)) (ho:Own oM 190 0 w Et ws'):eu (w.setCell ⟨g,2,none⟩ Et) g f cf l cl Et n off pf pl ws':=h.Pq 2 _ Et n off ws' ho rfl
theorem L_ (h:eu w g f cf l cl vo n off pf pl ws) (j c:Nat):eu (w.setCell ⟨f,j,none⟩ (ptr c)) g f cf l cl vo n off (pf.set j c) pl ws:=by
 have hb:aE (· =f) w (w.setCell ⟨f,j,none⟩ (ptr c)):=(aE.refl _ w).setCell _ _ (fun _=>rfl)
 have hs:=Own.store h.of j c
 refine⟨?_, ?_,h.ol.but hb (fun k hk e=>h.fl ?_),h.oo.but hb (fun k hk e=>h.Zh (by rw[hk,e])),h.fl⟩
 ·rw[bP];exact h.blk.but hb h.gf
 ·rw[bP];exact hs
 ·simp[Value.ownBlock] at hk;omega
theorem Fz (h:eu w g f cf l cl vo n off pf pl ws) (j c:Nat):eu (w.setCell ⟨l,j,none⟩ (ptr c)) g f cf l cl vo n off pf (pl.set j c) ws:=by
 have hb:aE (· =l) w (w.setCell ⟨l,j,none⟩ (ptr c)):=(aE.refl _ w).setCell _ _ (fun _=>rfl)
 have hs:=Own.store h.ol j c
 refine⟨?_,h.of.but hb (fun k hk e=>h.fl ?_), ?_,h.oo.but hb (fun k hk e=>h.Zi (by rw[hk,e])),h.fl⟩
 ·rw[bP];exact h.blk.but hb h.gl
 ·simp[Value.ownBlock] at hk;omega
 ·rw[bP];exact hs
theorem Cw (h:eu w g f cf l cl vo n off pf pl ws) (hg:w.grownBy w' vo.ownBlock) (Et:Value) (ws':List (Nat×Nat)) (ho:Own oM 190 0 w' Et ws'):
  eu (w'.setCell ⟨g,2,none⟩ Et) g f cf l cl Et n off pf pl ws':=by
 have hb:aE (fun k=>vo.ownBlock=some k) w w':=⟨hg.os,hg.tape,hg.output,hg.size,fun k hk hn=>hg.block k hk (fun e=>hn e.symm)⟩
 have h':aS w' g 102 [.slice (some ⟨f,0,none⟩) pf.length cf,.slice (some ⟨l,0,none⟩) pl.length cl,vo,.int .i64 n,.bool off]:=h.blk.but hb h.og
 have h2:=h.of.but hb (fun k hk=>by simp[Value.ownBlock] at hk;subst hk;exact h.Zh)
 have h3:=h.ol.but hb (fun k hk=>by simp[Value.ownBlock] at hk;subst hk;exact h.Zi)
 have aP:aE (· =g) w' (w'.setCell ⟨g,2,none⟩ Et):=(aE.refl _ w').setCell _ _ (fun _=>rfl)
 refine⟨h'.set 2 Et,h2.but aP (fun k hk e=>h.gf ?_),h3.but aP (fun k hk e=>h.gl ?_),ho.but aP (fun k hk e=>ho.cY h' (by decide) (by rw[hk,e])),h.fl⟩
 ·simp[Value.ownBlock] at hk;omega
 ·simp[Value.ownBlock] at hk;omega
end eu
def IV (w:World) (F:Nat→Prop) (T:Nat→List UInt8) (cs:List Nat):Prop:=∀c∈cs,aS w c 140 ((T c).map bL)∧F c∧(T c).length=512
theorem IV.but {S:Nat→Prop} {w w':World} {F:Nat→Prop} {T:Nat→List UInt8} {cs:List Nat} (h:IV w F T cs) (hb:aE S w w') (hn:∀c∈cs,¬S c):IV w' F T cs:=
 fun c hc=>⟨(h c hc).1.but hb (hn c hc),(h c hc).2⟩
def nZ (w:World) (F:Nat→Prop) (g:Nat) (d:Dk.b9):Prop:=
 ∃(f cf l cl:Nat) (vo:Value) (n:Int) (pf pl:List Nat) (ws:List (Nat×Nat)) (T:Nat→List UInt8),
  eu w g f cf l cl vo n d.off pf pl ws∧IV w F T (pf++(pl++ws.map (·.2)))∧d.fB=pf.map T∧d.loose=ws.map (fun x=>(x.1,T x.2))∧d.now=pl.map T∧
  max n (-1)=d.fuel∧n≤9223372036854775807∧-9223372036854775808≤n∧1≤pf.length∧pf.length≤65536∧(∀x∈ws,x.1<pf.length)∧
  F g∧F f∧F l∧(∀k,vo.ownBlock=some k→F k)∧∀k,F k→k<w.heap.size
def bS (F:Nat→Prop) (w:World) (F':Nat→Prop) (w':World):Prop:=aE F w w'∧∀k,F' k→F k∨w.heap.size≤k
theorem bS.refl (F:Nat→Prop) (w:World):bS F w F w:=⟨aE.refl _ _,fun _ h=>.inl h⟩
theorem bS.trans {F F' Zk:Nat→Prop} {w w' w'':World} (h:bS F w F' w') (k:bS F' w' Zk w''):bS F w Zk w'':=
 ⟨h.1.trans k.1 (fun i hi hf=>(h.2 i hf).resolve_right (by omega)),fun i hi=>by
  rcases k.2 i hi with hf|hl
  ·exact h.2 i hf
  ·exact .inr (aG h.1.size hl)⟩
theorem nZ.lt {w:World} {F:Nat→Prop} {g:Nat} {d:Dk.b9} (h:nZ w F g d):∀k,F k→k<w.heap.size:=by
 obtain⟨_,_,_,_,_,_,_,_,_,_,_,_,_,_,_,_,_,_,_,_,_,_,_,_,_,h⟩:=h
 exact h
theorem nZ.but {S:Nat→Prop} {w w':World} {F:Nat→Prop} {g:Nat} {d:Dk.b9} (h:nZ w F g d) (hb:aE S w w') (hn:∀k,F k→¬S k):nZ w' F g d:=by
 obtain⟨f,cf,l,cl,vo,n,pf,pl,ws,T,h1,h2,h3,h4,hp,h5,h6,h6',h7,h8,h9,h10,h11,h12,h13,h14⟩:=h
 exact⟨f,cf,l,cl,vo,n,pf,pl,ws,T,h1.but hb (hn _ h10) (hn _ h11) (hn _ h12) (fun k hk=>hn _ (h13 k hk)),h2.but hb (fun c hc=>hn c (h2 c hc).2.1),h3,h4,hp,h5,h6,h6',h7,h8,h9,h10,h11,h12,h13,fun k hk=>cW (h14 k hk) hb.size⟩
theorem eG (w:World) (F:Nat→Prop) (g:Nat) (d:Dk.b9) (hd:nZ w F g d):
  Calls Tryz.prog 41 #[ptr g] w fun e w'=>e=.returned (.bool d.off)∧w'=w:=by
 obtain⟨f,cf,l,cl,vo,n,pf,pl,ws,T,h1,h2,h3,h4,hp,h5,h6,h6',h7,h8,h9,h10,h11,h12,h13,h14⟩:=hd
 have c4:w.cell? ⟨g,4,none⟩=some (.bool d.off):=h1.blk.cell rfl
 clear h1 h2 h3 h4 hp
 go_enter Tryz.func41,Tryz.ntmps41
 unfold ptr
 go_wp2
 go_ret
 exact⟨rfl,rfl⟩
theorem pN (w:World) (F:Nat→Prop) (g:Nat) (d:Dk.b9) (hd:nZ w F g d):
  Calls Tryz.prog 40 #[ptr g] w fun e w'=>e=.returned (.int .i64 d.fB.length)∧w'=w:=by
 obtain⟨f,cf,l,cl,vo,n,pf,pl,ws,T,h1,h2,h3,h4,hp,h5,h6,h6',h7,h8,h9,h10,h11,h12,h13,h14⟩:=hd
 have c0:w.cell? ⟨g,0,none⟩=some (.slice (some ⟨f,0,none⟩) pf.length cf):=h1.blk.cell rfl
 have hl:d.fB.length=pf.length:=by rw[h3,aM]
 rw[hl]
 clear h1 h2 h3 h4 hl hp
 go_enter Tryz.func40,Tryz.ntmps40
 unfold ptr
 go_wp2
 go_ret
 exact⟨rfl,rfl⟩
theorem nG (w:World) (F:Nat→Prop) (g:Nat) (d:Dk.b9) (i:Int) (hd:nZ w F g d):
  Calls Tryz.prog 152 #[ptr g,.int .i64 i] w fun e w'=>e=.returned (.bool (d.has i))∧w'=w:=by
 obtain⟨f,cf,l,cl,vo,n,pf,pl,ws,T,h1,h2,h3,h4,hp,h5,h6,h6',h7,h8,h9,h10,h11,h12,h13,h14⟩:=hd
 have c0:w.cell? ⟨g,0,none⟩=some (.slice (some ⟨f,0,none⟩) pf.length cf):=h1.blk.cell rfl
 have hl:d.fB.length=pf.length:=by rw[h3,aM]
 unfold Dk.b9.has
 rw[hl]
 clear h1 h2 h3 h4 hl hp
 by_cases hi:0≤i
 ·go_enter Tryz.func152,Tryz.ntmps152
  unfold ptr
  go_wp2
  go_ret
  refine⟨iB ?_,rfl⟩
  simp[hi]
 ·go_enter Tryz.func152,Tryz.ntmps152
  unfold ptr
  go_wp2
  go_ret
  refine⟨iB ?_,rfl⟩
  simp only[Bool.false_eq,Bool.and_eq_false_iff,decide_eq_false_iff_not]
  omega
theorem nZ.tN {w:World} {F:Nat→Prop} {g:Nat} {d:Dk.b9} (n:Int) (hd:nZ w F g d) (h1:-9223372036854775808≤n) (h2:n≤9223372036854775807):nZ (w.setCell ⟨g,3,none⟩ (.int .i64 n)) F g (d.tN n)∧bS F w F (w.setCell ⟨g,3,none⟩ (.int .i64 n)):=by
 obtain⟨f,cf,l,cl,vo,m,pf,pl,ws,T,k1,k2,k3,k4,kp,k5,k6,k6',k7,k8,k9,k10,k11,k12,k13,k14⟩:=hd
 have hb:aE (· =g) w (w.setCell ⟨g,3,none⟩ (.int .i64 n)):=(aE.refl _ w).setCell _ _ (fun _=>rfl)
 refine⟨⟨f,cf,l,cl,vo,n,pf,pl,ws,T,k1.L8 n,k2.but hb (fun c hc e=>(k2 c hc).1.ne k1.blk (by decide) e),k3,k4,kp,rfl,h2,h1,k7,k8,k9,k10,k11,k12,k13,fun k hk=> ?_⟩, ?_,fun k hk=>.inl hk⟩
 ·have:=k14 k hk;have:=hb.size;omega
 ·exact hb.mono (fun k _ e=>e▸k10)
theorem nZ.dead {w:World} {F:Nat→Prop} {g:Nat} {d:Dk.b9} (hd:nZ w F g d):nZ (w.setCell ⟨g,4,none⟩ (.bool true)) F g d.dead∧bS F w F (w.setCell ⟨g,4,none⟩ (.bool true)):=by
 obtain⟨f,cf,l,cl,vo,m,pf,pl,ws,T,k1,k2,k3,k4,kp,k5,k6,k6',k7,k8,k9,k10,k11,k12,k13,k14⟩:=hd
 have hb:aE (· =g) w (w.setCell ⟨g,4,none⟩ (.bool true)):=(aE.refl _ w).setCell _ _ (fun _=>rfl)
 refine⟨⟨f,cf,l,cl,vo,m,pf,pl,ws,T,k1.L9 true,k2.but hb (fun c hc e=>(k2 c hc).1.ne k1.blk (by decide) e),k3,k4,kp,k5,k6,k6',k7,k8,k9,k10,k11,k12,k13,fun k hk=> ?_⟩, ?_,fun k hk=>.inl hk⟩
 ·have:=k14 k hk;have:=hb.size;omega
 ·exact hb.mono (fun k _ e=>e▸k10)
theorem pO (w:World) (F:Nat→Prop) (g:Nat) (d:Dk.b9) (hd:nZ w F g d):
  Calls Tryz.prog 108 #[ptr g] w fun e w'=>e=.returned (.bool (decide (d.fuel≠0)))∧nZ w' F g (if d.fuel=0 then d.dead else d.gO)∧bS F w F w':=by
 have HD:=aa hd
 obtain⟨f,cf,l,cl,vo,n,pf,pl,ws,T,k1,k2,k3,k4,kp,k5,k6,k6',k7,k8,k9,k10,k11,k12,k13,k14⟩:=hd
 have c3:w.cell? ⟨g,3,none⟩=some (.int .i64 n):=k1.blk.cell rfl
 have f3:w.frozen? ⟨g,3,none⟩=false:=k1.blk.frozen 3
 have c4:w.cell? ⟨g,4,none⟩=some (.bool d.off):=k1.blk.cell rfl
 have f4:w.frozen? ⟨g,4,none⟩=false:=k1.blk.frozen 4
 have HK:=aa (And.intro k5 (And.intro k2 (And.intro k3 (And.intro k4 (And.intro kp k9)))))
 clear k1 k2 k3 k4 kp k5 k9 k14 k13
 by_cases h0:n=0
 ·subst h0
  have hf:d.fuel=0:=by rw[←HK.o.1];rfl
  rw[if_pos hf]
  go_enter Tryz.func108,Tryz.ntmps108
  unfold ptr
  go_wp2
  go_ret
  exact⟨iB (by rw[decide_eq_false];exact fun h=>h hf),HD.o.dead⟩
 ·have hf:¬d.fuel=0:=by rw[←HK.o.1];omega
  rw[if_neg hf]
  by_cases hp:0<n
  ·have hp':n>0:=hp
   have hw:IntKind.i64.wrap (n-1)=n-1:=by rw[IntKind.wrap_i64];omega
   go_enter Tryz.func108,Tryz.ntmps108
   unfold ptr
   go_wp2
   go_ret
   have hq:=HD.o.tN (n-1) (by omega) (by omega)
   have e:d.tN (n-1)=d.gO:=by
    have:=HK.o.1
    unfold Dk.b9.tN Dk.b9.gO
    congr 1
    rw[if_pos (by omega)]
    omega
   rw[e] at hq
   refine⟨iB (by rw[decide_eq_true hf]),hq⟩
  ·have hp':¬n>0:=hp
   go_enter Tryz.func108,Tryz.ntmps108
   unfold ptr
   go_wp2
   go_ret
   have e:d.gO=d:=by
    have:=HK.o.1
    unfold Dk.b9.gO
    rw[if_neg (by omega)]
   rw[e]
   exact⟨rfl,HD.o,bS.refl _ _⟩
theorem qW (g i:Nat):(⟨g,0,none⟩:Addr).add i=⟨g,i,none⟩:=by unfold Addr.add;split<;>simp_all
theorem oC (w:World) (c:Nat):(Instr.sliceAt 140 (.pointer (some ⟨c,0,none⟩)) none none none).run Tryz.prog w=.ok (.slice (some ⟨c,0,none⟩) 512 512) w:=by
 have e1:Tryz.prog.arrayLen 140=512:=by kernel_rfl
 have e2:Tryz.prog.elem 140=5:=by kernel_rfl
 have e3:=run_sliceAt_array_all (P:=Tryz.prog) w 140 ⟨c,0,none⟩ (by rw[e1,e2];kernel_rfl)
 rw[e3,e1,e2]
 show ((sizeOf 5).run Tryz.prog w).andThen _=_
 rw[Tryz.sizeOf5]
 simp[go_sem,Addr.add]
theorem yy (w:World) (c:Nat) (t:List UInt8) (hb:aS w c 140 (t.map bL)) (hl:t.length=512):(convert 94 9 (.slice (some ⟨c,0,none⟩) 512 512)).run Tryz.prog w=.ok (.string (bs t)) w:=by
 have:=run_convert_bytes_back (P:=Tryz.prog) w 94 9 5 ⟨c,0,none⟩ 512 t (by kernel_rfl) (by kernel_rfl) (by kernel_rfl) (by
  intro i hi
  rw[qW]
  refine hb.cell ?_
  rw[cJ,aJ hi]
  rfl)
 rw[hl] at this
 exact this
theorem Aa (w:World) (F:Nat→Prop) (g:Nat) (d:Dk.b9) (i:Int) (hd:nZ w F g d):
  Calls Tryz.prog 97 #[ptr g,.int .i64 i] w fun e w'=>e=.returned (.tuple #[.string (bs (d.read i).1),.int .i64 (d.read i).2])∧w'=w:=by
 have HD:=aa hd
 by_cases ho:d.off=true
 ·have HR:d.read i=([],3):=by unfold Dk.b9.read;rw[if_pos ho]
  rw[HR]
  clear HR hd
  go_enter Tryz.func97,Tryz.ntmps97
  go_wp2_with fail
  refine (eG _ _ _ _ HD.o).mono ?_
  rintro e w1 ⟨rfl,rfl⟩
  rw[ho]
  go_wp2
  go_ret2
  exact⟨rfl,rfl⟩
 ·have ho':d.off=false:=by simpa using ho
  by_cases hh:d.has i=true
  ·have hi:0≤i∧i<d.fB.length:=by simpa[Dk.b9.has] using hh
   obtain⟨f,cf,l,cl,vo,n,pf,pl,ws,T,k1,k2,k3,k4,kp,k5,k6,k6',k7,k8,k9,k10,k11,k12,k13,k14⟩:=hd
   have hlen:d.fB.length=pf.length:=by rw[k3,aM]
   obtain⟨k,rfl⟩:∃k:Nat,i=k:=⟨i.toNat,by omega⟩
   have dH:pl.length=pf.length:=by
    have:=congrArg List.length kp
    rw[aM,Dk.b9.now,Dk.gI,k3,aM] at this
    exact this.symm
   have hk:k<pl.length:=by omega
   have HR:d.read k=(T pl[k],0):=by
    unfold Dk.b9.read
    rw[if_neg ho,if_pos hh,kp,cX,bT,cJ,aJ hk]
    rfl
   have hmem:pl[k]∈pf++(pl++ws.map (·.2)):=yz _ (List.mem_append_left _ (bB hk))
   have c1:w.cell? ⟨g,1,none⟩=some (.slice (some ⟨l,0,none⟩) pl.length cl):=k1.blk.cell rfl
   have cl':w.cell? ⟨l,k,none⟩=some (ptr pl[k]):=by
    have:=Own.lies k1.ol k (ptr pl[k]) (by rw[show cZ.cells pl=pl.map ptr from cM _ _ _,cJ,aJ hk];rfl)
    rwa [bV] at this
   have hcb:=fun w' (hw:w'=w)=>yy w' _ _ (hw▸(k2 _ hmem).1) (k2 _ hmem).2.2
   have hcb:=hcb w rfl
   have xj:=oC w pl[k]
   have hcap:=(Own.slot k1.ol).2.2
   have s9:(k:Int)<pl.length:=by omega
   rw[HR]
   generalize pl[k]=c at*
   generalize pl.length=N at*
   generalize T c=t at*
   unfold ptr at cl'
   clear HR k1 k2 k3 k4 kp k5 k9 k13 k14 hmem hlen dH
   go_enter Tryz.func97,Tryz.ntmps97
   go_wp2_with fail
   refine (eG _ _ _ _ HD.o).mono ?_
   rintro e w1 ⟨rfl,rfl⟩
   rw[ho']
   go_wp2_with fail
   refine (nG _ _ _ _ _ HD.o).mono ?_
   rintro e w1 ⟨rfl,rfl⟩
   rw[hh]
   unfold ptr
   go_wp2
   go_ret2
   exact⟨rfl,rfl⟩
  ·have Ow:d.has i=false:=by simpa using hh
   have HR:d.read i=([],2):=by unfold Dk.b9.read;rw[if_neg ho,if_neg hh]
   rw[HR]
   clear HR hd
   go_enter Tryz.func97,Tryz.ntmps97
   go_wp2_with fail
   refine (eG _ _ _ _ HD.o).mono ?_
   rintro e w1 ⟨rfl,rfl⟩
   rw[ho']
   go_wp2_with fail
   refine (nG _ _ _ _ _ HD.o).mono ?_
   rintro e w1 ⟨rfl,rfl⟩
   rw[Ow]
   go_wp2
   go_ret2
   exact⟨rfl,rfl⟩
section
variable {P:Program}
theorem qX (w:World) (base:Nat) (t ty e:TypeId) (i:TypeInfo) (z:Value) (size bytes:Nat) (ht:P.underlying t=some (.slice e)) (hi:P.info? e=some i) (hz:i.zero=some z)
  (hsize:i.size=size) (hby:i.bytes=bytes) (hzs:z.cells.size=size) (hsz:0<size)
  (v:Value) (n:Nat) (xs:List Value) (hown:w.ownsRow base e size v n xs)
  (a:Addr) (m c:Nat) (news:List Value) (hl:news.length=m*size) (hnews:∀j u,news[j]?=some u→w.cell? (a.add j)=some u) (h1:∀u∈news,u.oneCell'=true)
  (h63:n+m≤maxLen) (hbytes:(n+m)*bytes≤140737488355328) (hbase:base≤w.heap.size):
  ∃v' w',(Builtin.append_ #[t,t] ty #[v,.slice (some a) m c]).run P w=.ok v' w'∧w'.ownsRow base e size v' (n+m) (xs++news)∧w.grownBy w' v.ownBlock∧
   (v'.ownBlock=v.ownBlock∨∀k,v'.ownBlock=some k→w.heap.size≤k):=by
 obtain⟨v',w',hr,h2,h3,_⟩:=run_append_own (P:=P) w base t ty e i z size bytes ht hi hz hsize hby hzs hsz v n xs hown a m c news hl hnews h1 h63 hbytes hbase
 refine⟨v',w',hr,h2,h3, ?_⟩
 have hown':=hown
 rcases hown.2 with⟨rfl,rfl⟩|⟨g,cap,cur,rfl,Ox,hg,hnc,hcm,hcs,kQ⟩
 ·obtain⟨v2,w2,jS,h22,_⟩:=run_append_own (P:=P) w w.heap.size t ty e i z size bytes ht hi hz hsize hby hzs hsz (.slice none 0 0) 0 xs ⟨hown.1,.inl ⟨rfl,rfl⟩⟩ a m c news hl hnews h1 h63 hbytes (af _)
  rw[hr] at jS
  injection jS with e1 e2
  subst e1 e2
  exact .inr fun k hk=>(h22.lt k hk).1
 ·by_cases hroom:n+m≤cap
  ·obtain⟨w2,jS,_⟩:=run_append_fits (P:=P) w base t ty e i size ht hi hsize g n cap xs hown' a m c news hl hnews h1 hroom
   rw[hr] at jS
   injection jS with e1 e2
   subst e1
   exact .inl rfl
  ·subst hsize hby
   have holds:∀j u,xs[j]?=some u→w.cell? ((⟨g,0,none⟩:Addr).add j)=some u:=hown.cells (g:=g) rfl
   have hsmall:n+m≤9223372036854775807:=by simp only[maxLen] at h63;omega
   have jS:=run_append_grow (P:=P) w t ty e i z ht hi hz ⟨g,0,none⟩ n cap xs hown.1 holds a m c news hl hnews (by omega) (by omega) (growslice_fits (by omega) hbytes)
   rw[hr] at jS
   injection jS with e1 e2
   subst e1
   refine .inr fun k hk=> ?_
   simp[Value.ownBlock] at hk
   omega
variable {α:Type} {K:Elem α} {E T:TypeId} {B:Nat} {w:World} {v:Value} {l:List α}
theorem fQ (ST:dD P T E K.size) {o:Oper} {a:Act} {K':Act→World→Prop} {Q:Exit→Act→World→Prop} (s x:Operand)
  (ho:o.op=.call {callee:=.builtin .append,args:=#[s,x],argTypes:=#[T,T]})
  (hs:a.eval s=v) (hown:Own K E B w v l) (hB:B≤w.heap.size)
  (g d m c:Nat) (ms:List α) (hx:a.eval x=.slice (some ⟨g,d,none⟩) m c) (hm:ms.length=m) (hnews:a_ K w g d ms) (hlen:l.length+m≤1000000000)
  (h:∀v' w',Own K E B w' v' (l++ms)→w.grownBy w' v.ownBlock→(v'.ownBlock=v.ownBlock∨∀k,v'.ownBlock=some k→w.heap.size≤k)→K' (a.put o.dst v') w'):o.wp P a w K' Q:=by
 obtain⟨i,z,hi,hz,hsize,hzs,hby⟩:=ST.info
 obtain⟨v',w',hr,h2,h3,h4⟩:=qX (P:=P) w B T o.type E i z K.size i.bytes ST.under hi hz hsize rfl hzs K.pos v l.length (K.cells l) hown ⟨g,d,none⟩ m c (K.cells ms) (by rw[K.bX,hm]) hnews.news (K.nD _) (by unfold maxLen;omega) (aG (Nat.mul_le_mul hlen hby) (by decide)) hB
 unfold Oper.wp execOp
 simp only[ho,resolve,invoke,builtin,Sem.run_bind,Sem.run_pure,Result.andThen_ok,List.map_toArray,bH,List.map_nil,hs,hx,hr]
 refine h v' w' ?_ h3 h4
 unfold Own
 rw[aq,K.bW,hm]
 exact h2
theorem eS (ST:dD P T E K.size) {ops:Array Oper} {rest:List Oper} {o:Oper} {a:Act} {Q:Exit→Act→World→Prop} (hgd:o.guard=none) (s x:Operand)
  (ho:o.op=.call {callee:=.builtin .append,args:=#[s,x],argTypes:=#[T,T]})
  (hs:a.eval s=v) (hown:Own K E B w v l) (hB:B≤w.heap.size)
  (g d m c:Nat) (ms:List α) (hx:a.eval x=.slice (some ⟨g,d,none⟩) m c) (hm:ms.length=m) (hnews:a_ K w g d ms) (hlen:l.length+m≤1000000000)
  (h:∀v' w',Own K E B w' v' (l++ms)→w.grownBy w' v.ownBlock→(v'.ownBlock=v.ownBlock∨∀k,v'.ownBlock=some k→w.heap.size≤k)→wpList P ops Q rest (a.put o.dst v') w'):wpList P ops Q (o::rest) a w:=
 wpList_plain hgd fun _ hK=>fQ ST s x ho hs hown hB g d m c ms hx hm hnews hlen fun v' w' h1 h2 h3=>hK _ _ (h v' w' h1 h2 h3)
end
end
section
open Go.RowKit Lib
theorem yA {P:Program} (w:World) (dT sT ty elem:TypeId) (g dLen dCap:Nat) (s:ByteArray) (cur:Array Value) (t:TypeId)
  (hu:P.underlying dT=some (.slice elem)) (hs:(P.info? elem).map (·.size)=some 1)
  (hg:w.heap[g]?=some (.cells cur t (0,0))) (hn:s.size≤dLen) (hfit:s.size≤cur.size):
  (Builtin.copy_ #[dT,sT] ty #[.slice (some ⟨g,0,none⟩) dLen dCap,.string s]).run P w=
   .ok (goInt s.size) (w.setRow g (strCells s++cur.toList.drop s.size).toArray):=by
 have hl:=fun size=>run_firstCells_string (P:=P) w size s
 have hst:=run_storeCells_at P g 0 t (strCells s) 0 cur w hg (by simpa[strCells_length] using hfit) (strCells_oneCell s)
 simp only[bV,strCells_length,List.take_zero,dF] at hst
 have hmin:Nat.min s.size dLen=s.size:=b_ hn
 cases hq:P.info? elem with
 |none=>simp[hq] at hs
 |some i=>simp[Builtin.copy_,run_underlying hu,Builtin.lenOf,sizeOf,typeInfo,hq,hmin,hl,hst]
theorem mE {P:Program} {w:World} {ops:Array Oper} {rest:List Oper} {o:Oper} {a:Act} {Q:Exit→Act→World→Prop} (hgd:o.guard=none) (d s:Operand) (dT sT:TypeId)
  (ho:o.op=.call {callee:=.builtin .copy,args:=#[d,s],argTypes:=#[dT,sT]}) (elem:TypeId) (hu:P.underlying dT=some (.slice elem)) (hsz:(P.info? elem).map (·.size)=some 1)
  (g dLen dCap:Nat) (str:ByteArray) (hd:a.eval d=.slice (some ⟨g,0,none⟩) dLen dCap) (hs:a.eval s=.string str)
  (cur:Array Value) (t:TypeId) (hg:w.heap[g]?=some (.cells cur t (0,0))) (hn:str.size≤dLen) (hfit:str.size≤cur.size)
  (h:wpList P ops Q rest (a.put o.dst (goInt str.size)) (w.setRow g (strCells str++cur.toList.drop str.size).toArray)):wpList P ops Q (o::rest) a w:=by
 refine wpList_plain hgd fun K hK=> ?_
 have hrun:=yA (P:=P) w dT sT o.type elem g dLen dCap str cur t hu hsz hg hn hfit
 unfold Oper.wp
 simp[execOp,ho,resolve,invoke,builtin,hd,hs,hrun,Result.andThen]
 exact hK _ _ h
def iO:List Value:=bg 512 (.int .u8 0)
theorem pP (w:World):(zeroValue 140).run Tryz.prog w=.ok (.agg iO.toArray) w:=by kernel_rfl
theorem tO (s:ByteArray):strCells s++iO.drop s.size=(Dk.full s.data.toList).map bL:=by
 unfold Dk.full iO strCells
 rw[bI,List.map_replicate,List.drop_replicate,aZ]
 rfl
theorem Ma (w:World) (i c:Nat):a_ oM (w.alloc (.cells #[.int .i64 i,ptr c] 190)) w.heap.size 0 [(i,c)]:=
 a_.gh (aS.new w #[.int .i64 i,ptr c] 190) rfl
theorem nZ.wrote {w1 W w5:World} {F:Nat→Prop} {g f cf l cl c k:Nat} {vo v':Value} {n:Int} {pf pl:List Nat} {ws:List (Nat×Nat)} {T:Nat→List UInt8} {d:Dk.b9} {t:List UInt8}
  (hbW:aE (· =c) w1 W) (hc:w1.heap.size=c) (Oy:aS W c 140 (t.map bL)) (ht:t.length=512) (tW:IV W F T (pf++(pl++ws.map (·.2)))) (kW:eu W g f cf l cl vo n d.off pf pl ws)
  (k5':eu w5 g f cf l cl v' n d.off pf (pl.set k c) (ws++[(k,c)])) (dX:aE (fun x=>x=g∨x=l∨vo.ownBlock=some x) W w5) (hv:∀x,v'.ownBlock=some x→F x∨w1.heap.size≤x)
  (k3:d.fB=pf.map T) (k4:d.loose=ws.map (fun x=>(x.1,T x.2))) (kp:d.now=pl.map T) (k5:max n (-1)=d.fuel) (k6:n≤9223372036854775807) (k6':-9223372036854775808≤n) (k7:1≤pf.length) (k8:pf.length≤65536)
  (k9:∀x∈ws,x.1<pf.length) (k10:F g) (k11:F f) (k12:F l) (k13:∀x,vo.ownBlock=some x→F x) (k14:∀x,F x→x<w1.heap.size) (hk:k<pl.length) (dH:pl.length=pf.length):
  ∃F',nZ w5 F' g {d with loose:=d.loose++[(k,t)]}∧bS F w1 F' w5:=by
 have V_:∀x,F x→x≠c:=fun x hx e=>by have:=k14 x hx;omega
 have hsz:=hbW.size
 have aae:=dX.size
 have hcs:=Oy.lt
 have hT:∀x∈pf++(pl++ws.map (·.2)),(if x=c then t else T x)=T x:=fun x hx=>if_neg (V_ x (tW x hx).2.1)
 refine⟨fun x=>F x∨(w1.heap.size≤x∧x<w5.heap.size),⟨f,cf,l,cl,v',n,pf,pl.set k c,ws++[(k,c)],fun x=>if x=c then t else T x,k5', ?_, ?_, ?_, ?_,k5,k6,k6',k7,k8, ?_,.inl k10,.inl k11,.inl k12, ?_, ?_⟩, ?_, ?_⟩
 ·have hold:∀x∈pf++(pl++ws.map (·.2)),aS w5 x 140 (((if x=c then t else T x)).map bL)∧(F x∨(w1.heap.size≤x∧x<w5.heap.size))∧(if x=c then t else T x).length=512:=by
   intro x hx
   obtain⟨h1,h2,h3⟩:=tW x hx
   rw[hT x hx]
   refine⟨h1.but dX ?_,.inl h2,h3⟩
   rintro (e|e|e)
   ·exact h1.ne kW.blk (by decide) e
   ·subst e
    obtain⟨cur,mP⟩:=kW.ol.typed (k:=x) rfl
    unfold aS at h1
    rw[h1] at mP
    injection mP with mP
    injection mP with _ mP
    exact absurd mP (by decide)
   ·exact kW.oo.cY h1 (by decide) e
  intro x hx
  have hx':x∈pf++(pl++ws.map (·.2))∨x=c:=by
   grind
  rcases hx' with hx|hx
  ·exact hold x hx
  ·obtain rfl:x=c:=hx
   refine⟨?_,.inr ⟨by omega,by omega⟩, ?_⟩
   ·show aS w5 x _ ((if x=x then t else T x).map bL)
    rw[if_pos rfl]
    refine Oy.but dX ?_
    rintro (e|e|e)
    ·exact V_ _ k10 e.symm
    ·exact V_ _ k12 e.symm
    ·grind
   ·grind
 ·grind [oN,List.mem_append_left]
 ·show d.loose++[(k,t)]=_
  rw[k4,bI]
  congr 1
  ·exact oN fun x hx=>by show _=(x.1,if x.2=c then t else T x.2);rw[hT x.2 (yz _ (yz _ (List.mem_map.2 ⟨x,hx,rfl⟩)))]
  ·simp
 ·show Dk.fu d.fB (d.loose++[(k,t)])=_
  rw[Dk.r7,Dk.IL,List.map_set,if_pos rfl]
  congr 1
  rw[show Dk.fu d.fB d.loose=d.now from rfl,kp]
  exact oN fun x hx=>(hT x (yz _ (List.mem_append_left _ hx))).symm
 ·grind
 ·intro x hx
  rcases hv x hx with h|h
  ·exact .inl h
  ·exact .inr ⟨h,(k5'.oo.block x hx).2⟩
 ·grind
 ·have h1:aE (fun x=>x=c∨(x=g∨x=l∨vo.ownBlock=some x)) w1 w5:=(hbW.mono (fun x _ e=>.inl e)).trans dX (fun x _ e=>.inr e)
  refine h1.mono ?_
  rintro x hx (e|e|e|e)
  ·omega
  ·exact e▸k10
  ·exact e▸k12
  ·exact k13 x e
 ·grind
theorem FA (w:World) (F:Nat→Prop) (g:Nat) (d:Dk.b9) (i:Int) (s:ByteArray) (hd:nZ w F g d) (hn:d.loose.length≤900000000):
  Calls Tryz.prog 98 #[ptr g,.int .i64 i,.string s] w fun e w'=>e=.returned (.int .i64 (d.write i s.data.toList).1)∧∃F',nZ w' F' g (d.write i s.data.toList).2∧bS F w F' w':=by
 have HD:=aa hd
 have hsz:s.data.toList.length=s.size:=aZ
 by_cases ho:d.off=true
 ·have HR:d.write i s.data.toList=(3,d):=by unfold Dk.b9.write;rw[if_pos ho]
  rw[HR]
  clear HR hd
  go_enter Tryz.func98,Tryz.ntmps98
  go_wp2_with fail
  refine (eG _ _ _ _ HD.o).mono ?_
  rintro e w1 ⟨rfl,rfl⟩
  rw[ho]
  go_wp2
  go_ret
  exact⟨rfl,_,HD.o,bS.refl _ _⟩
 ·have ho':d.off=false:=by simpa using ho
  by_cases hh:d.has i=true
  ·have hi:0≤i∧i<d.fB.length:=by simpa[Dk.b9.has] using hh
   by_cases hs:s.size≤512
   ·have xk:¬((s.size:Int)>512):=by omega
    by_cases hf:d.fuel=0
    ·have HR:d.write i s.data.toList=(3,d.dead):=by
      unfold Dk.b9.write;rw[if_neg ho,hh,hsz,if_neg (by decide),if_neg (by omega),if_pos hf]
     have hst:=fun w' (hw:w'=w)=>pO w' F g d (hw▸hd)
     rw[if_pos hf,show decide (d.fuel≠0)=false by simp[hf]] at hst
     have jO:=aa (hst w rfl)
     rw[HR]
     clear HR hd hst
     go_enter Tryz.func98,Tryz.ntmps98
     go_wp2_with fail
     refine (eG _ _ _ _ HD.o).mono ?_
     rintro e w1 ⟨rfl,rfl⟩
     rw[ho']
     go_wp2_with fail
     refine (nG _ _ _ _ _ HD.o).mono ?_
     rintro e w1 ⟨rfl,rfl⟩
     rw[hh]
     go_wp2_with fail
     refine jO.o.mono ?_
     rintro e w1 ⟨rfl,h1,h2⟩
     have H12:=aa (And.intro h1 h2)
     clear h1 h2
     go_wp2
     go_ret
     exact⟨rfl,_,H12.o⟩
    ·have HR:d.write i s.data.toList=(0,{d.gO with loose:=d.loose++[(i.toNat,Dk.full s.data.toList)]}):=by
      unfold Dk.b9.write;rw[if_neg ho,hh,hsz,if_neg (by decide),if_neg (by omega),if_neg hf]
     have hst:=fun w' (hw:w'=w)=>pO w' F g d (hw▸hd)
     rw[if_neg hf,show decide (d.fuel≠0)=true by simp[hf]] at hst
     have jO:=aa (hst w rfl)
     rw[HR]
     obtain⟨k,rfl⟩:∃k:Nat,i=k:=⟨i.toNat,by omega⟩
     clear HR hd hst
     obtain⟨Z,hZ⟩:∃Z,Z=iO.toArray:=⟨_,rfl⟩
     have hz:=fun w=>pP w
     rw[←hZ] at hz
     have hzs:Z.size=512:=by rw[hZ];rfl
     have Wa:¬Z=#[]:=by intro e;rw[e] at hzs;cases hzs
     have HZ:=aa hZ
     clear hZ
     go_enter Tryz.func98,Tryz.ntmps98
     go_wp2_with fail
     refine (eG _ _ _ _ HD.o).mono ?_
     rintro e w1 ⟨rfl,rfl⟩
     rw[ho']
     go_wp2_with fail
     refine (nG _ _ _ _ _ HD.o).mono ?_
     rintro e w1 ⟨rfl,rfl⟩
     rw[hh]
     go_wp2_with fail
     refine jO.o.mono ?_
     rintro e w1 ⟨rfl,h1,h2⟩
     have HM:=aa h2
     clear h2
     obtain⟨f,cf,l,cl,vo,n,pf,pl,ws,T,k1,k2,k3,k4,kp,k5,k6,k6',k7,k8,k9,k10,k11,k12,k13,k14⟩:=h1
     have xj:=oC (w1.alloc (.cells Z 140)) w1.heap.size
     go_wp2_with (refine mE rfl _ _ 94 9 rfl 5 (by kernel_rfl) (by kernel_rfl) w1.heap.size 512 512 s rfl rfl Z 140 (heap_alloc_new w1 _) hs (by omega) ?_;refine Hid.o ?_)
     refine aa ?_
     obtain⟨c,hc⟩:∃c,w1.heap.size=c:=⟨_,rfl⟩
     rw[hc]
     obtain⟨W,hW⟩:∃W,W=(w1.alloc (.cells Z 140)).setRow c (strCells s++Z.toList.drop s.size).toArray:=⟨_,rfl⟩
     rw[←hW]
     have bF:aE (· =c) w1 (w1.alloc (.cells Z 140)):=(aE.refl _ w1).alloc _
     have hbW:aE (· =c) w1 W:=by rw[hW];exact bF.setRow c _ (fun _=>rfl)
     have Oy:aS W c 140 ((Dk.full s.data.toList).map bL):=by
      rw[←tO s,hW]
      have:=setRow_heap (w1.alloc (.cells Z 140)) c Z (strCells s++Z.toList.drop s.size).toArray 140 (0,0) (by rw[←hc];exact heap_alloc_new w1 _)
      rw[HZ.o] at this ⊢
      exact this
     have hlt:=fun k hk=>k14 k hk
     rw[hc] at hlt
     have kW:=k1.but hbW (fun e=>by have:=hlt _ k10;omega) (fun e=>by have:=hlt _ k11;omega) (fun e=>by have:=hlt _ k12;omega) (fun k hk e=>by have:=hlt _ (k13 k hk);omega)
     have tW:=k2.but hbW (fun x hx e=>by have:=hlt _ (k2 x hx).2.1;omega)
     clear hW bF k1 k2 xj
     have HF:d.fB.length=pf.length:=by rw[show d.fB=d.gO.fB from rfl,k3,aM]
     have HP:pl.length=pf.length:=by
      have:=congrArg List.length kp
      rw[aM,Dk.b9.now,Dk.gI,k3,aM] at this
      exact this.symm
     have Wb:k<pl.length:=by omega
     have s9:(k:Int)<pl.length:=by omega
     have c1:W.cell? ⟨g,1,none⟩=some (.slice (some ⟨l,0,none⟩) pl.length cl):=kW.blk.cell rfl
     have clk:W.cell? ⟨l,k,none⟩=some (ptr pl[k]):=by
      have:=Own.lies kW.ol k (ptr pl[k]) (by rw[show cZ.cells pl=pl.map ptr from cM _ _ _,cJ,aJ Wb];rfl)
      rwa [bV] at this
     have flk:W.frozen? ⟨l,k,none⟩=false:=Own.frozen kW.ol k
     unfold ptr at clk
     have kV:=kW.Fz k c
     have Eu:aE (· =l) W (W.setCell ⟨l,k,none⟩ (ptr c)):=(aE.refl _ W).setCell _ _ (fun _=>rfl)
     unfold ptr at kV Eu
     have c2:(W.setCell ⟨l,k,none⟩ (.pointer (some ⟨c,0,none⟩))).cell? ⟨g,2,none⟩=some vo:=kV.blk.cell rfl
     have hws:ws.length≤900000000:=by rw[show d.gO.loose=d.loose from rfl] at k4;rw[k4,aM] at hn;exact hn
     have Zl:=aa (And.intro hbW (And.intro Oy (And.intro tW (And.intro kW (And.intro kV (And.intro Eu (And.intro hlt (And.intro k9 (And.intro k13 (And.intro k14 (And.intro k3 (And.intro k4 (And.intro k5 (And.intro kp HP))))))))))))))
     clear hbW Oy tW kW kV Eu hlt k9 k13 k14 k3 k4 k5 kp HF HP
     unfold ptr
     go_wp2_with (at_builtin;refine Hid.o ?_)
     refine aa ?_
     obtain⟨hbW,Oy,tW,kW,kV,Eu,hlt,k9,k13,k14,k3,k4,k5,kp,HP⟩:=Zl.o
     clear Zl
     obtain⟨V,hV⟩:∃V,V=W.setCell ⟨l,k,none⟩ (.pointer (some ⟨c,0,none⟩)):=⟨_,rfl⟩
     rw[←hV] at kV Eu ⊢
     have Zm:W.heap.size=V.heap.size:=by rw[hV];simp[World.setCell]
     refine eS VZ rfl _ _ rfl rfl (kV.oo.alloc _) (aC _) W.heap.size 0 1 1 [(k,c)] rfl rfl (by rw[Zm];exact Ma V k c) (by omega) ?_
     intro v' w4 fW j6 wB
     obtain⟨a',cp',Mc,_⟩:=Own.slice fW
     generalize (ws++[(k,c)]).length=N' at Mc
     subst Mc
     obtain⟨v',Mc⟩:∃v',v'=Value.slice a' N' cp':=⟨_,rfl⟩
     rw[←Mc] at fW wB
     change (V.alloc (.cells #[.int .i64 k,ptr c] 190)).grownBy w4 vo.ownBlock at j6
     change v'.ownBlock=vo.ownBlock∨_ at wB
     have k4':=(kV.alloc (.cells #[.int .i64 k,ptr c] 190)).Cw j6 v' _ fW
     have Ox:aE (fun x=>vo.ownBlock=some x) (V.alloc (.cells #[.int .i64 k,ptr c] 190)) w4:=⟨j6.os,j6.tape,j6.output,j6.size,fun x hx hn=>j6.block x hx (fun e=>hn e.symm)⟩
     have b4:=(kV.alloc (.cells #[.int .i64 k,ptr c] 190)).blk.but Ox kV.og
     have c2':w4.cell? ⟨g,2,none⟩=some vo:=b4.cell rfl
     have f2':w4.frozen? ⟨g,2,none⟩=false:=b4.frozen 2
     have dX:aE (fun x=>x=g∨x=l∨vo.ownBlock=some x) W (w4.setCell ⟨g,2,none⟩ v'):=
      (((Eu.mono (T:=fun x=>x=g∨x=l∨vo.ownBlock=some x) (fun x _ e=>.inr (.inl e))).alloc (.cells #[.int .i64 k,ptr c] 190)).trans Ox (fun x _ e=>.inr (.inr e))).setCell ⟨g,2,none⟩ v' (fun _=>.inl rfl)
     have H:=aa (nZ.wrote (d:=d.gO) (t:=Dk.full s.data.toList) hbW hc Oy (Dk.eR _ (by omega)) tW kW k4' dX (fun x hx=>by
      rcases wB with e|e
      ·grind
      ·have h1:=e x hx
       have h2:=hbW.size
       have h3:=Eu.size
       simp at h1
       exact .inr (by omega)) k3 k4 kp k5 k6 k6' k7 k8 k9 k10 k11 k12 k13 k14 (by omega) HP)
     rw[Mc] at H
     clear Mc
     clear hbW Oy tW kW kV Eu hlt k9 k13 k14 k3 k4 k5 kp HP hV Zm fW j6 wB k4' Ox b4 dX
     go_wp2
     go_ret
     obtain⟨F',h1,h2⟩:=H.o
     exact⟨rfl,F',h1,HM.o.trans h2⟩
   ·have xk:(s.size:Int)>512:=by omega
    have HR:d.write i s.data.toList=(5,d):=by
     unfold Dk.b9.write;rw[if_neg ho,hh,hsz,if_neg (by decide),if_pos (by omega)]
    rw[HR]
    clear HR hd
    go_enter Tryz.func98,Tryz.ntmps98
    go_wp2_with fail
    refine (eG _ _ _ _ HD.o).mono ?_
    rintro e w1 ⟨rfl,rfl⟩
    rw[ho']
    go_wp2_with fail
    refine (nG _ _ _ _ _ HD.o).mono ?_
    rintro e w1 ⟨rfl,rfl⟩
    rw[hh]
    go_wp2
    go_ret
    exact⟨rfl,_,HD.o,bS.refl _ _⟩
  ·have Ow:d.has i=false:=by simpa using hh
   have HR:d.write i s.data.toList=(2,d):=by unfold Dk.b9.write;rw[if_neg ho,Ow,if_pos (by decide)]
   rw[HR]
   clear HR hd
   go_enter Tryz.func98,Tryz.ntmps98
   go_wp2_with fail
   refine (eG _ _ _ _ HD.o).mono ?_
   rintro e w1 ⟨rfl,rfl⟩
   rw[ho']
   go_wp2_with fail
   refine (nG _ _ _ _ _ HD.o).mono ?_
   rintro e w1 ⟨rfl,rfl⟩
   rw[Ow]
   go_wp2
   go_ret
   exact⟨rfl,_,HD.o,bS.refl _ _⟩
theorem FB (w:World) (n:Nat) (hn:n≤1000000):(Instr.makeSlice 98 (.int .i64 n) (.int .i64 n)).run Tryz.prog w=.ok (.slice (some ⟨w.heap.size,0,none⟩) n n) (w.alloc (.cells (bg n (.pointer none)).toArray 138)):=by
 obtain⟨i,hi,hz,hs,hb⟩:=jZ (P:=Tryz.prog) (E:=138) (size:=1) (bytes:=8) (z:=.pointer none) (by kernel_rfl)
 have:=run_make (P:=Tryz.prog) w 98 138 i (.pointer none) Tryz.underlying98 hi hz .i64 .i64 n n (by omega) (by omega) (by rw[hb];omega) (by omega)
 rw[this,hs,cX,Nat.mul_one,show (Value.pointer none).cells=#[.pointer none] from rfl,tL]
theorem tP {w:World} {r n:Nat} {l:List Nat} (hb:aS w r 138 (l.map ptr)) (hn:l.length=n) (hm:n≤1000000):Own cZ 138 0 w (.slice (some ⟨r,0,none⟩) n n) l:=by
 have e:cZ.cells l=l.map ptr:=cM _ _ _
 refine⟨by rw[e,aM];exact (Nat.mul_one _).symm,.inr ⟨r,n,(l.map ptr).toArray,by rw[hn],aC _,hb,by omega,by unfold maxLen;omega, ?_, ?_⟩⟩
 ·rw[List.size_toArray,aM,hn];exact (Nat.mul_one _).symm
 ·rw[e]
  exact bZ (by rw[aM];exact Nat.le_of_eq (Nat.mul_one _).symm)
theorem IW (k n:Nat) (a b:Value) (hk:k<n):(bg k a++bg (n-k) b).set k a=bg (k+1) a++bg (n-(k+1)) b:=by
 rw[List.set_append_right _ _ (by simp)]
 obtain⟨m,hm⟩:∃m,n-k=m+1:=⟨n-k-1,by omega⟩
 rw[hm,show n-(k+1)=m by omega,dM,Nat.sub_self,List.replicate_succ,au,List.replicate_succ']
 simp
theorem xl (n:Nat) (w:World) (hn:n≤65536):
  Calls Tryz.prog 39 #[.int .i64 n] w fun e w'=>∃r c,e=.returned (.slice (some ⟨r,0,none⟩) n n)∧aS w' r 138 ((bg n c).map ptr)∧aS w' c 140 ((Dk.full []).map bL)∧w.heap.size≤r∧w.heap.size≤c∧Below w.heap.size w w':=by
 obtain⟨Z,hZ⟩:∃Z,Z=iO.toArray:=⟨_,rfl⟩
 have hz:=fun w=>pP w
 rw[←hZ] at hz
 have hzs:Z.size=512:=by rw[hZ];rfl
 have Wa:¬Z=#[]:=by intro e;rw[e] at hzs;cases hzs
 have HZ:=aa hZ
 clear hZ
 obtain⟨R,hR⟩:∃R,R=(bg n (Value.pointer none)).toArray:=⟨_,rfl⟩
 have hmk:=fun w=>FB w n (by omega)
 rw[←hR] at hmk
 obtain⟨c,hc⟩:∃c,w.heap.size=c:=⟨_,rfl⟩
 have hw1:(w.alloc (.cells Z 140)).heap.size=c+1:=by simp[hc]
 obtain⟨W,hW⟩:∃W,W=(w.alloc (.cells Z 140)).alloc (.cells R 138):=⟨_,rfl⟩
 have Wd:=hmk (w.alloc (.cells Z 140))
 rw[hw1,←hW] at Wd
 have HB:Hid (aS W (c+1) 138 (bg n (.pointer none))∧aS W c 140 ((Dk.full []).map bL)∧Below c w W):=by
  refine aa ⟨?_, ?_, ?_⟩
  ·have:=aS.new (w.alloc (.cells Z 140)) R 138
   rw[hw1,←hW,hR] at this
   exact this
  ·have:=(aS.new w Z 140).alloc (.cells R 138)
   rw[hc,←hW,HZ.o] at this
   exact this
  ·rw[hW];exact ((Below.refl _ _).alloc (Nat.le_of_eq hc.symm) _).alloc (by rw[hw1];omega) _
 have HR:=aa hR
 clear hR hmk hW hw1
 go_enter Tryz.func39,Tryz.ntmps39
 rw[hc]
 go_wp2
 go_loopw [12] (fun i wr=>∃k:Nat,k≤n∧i=.int .i64 k∧aS wr (c+1) 138 (bg k (ptr c)++bg (n-k) (.pointer none))∧aS wr c 140 ((Dk.full []).map bL)∧Below c w wr) (fun i _=>n-(RowKit.intOf i).toNat)
 case atStart=>exact⟨0,aC _,rfl,HB.o.1,HB.o.2.1,HB.o.2.2⟩
 case round=>
  obtain⟨k,hk,rfl,hb,aP,td⟩:=hrel
  by_cases hlt:k<n
  ·have hI:(k:Int)<n:=by omega
   have hcell:wr.cell? ⟨c+1,k,none⟩=some (.pointer none):=hb.cell (by rw[gN (by simp),dM,Nat.sub_self,mQ,if_pos (by omega)])
   have hfr:wr.frozen? ⟨c+1,k,none⟩=false:=hb.frozen k
   have HH:=aa (And.intro hb (And.intro aP td))
   clear hb aP td
   go_wp2
   go_roundw
   case rel=>
    obtain⟨hb,aP,td⟩:=HH.o
    refine⟨k+1,by omega,by go_num, ?_, ?_, ?_⟩
    ·rw[←IW k n _ _ hlt];exact hb.set k (ptr c)
    ·exact aP.other _ _ (by simp)
    ·exact td.setCell (by simp) _
   case measure=>simp[RowKit.intOf];omega
  ·have yB:k=n:=by omega
   subst yB
   have HH:=aa (And.intro hb (And.intro aP td))
   clear hb aP td
   go_wp2
   go_ret
   obtain⟨hb,aP,td⟩:=HH.o
   refine⟨c+1,c,rfl, ?_,aP,by omega,by omega,td⟩
   rw[List.map_replicate]
   simpa using hb
theorem Md {W:World} {F:Nat→Prop} {n r1 r2 c1 c2 g:Nat} (h1:1≤n) (h2:n≤65536)
  (hg:aS W g 102 [.slice (some ⟨r1,0,none⟩) n n,.slice (some ⟨r2,0,none⟩) n n,.slice none 0 0,.int .i64 (-1),.bool false])
  (b1:aS W r1 138 ((bg n c1).map ptr)) (b2:aS W r2 138 ((bg n c2).map ptr)) (hr:r1≠r2)
  (t1:aS W c1 140 ((Dk.full []).map bL)) (t2:aS W c2 140 ((Dk.full []).map bL)) (hF:∀k,F k→k<W.heap.size) (f1:F g) (f2:F r1) (f3:F r2) (f4:F c1) (f5:F c2):nZ W F g (Dk.fresh n):=by
 have e1:(bg n c1).length=n:=dM
 have e2:(bg n c2).length=n:=dM
 refine⟨r1,n,r2,n,.slice none 0 0,-1,bg n c1,bg n c2,[],fun _=>Dk.full [],⟨?_, ?_, ?_,Own.nil _ _ _ _,hr⟩, ?_, ?_,rfl, ?_,rfl,by decide,by decide,by rw[e1];exact h1,by rw[e1];exact h2, ?_,f1,f2,f3, ?_,hF⟩
 ·rw[e1,e2];exact hg
 ·rw[e1];exact tP b1 e1 (by omega)
 ·rw[e2];exact tP b2 e2 (by omega)
 ·intro x hx
  simp only[List.map_nil,bh,ah,List.mem_replicate] at hx
  rcases hx with⟨_,rfl⟩|⟨_,rfl⟩
  ·exact⟨t1,f4,Dk.eR [] (by decide)⟩
  ·exact⟨t2,f5,Dk.eR [] (by decide)⟩
 ·rw[List.map_replicate];rfl
 ·rw[List.map_replicate];rfl
 ·intro x hx;cases hx
 ·intro k hk;simp[Value.ownBlock] at hk
theorem Me (n:Nat) (w:World) (h1:1≤n) (h2:n≤65536):
  Calls Tryz.prog 25 #[.int .i64 n] w fun e w'=>∃g F,e=.returned (.tuple #[ptr g,.int .i64 0])∧nZ w' F g (Dk.fresh n)∧(∀k,F k→w.heap.size≤k)∧Below w.heap.size w w':=by
 have Oz:¬(n:Int)<1:=by omega
 have RU:¬(n:Int)>65536:=by omega
 go_enter Tryz.func25,Tryz.ntmps25
 go_wp2_with fail
 refine (xl n w h2).mono ?_
 rintro e w1 ⟨r1,c1,rfl,b1,t1,l1,m1,We⟩
 go_wp2_with fail
 refine (xl n w1 h2).mono ?_
 rintro e w2 ⟨r2,c2,rfl,b2,t2,l2,m2,RX⟩
 have hs1:=We.size
 have kN:=RX.size
 have lS:=b1.lt
 have jS:=b2.lt
 have hc1:=t1.lt
 have hc2:=t2.lt
 have b1':=b1.below RX lS
 have t1':=t1.below RX hc1
 have HN:=aa (Md (F:=fun k=>w.heap.size≤k∧k<w2.heap.size+1) h1 h2 (aS.new w2 _ _) (b1'.alloc _) (b2.alloc _) (by omega) (t1'.alloc _) (t2.alloc _) (fun k hk=>by simp;exact hk.2) ⟨by omega,by omega⟩ ⟨by omega,by omega⟩ ⟨by omega,by omega⟩ ⟨by omega,by omega⟩ ⟨by omega,by omega⟩)
 have td:=(We.trans (RX.mono hs1)).alloc (by omega) (.cells #[.slice (some ⟨r1,0,none⟩) n n,.slice (some ⟨r2,0,none⟩) n n,.slice none 0 0,.int .i64 (-1),.bool false] 102)
 have HB:=aa td
 clear b1 b2 t1 t2 b1' t1' We RX td
 go_wp2
 go_ret2
 exact⟨_,_,rfl,HN.o,fun k hk=>hk.1,HB.o⟩
theorem Own.Wf {w:World} {o n co:Nat} {ws:List (Nat×Nat)} (h:Own oM 190 0 w (.slice (some ⟨o,0,none⟩) n co) ws) (k:Nat) (hk:k<ws.length):
  w.cell? ⟨o,k*2,none⟩=some (.int .i64 (ws[k]).1)∧w.cell? ⟨o,k*2+1,none⟩=some (ptr (ws[k]).2):=by
 have h0:=(Own.lies h).at k 0 (by decide) hk _ rfl
 have h1:=(Own.lies h).at k 1 (by decide) hk _ rfl
 rw[bV] at h0 h1
 exact⟨h0,h1⟩
theorem Own.RY {w:World} {f n cf:Nat} {pf:List Nat} (h:Own cZ 138 0 w (.slice (some ⟨f,0,none⟩) n cf) pf) (j:Nat) (hj:j<pf.length):w.cell? ⟨f,j,none⟩=some (ptr pf[j]):=by
 have:=Own.lies h j (ptr pf[j]) (by rw[show cZ.cells pf=pf.map ptr from cM _ _ _,cJ,aJ hj];rfl)
 rwa [bV] at this
theorem Own.Mf {w:World} {f n cf:Nat} {pf:List Nat} (h:Own cZ 138 0 w (.slice (some ⟨f,0,none⟩) n cf) pf) (j:Nat) (hj:j<pf.length):∃y,w.cell? ⟨f,j,none⟩=some (.pointer (some ⟨y,0,none⟩)):=⟨_,h.RY j hj⟩
theorem Own.IX {α:Type} {K:Elem α} {E:TypeId} {B:Nat} {w:World} {v:Value} {l:List α} (h:Own K E B w v l):l.length≤9223372036854775807:=by
 rcases h.2 with⟨_,e⟩|⟨_,_,_,_,_,_,hc,hm,_⟩
 ·omega
 ·unfold maxLen at hm;omega
theorem FC (w:World) (F:Nat→Prop) (g:Nat) (d:Dk.b9) (hd:nZ w F g d):
  Calls Tryz.prog 69 #[ptr g] w fun e w'=>e=.returned (.int .i64 d.flush.1)∧nZ w' F g d.flush.2∧bS F w F w':=by
 have HD:=aa hd
 by_cases ho:d.off=true
 ·have HR:d.flush=(3,d):=by unfold Dk.b9.flush;rw[if_pos ho]
  rw[HR]
  clear HR hd
  go_enter Tryz.func69,Tryz.ntmps69
  go_wp2_with fail
  refine (eG _ _ _ _ HD.o).mono ?_
  rintro e w1 ⟨rfl,rfl⟩
  rw[ho]
  go_wp2
  go_ret
  exact⟨rfl,HD.o,bS.refl _ _⟩
 ·have ho':d.off=false:=by simpa using ho
  by_cases hf:d.fuel=0
  ·have HR:d.flush=(3,d.dead):=by unfold Dk.b9.flush;rw[if_neg ho,if_pos hf]
   have hst:=fun w' (hw:w'=w)=>pO w' F g d (hw▸hd)
   rw[if_pos hf,show decide (d.fuel≠0)=false by simp[hf]] at hst
   have jO:=aa (hst w rfl)
   rw[HR]
   clear HR hd hst
   go_enter Tryz.func69,Tryz.ntmps69
   go_wp2_with fail
   refine (eG _ _ _ _ HD.o).mono ?_
   rintro e w1 ⟨rfl,rfl⟩
   rw[ho']
   go_wp2_with fail
   refine jO.o.mono ?_
   rintro e w1 ⟨rfl,h1,h2⟩
   have H12:=aa (And.intro h1 h2)
   clear h1 h2
   go_wp2
   go_ret
   exact⟨rfl,H12.o⟩
  ·have HR:d.flush=(0,{d.gO with fB:=d.now,loose:=[]}):=by unfold Dk.b9.flush;rw[if_neg ho,if_neg hf]
   have hst:=fun w' (hw:w'=w)=>pO w' F g d (hw▸hd)
   rw[if_neg hf,show decide (d.fuel≠0)=true by simp[hf]] at hst
   have jO:=aa (hst w rfl)
   rw[HR]
   clear HR hd hst
   go_enter Tryz.func69,Tryz.ntmps69
   go_wp2_with fail
   refine (eG _ _ _ _ HD.o).mono ?_
   rintro e w1 ⟨rfl,rfl⟩
   rw[ho']
   go_wp2_with fail
   refine jO.o.mono ?_
   rintro e w1 ⟨rfl,h1,h2⟩
   have HM:=aa h2
   clear h2
   obtain⟨f,cf,l,cl,vo,n,pf,pl,ws,T,k1,k2,k3,k4,kp,k5,k6,k6',k7,k8,k9,k10,k11,k12,k13,k14⟩:=h1
   have c2:w1.cell? ⟨g,2,none⟩=some vo:=k1.blk.cell rfl
   obtain⟨a,co,rfl,Va⟩:=Own.slice k1.oo
   have Wg:=Own.IX k1.oo
   have HK:=aa (And.intro k2 (And.intro k3 (And.intro k4 (And.intro kp (And.intro k5 (And.intro k13 k14))))))
   have H1:=aa k1
   have H9:=aa k9
   clear k1 k2 k3 k4 kp k5 k13 k14 k9
   unfold ptr
   go_wp2
   go_loopw [17] (fun i wr=>∃k:Nat,k≤ws.length∧i=.int .i64 k∧eu wr g f cf l cl (.slice a ws.length co) n d.gO.off (Dk.fu pf (ws.take k)) pl ws∧aE (· =f) w1 wr) (fun i _=>ws.length-(RowKit.intOf i).toNat)
   case atStart=>exact⟨0,aC _,rfl,H1.o,aE.refl _ _⟩
   case round=>
    obtain⟨k,hk,rfl,hs,hb⟩:=hrel
    by_cases hlt:k<ws.length
    ·have hI:(k:Int)<ws.length:=by omega
     obtain⟨o,co',e1,_,_,_⟩:=Own.form hs.oo (by omega)
     injection e1 with e1 _ e3
     subst e1 e3
     obtain⟨ca,cb⟩:=Own.Wf hs.oo k hlt
     have hps:(Dk.fu pf (ws.take k)).length=pf.length:=Dk.gI _ _
     have hat:=H9.o ws[k] (bB hlt)
     have c0:wr.cell? ⟨g,0,none⟩=some (.slice (some ⟨f,0,none⟩) (Dk.fu pf (ws.take k)).length cf):=hs.blk.cell rfl
     have hfl:(ws[k]).1<(Dk.fu pf (ws.take k)).length:=by omega
     obtain⟨y,Vb⟩:=hs.of.Mf (ws[k]).1 hfl
     have Wh:wr.frozen? ⟨f,(ws[k]).1,none⟩=false:=Own.frozen hs.of _
     rw[hps] at c0
     have HH:=aa (And.intro hs hb)
     have HX:=aa (Dk.Fy pf ws k hlt)
     clear hs hb hps hfl
     generalize ws[k]=x at*
     obtain⟨at',c⟩:=x
     have aaf:(at':Int)<pf.length:=by have:=hat;simp only at this;omega
     simp only at ca cb Vb Wh
     unfold ptr at cb
     go_wp2
     obtain⟨q,hq⟩:∃q,wr.heap.size=q:=⟨_,rfl⟩
     rw[hq]
     obtain⟨V,hV⟩:∃V,V=wr.alloc (.cells #[.int .i64 at',.pointer (some ⟨c,0,none⟩)] 190):=⟨_,rfl⟩
     rw[←hV]
     have Eu:aE (fun _=>False) wr V:=by rw[hV];exact (aE.refl _ _).alloc _
     have bq:aS V q 190 [.int .i64 at',.pointer (some ⟨c,0,none⟩)]:=by rw[hV,←hq];exact aS.new wr _ _
     have c0':V.cell? ⟨g,0,none⟩=some (.slice (some ⟨f,0,none⟩) pf.length cf):=Eu.cell c0 id
     have Pr:V.cell? ⟨f,at',none⟩=some (.pointer (some ⟨y,0,none⟩)):=Eu.cell Vb id
     have RZ:V.frozen? ⟨f,at',none⟩=false:=(Eu.frozen (bt _ _ Vb) id).trans Wh
     have q0:V.cell? ⟨q,0,none⟩=some (.int .i64 at'):=bq.cell rfl
     have q1:V.cell? ⟨q,1,none⟩=some (.pointer (some ⟨c,0,none⟩)):=bq.cell rfl
     have Zo:=aa Eu
     clear hV Eu bq c0 Vb Wh ca cb hq
     go_still_tail 9,(by kernel_rfl)
     change wpList _ _ _ _ _ V.drew
     obtain⟨U,hU⟩:∃U,U=V.drew:=⟨_,rfl⟩
     rw[←hU]
     have Vc:aE (fun _=>False) V U:=by rw[hU];exact (aE.refl _ _).drew
     have cfu:U.cell? ⟨f,at',none⟩=some (.pointer (some ⟨y,0,none⟩)):=Vc.cell Pr id
     have ffu:U.frozen? ⟨f,at',none⟩=false:=(Vc.frozen (bt _ _ Pr) id).trans RZ
     have Zp:=aa (Zo.o.trans Vc (fun _ _ h=>h))
     clear hU Vc c0' Pr RZ q0 q1 Zo
     go_wp2
     go_roundw
     case rel=>
      refine⟨k+1,by omega,by go_num, ?_, ?_⟩
      ·rw[HX.o]
       exact (HH.o.1.but Zp.o id id id (fun _ _=>id)).L_ at' c
      ·exact (HH.o.2.trans Zp.o (fun _ _ h=>h.elim)).setCell ⟨f,at',none⟩ _ (fun _=>rfl)
     case measure=>simp[RowKit.intOf];omega
    ·have yB:k=ws.length:=by omega
     subst yB
     rw[List.take_length] at hs
     have b2:wr.cell? ⟨g,2,none⟩=some (.slice a ws.length co):=hs.blk.cell rfl
     have f2:wr.frozen? ⟨g,2,none⟩=false:=hs.blk.frozen 2
     have hps:(Dk.fu pf ws).length=pf.length:=Dk.gI _ _
     have HH:=aa (show nZ (wr.setCell ⟨g,2,none⟩ (.slice none 0 0)) F g {d.gO with fB:=d.now,loose:=[]}∧bS F w1 F (wr.setCell ⟨g,2,none⟩ (.slice none 0 0)) by
      obtain⟨k2,k3,k4,kp,k5,k13,k14⟩:=HK.o
      have Ox:aE (fun x=>x=f∨x=g) w1 (wr.setCell ⟨g,2,none⟩ (.slice none 0 0)):=(hb.mono (fun x _ e=>.inl e)).setCell _ _ (fun _=>.inr rfl)
      have hs':=hs.IU (.slice none 0 0) [] (Own.nil _ _ _ _)
      refine⟨⟨f,cf,l,cl,_,n,Dk.fu pf ws,pl,[],T,hs', ?_, ?_,rfl, ?_,k5,k6,k6',by omega,by omega, ?_,k10,k11,k12, ?_,fun x hx=>cW (k14 x hx) Ox.size⟩,Ox.mono (fun x _ e=>by rcases e with rfl|rfl;exact k11;exact k10),fun x hx=>.inl hx⟩
      ·intro x hx
       have hx':x∈pf++(pl++ws.map (·.2)):=by
        simp only[List.map_nil,bh,ah] at hx ⊢
        rcases hx with hx|hx
        ·rcases Dk.IP ws pf _ hx with h|⟨j,h⟩
         ·exact .inl h
         ·grind
        ·exact .inr (.inl hx)
       obtain⟨h1,h2,h3⟩:=k2 x hx'
       refine⟨h1.but Ox ?_,h2,h3⟩
       rintro (e|e)
       ·exact H1.o.of.cY h1 (by decide) (by rw[e];rfl)
       ·exact h1.ne H1.o.blk (by decide) e
      ·show d.now=_
       rw[Dk.IM,←k3,←k4];rfl
      ·show Dk.fu d.now []=_
       exact kp
      ·intro x hx;cases hx
      ·intro x hx;simp[Value.ownBlock] at hx)
     clear hs hb HK hps
     go_wp2
     go_ret
     exact⟨rfl,HH.o.1,HM.o.trans HH.o.2⟩
end
namespace Wl
abbrev Text:=List UInt8
def enc:Nat→Nat→Text
 |0,_=>[]
 |w+1,n=>enc w (n/256)++[aY n]
def dec (l:Text):Nat:=l.foldl (fun a b=>a*256+b.toNat) 0
theorem cv:∀w n,(enc w n).length=w
 |0,_=>rfl
 |w+1,n=>by rw[enc,aq,cv w];rfl
theorem lT (l:Text) (b:UInt8):dec (l++[b])=dec l*256+b.toNat:=by unfold dec;rw[List.foldl_append];rfl
theorem pQ:∀w n,n<256^w→dec (enc w n)=n
 |0,n,h=>by simp at h;subst h;rfl
 |w+1,n,h=>by
  rw[enc,lT,pQ w (n/256) (Nat.div_lt_of_lt_mul (by rw[Nat.mul_comm,←Nat.pow_succ];exact h)),dY]
  omega
theorem mR (l:Text):dec l<256^l.length:=by
 induction h:l.length generalizing l with
 |zero=>rw[ef.1 h];decide
 |succ n ih=>
  rcases List.eq_nil_or_concat l with rfl|⟨m,b,rfl⟩
  ·cases h
  ·rw[List.concat_eq_append,aq] at h
   have:=ih m (by simpa using h)
   have hb:=b.toNat_lt
   rw[List.concat_eq_append,lT,Nat.pow_succ]
   have:dec m*256+256≤256^n*256:=by
    omega
   omega
def title:Text:=[99,111,111,112,101,114,97,103,101,32,108,111,103,10]
def first (size ring at_ num:Nat):Text:=title++(enc 8 size++(enc 8 ring++(enc 8 at_++enc 8 num)))
def head (num n:Nat):Text:=104::(enc 8 num++enc 4 n)
def sizeOf (n:Nat):Nat:=1+(516*n+510)/511
theorem pR (size ring at_ num:Nat):(first size ring at_ num).length=46:=by simp[first,cv,title]
def blank (s:Text):Bool:=s.all (· ==0)
def holds (s t:Text):Bool:=t.isPrefixOf s&&blank (s.drop t.length)
def IY (s:Text) (ring:Nat):Nat×Nat×Bool:=
 if dec ((s.drop 1).take 8)=0∨dec ((s.drop 9).take 4)=0∨ring<dec ((s.drop 9).take 4)∨ring<sizeOf (dec ((s.drop 9).take 4)) then (0,0,false)
 else (dec ((s.drop 1).take 8),dec ((s.drop 9).take 4),holds s (head (dec ((s.drop 1).take 8)) (dec ((s.drop 9).take 4))))
def Pt (s:Text):Bool:=([112]:Text).isPrefixOf s
theorem mF (n:Nat):blank (bg n 0)=true:=by simp[blank]
abbrev eE:=List (Nat×Text)
def ins (k:Nat) (t:Text):eE→eE
 |[]=>[(k,t)]
 |x::m=>if k<x.1 then (k,t)::x::m else if k=x.1 then (k,t)::m else x::ins k t m
def look (k:Nat):eE→Option Text
 |[]=>none
 |x::m=>if x.1=k then some x.2 else look k m
def ck (m:eE):Prop:=m.Pairwise fun x y=>x.1<y.1
theorem dU {k:Nat}:∀{m:eE},look k m=none↔∀x∈m,x.1≠k
 |[]=>by simp[look]
 |x::m=>by
  unfold look
  split
  ·rename_i e
   simp[e]
  ·simp_all[dU]
theorem fG (k:Nat) (t:Text) (j:Nat):∀m:eE,look j (ins k t m)=if j=k then some t else look j m
 |[]=>by simp only[ins,look];split<;>split<;>simp_all
 |x::m=>by
  unfold ins
  split
  ·grind [look]
  ·split
   ·grind [look]
   ·rename_i h1 h2
    simp only[look,fG k t j m]
    by_cases hj:j=k
    ·grind
    ·simp[hj]
theorem lU {k:Nat} {t:Text} {x:Nat×Text}:∀{m:eE},x∈ins k t m→x=(k,t)∨x∈m
 |[],h=>by simp only[ins,cH] at h;exact .inl h
 |y::m,h=>by
  unfold ins at h
  split at h
  ·grind
  ·split at h
   ·grind
   ·rcases aQ.1 h with h|h
    ·grind
    ·rcases lU h with h|h
     ·exact .inl h
     ·grind
theorem fH (k:Nat) (t:Text):∀{m:eE},ck m→ck (ins k t m)
 |[],_=>by simp[ins,ck]
 |y::m,h=>by
  obtain⟨h1,h2⟩:=cw.1 h
  unfold ins
  split
  ·rename_i hk
   refine cw.2 ⟨fun z hz=> ?_,h⟩
   rcases aQ.1 hz with rfl|hz
   ·exact hk
   ·grind
  ·split
   ·rename_i _ hk
    exact cw.2 ⟨fun z hz=>by have:=h1 z hz;simp only;omega,h2⟩
   ·refine cw.2 ⟨fun z hz=> ?_,fH k t h2⟩
    rcases lU hz with rfl|hz
    ·simp only;omega
    ·exact h1 z hz
theorem ext:∀{m n:eE},ck m→ck n→(∀k,look k m=look k n)→m=n
 |[],[],_,_,_=>rfl
 |[],y::n,_,_,h=>by have:=h y.1;simp[look] at this
 |x::m,[],_,_,h=>by have:=h x.1;simp[look] at this
 |x::m,y::n,hm,hn,h=>by
  obtain⟨m1,m2⟩:=cw.1 hm
  obtain⟨n1,n2⟩:=cw.1 hn
  have low:∀(z:Nat×Text) (l:eE),(∀a∈l,z.1<a.1)→∀j,j≤z.1→look j l=none:=fun z l hl j hj=>dU.2 fun a ha e=>by have:=hl a ha;omega
  have hxy:x.1=y.1:=by
   rcases Nat.lt_trichotomy x.1 y.1 with hlt|he|hlt
   ·have:=h x.1
    simp only[look] at this
    rw[if_true,if_neg (by omega),low y n n1 _ (by omega)] at this
    cases this
   ·exact he
   ·have:=h y.1
    simp only[look] at this
    rw[if_true,if_neg (by omega),low x m m1 _ (by omega)] at this
    cases this
  have hx2:x.2=y.2:=by
   have:=h x.1
   simp only[look] at this
   rw[if_true,if_pos hxy.symm] at this
   injection this
  have he:x=y:=Prod.ext hxy hx2
  subst he
  refine congrArg _ (ext m2 n2 fun k=> ?_)
  by_cases hk:k≤x.1
  ·grind
  ·have:=h k
   simp only[look] at this
   rwa [if_neg (by omega),if_neg (by omega)] at this
def merge (m g:eE):eE:=g.foldl (fun m x=>ins x.1 x.2 m) m
theorem nH {L:List Text}:∀{g:eE} (_:ck g) (j:Nat),(Dk.fu L g)[j]?=if j<L.length then (look j g).or L[j]? else none:=by
 intro g hr
 induction g generalizing L with
 |nil=>
  intro j
  rw[Dk.mO]
  split
  ·rfl
  ·grind
 |cons x g ih=>
  intro j
  obtain⟨h1,h2⟩:=cw.1 hr
  rw[Dk.nF,ih h2,bP]
  by_cases hj:j<L.length
  ·rw[if_pos hj,if_pos hj]
   simp only[look]
   by_cases hk:x.1=j
   ·subst hk
    have:look x.1 g=none:=dU.2 fun a ha e=>by have:=h1 a ha;omega
    simp[this,hj]
   ·grind
  ·grind
def pack (g:eE):Text:=g.flatMap fun x=>enc 4 x.1++x.2
def pieces (l:Text):List Text:=(List.range ((l.length+510)/511)).map fun k=>(l.drop (511*k)).take 511
def FE (g:eE):List Text:=(pieces (pack g)).map fun p=>112::p
def Fits (homes:Nat) (g:eE):Prop:=ck g∧∀x∈g,x.1<homes∧x.2.length=512
theorem IZ {homes k:Nat} {t:Text} {g:eE} (h:Fits homes g) (hk:k<homes) (ht:t.length=512):Fits homes (ins k t g):=
 ⟨fH k t h.1,fun x hx=>by
  rcases lU hx with rfl|hx
  ·exact⟨hk,ht⟩
  ·exact h.2 x hx⟩
theorem I3 (homes:Nat):Fits homes []:=⟨List.Pairwise.nil,fun x hx=>by cases hx⟩
theorem tQ {homes:Nat}:∀{g _m:eE},Fits homes _m→(∀x∈g,x.1<homes∧x.2.length=512)→Fits homes (merge _m g)
 |[],_,h,_=>h
 |x::g,_,h,hg=>tQ (g:=g) (IZ h (hg x aA).1 (hg x aA).2) fun y hy=>hg y (aF _ hy)
end Wl
end Go.Proofs.YtebbahjombdalaaGreatDoor
