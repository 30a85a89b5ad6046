/- Elder texts, cut down and merged (1). -/
import Derived.WalkKit
import Derived.ProofKit
import Derived.OpenShut
import Derived.ShutString
import Derived.Test.YtloekpcncjocaaaGreatDoorRows
import Derived.Carry
import Derived.SliceStrings
import Derived.SizedLaws
import Derived.Deep.Strs
import Derived.WalkSpells
import Derived.WalkLawsBesides
import Derived.Laws.Rows
import Derived.Test.YtloekpcncjocaaaGreatDoorChecked
import Derived.Deep.QuietTactic
import Derived.Laws.Tables
import Derived.Laws.IdiomStrings
import Derived.Laws.MakeOwn
import Derived.Lib.AppendStr
import Derived.Laws.Bits128
import Derived.BigQuiet
import Derived.Deep.RegionLaw
import Derived.BigRegion
import Derived.Lib.Hide
import Derived.Deep.DeepFit
import Derived.Deep.RegionHeld3
import Derived.Laws.CopyRow
import Derived.StillTailTactics
import Derived.Test.YtloekpcncjocaaaGreatDoorPTk
set_option maxRecDepth 100000
set_option maxHeartbeats 8000000
namespace Go.Proofs.YtloekpcncjocaaaGreatDoor
open Go.ChangeShapes Go.WideShapes Go.ChangeAt Go.RowKit
theorem own:ownKnob Tryz.prog.godebug=none:=by kernel_rfl
theorem mY {H:Type} {enc:TypeId×Value→H} {P:Program} {f:Func} {s:ChangeSpec} {apart fresh handsOn again:Bool} {W W':World} {args:Array Value} {v:Value} {ds gs:List (DataW H)} {before pa pv:List MemPlace}
  (hW:DataW.Whole enc P f.params.toList s.vars apart W args.toList ds gs before) (hb:Below W.heap.size W W') (hps:before=pa++pv)
  (hres:∀(b:Nat) (sp:Nat→Bool) (hd:Bool),DataW.TrodAll enc P W' b sp hd f.resultTypes.toList (v.resultList f.resultTypes.size) (s.fn H (ds++gs)).results [])
  (hargs:∀sp:Nat→Bool,(∀p∈before,sp p.block=true)→DataW.TrodAll enc P W' 0 sp true f.params.toList args.toList (s.fn H (ds++gs)).args pa)
  (hvars:∀sp:Nat→Bool,(∀p∈before,sp p.block=true)→DataW.TrodVars enc P W' sp s.vars (s.fn H (ds++gs)).vars pv)
  (hok:∀(j:Nat) (t:TypeId) (r:Value),f.resultTypes[j]?=some t→(v.resultList f.resultTypes.size)[j]?=some r→Value.okWide P W' .any 0 t r):
  s.post enc P f apart fresh handsOn again W args v W':=by
 have lt:∀p∈before,p.block<W.heap.size:=fun p hp=>hW.lt p hp
 have old:∀p∈before,(fun b=>decide (b<W.heap.size)) p.block=true:=fun p hp=>by simpa using hW.lt p hp
 refine⟨ds,gs,before,[],pa,pv,hW,hres _ _ _,hargs _ old,hvars _ old,World.keptBut_mono (fun p hp=>⟨hp, ?_⟩) (hb.frame (· ∈before)),fun _=> ?_⟩
 ·rw[hps,List.mem_append] at hp
  exact .inr hp
 ·obtain⟨_,_,_,_,_,hz,hn⟩:=hW
  refine⟨hok,_,_,([]++pa)++pv,⟨[]++pa,pv,trodAll_append (hargs _ (fun _ _=>rfl)) (hres _ _ _),hvars _ (fun _ _=>rfl),rfl,fun b off hp=> ?_,fun ha=> ?_⟩,fun p hp _=> ?_⟩
  ·have hin:MemPlace.cell b off∈before:=by rw[hps];simpa using hp
   have hl:b<W.heap.size:=lt _ hin
   rw[hb.frozen hl]
   exact hz b off hin
  ·have h:=hn ha
   rw[hps] at h
   simpa using h
  ·rw[hps]
   simpa using hp
end Go.Proofs.YtloekpcncjocaaaGreatDoor
namespace Go.Proofs.YtloekpcncjocaaaGreatDoor
open Go.ChangeShapes Go.WideShapes Go.ChangeAt Go.RowKit
theorem laidOut:laidOutB Tryz.prog=true:=by kernel_rfl
theorem iT {H:Type} {enc:TypeId×Value→H} {W W':World} {sp:Nat→Bool} (ts:List TypeId):
  ∀{vs:List Value} {ds:List (DataW H)} {ps:List MemPlace},(∀t∈ts,Tryz.prog.readableRec t=true∧t<Tryz.prog.types.size)→
   DataW.TrodAll enc Tryz.prog W 0 (fun _=>true) true ts vs ds ps→(∀p∈ps,W.sameAt W' p)→(∀p∈ps,sp p.block=true)→DataW.TrodAll enc Tryz.prog W' 0 sp true ts vs ds ps:=by
 induction ts with
 |nil=>
  intro vs ds ps _ h _ _
  cases vs<;>cases ds<;>first|exact h|cases h
 |cons t ts ih=>
  intro vs ds ps ht h hs hp
  cases vs with
  |nil=>cases h
  |cons v vs=>
   cases ds with
   |nil=>cases h
   |cons d ds=>
    obtain⟨p,q,h1,h2,rfl⟩:=h
    have h0:=ht t (List.mem_cons_self ..)
    exact⟨p,q,WideElems.Trod_stays laidOut h0.1 h0.2 h1 (fun x hx=>hs x (List.mem_append.2 (.inl hx))) (fun x hx=>hp x (List.mem_append.2 (.inl hx))),
     ih (fun t ht'=>ht t (List.mem_cons_of_mem _ ht')) h2 (fun x hx=>hs x (List.mem_append.2 (.inr hx))) (fun x hx=>hp x (List.mem_append.2 (.inr hx))),rfl⟩
end Go.Proofs.YtloekpcncjocaaaGreatDoor
namespace Go.Proofs.YtloekpcncjocaaaGreatDoor
open Go.RowKit
structure aj (S:Nat→Prop) (w w':World):Prop where
 os:w'.os=w.os
 tape:w'.tape=w.tape
 output:w'.output=w.output
 size:w.heap.size≤w'.heap.size
 block:∀k,k<w.heap.size→¬S k→w'.heap[k]?=w.heap[k]?
theorem aj.refl (S:Nat→Prop) (w:World):aj S w w:=⟨rfl,rfl,rfl,Nat.le_refl _,fun _ _ _=>rfl⟩
theorem aj.trans {S T:Nat→Prop} {a b c:World} (h:aj S a b) (k:aj T b c) (hT:∀i,i<a.heap.size→T i→S i):aj S a c:=
 ⟨k.os.trans h.os,k.tape.trans h.tape,k.output.trans h.output,Nat.le_trans h.size k.size,fun i hi hn=>
  (k.block i (Nat.lt_of_lt_of_le hi h.size) (fun ht=>hn (hT i hi ht))).trans (h.block i hi hn)⟩
theorem aj.mono {S T:Nat→Prop} {w w':World} (h:aj S w w') (hT:∀i,i<w.heap.size→S i→T i):aj T w w':=
 ⟨h.os,h.tape,h.output,h.size,fun k hk hn=>h.block k hk fun hs=>hn (hT k hk hs)⟩
theorem aj.alloc {S:Nat→Prop} {a w:World} (h:aj S a w) (o:Obj):aj S a (w.alloc o):=
 h.trans (T:=fun _=>False) ⟨rfl,rfl,rfl,by simp,fun k hk _=>Below.heap_alloc _ _ _ hk⟩ fun _ _ hf=>hf.elim
theorem aj.drew {S:Nat→Prop} {a w:World} (h:aj S a w):aj S a w.drew:=⟨h.os,h.tape,h.output,h.size,h.block⟩
theorem aj.drewN {S:Nat→Prop} {a w:World} (h:aj S a w) (n:Nat):aj S a (w.drewN n):=⟨h.os,h.tape,h.output,h.size,h.block⟩
theorem aj.setCell {S:Nat→Prop} {a w:World} (h:aj S a w) (p:Addr) (u:Value) (hp:p.block<a.heap.size→S p.block):aj S a (w.setCell p u):=
 h.trans (T:=fun k=>k=p.block) ⟨rfl,rfl,rfl,by simp[World.setCell],fun k _ hn=>Below.heap_setCell _ _ _ _ hn⟩ fun i hi e=>by subst e;exact hp hi
theorem aj.grown {S:Nat→Prop} {a w w':World} {row:Option Nat} (h:aj S a w) (hg:w.grownBy w' row) (hr:∀k,row=some k→k<a.heap.size→S k):aj S a w':=
 h.trans (T:=fun k=>row=some k) ⟨hg.os,hg.tape,hg.output,hg.size,fun k hk hn=>hg.block k hk (fun e=>hn e.symm)⟩ fun i hi e=>hr i e hi
theorem aj.aq {w w':World} (h:Below w.heap.size w w') (S:Nat→Prop):aj S w w':=⟨h.os,h.tape,h.output,h.size,fun k hk _=>h.block k hk⟩
theorem aj.below {S:Nat→Prop} {B:Nat} {w w':World} (h:aj S w w') (hB:B≤w.heap.size) (hS:∀k,k<B→¬S k):Below B w w':=
 ⟨h.os,h.tape,h.output,h.size,fun k hk=>h.block k (Nat.lt_of_lt_of_le hk hB) (hS k hk)⟩
theorem aj.cell {S:Nat→Prop} {w w':World} (h:aj S w w') {p:Addr} {u:Value} (hc:w.cell? p=some u) (hn:¬S p.block):w'.cell? p=some u:=
 (World.cell?_of_block (w:=w) (h.block p.block (World.block_lt_of_cell? _ _ hc) hn)).trans hc
theorem aj.frozen {S:Nat→Prop} {w w':World} (h:aj S w w') {p:Addr} (hl:p.block<w.heap.size) (hn:¬S p.block):w'.frozen? p=w.frozen? p:=
 World.frozen?_of_block (w:=w) (h.block p.block hl hn)
def aG (w:World) (g:Nat) (t:TypeId) (cs:List Value):Prop:=w.heap[g]?=some (.cells cs.toArray t (0,0))
theorem aG.lt {w:World} {g:Nat} {t:TypeId} {cs:List Value} (h:aG w g t cs):g<w.heap.size:=(Array.getElem?_eq_some_iff.1 h).1
theorem aG.cell {w:World} {g:Nat} {t:TypeId} {cs:List Value} (h:aG w g t cs) {j:Nat} {u:Value} (hu:cs[j]?=some u):w.cell? ⟨g,j,none⟩=some u:=by
 unfold aG at h;simp[World.cell?,h,hu]
theorem aG.frozen {w:World} {g:Nat} {t:TypeId} {cs:List Value} (h:aG w g t cs) (j:Nat):w.frozen? ⟨g,j,none⟩=false:=by
 unfold aG at h;simp[World.frozen?,h]
theorem aG.set {w:World} {g:Nat} {t:TypeId} {cs:List Value} (h:aG w g t cs) (j:Nat) (u:Value):aG (w.setCell ⟨g,j,none⟩ u) g t (cs.set j u):=by
 unfold aG at h ⊢
 rw[heap_setCell_same w g j _ _ _ h]
 simp
theorem aG.but {S:Nat→Prop} {w w':World} {g:Nat} {t:TypeId} {cs:List Value} (h:aG w g t cs) (hb:aj S w w') (hn:¬S g):aG w' g t cs:=by
 have:=hb.block g h.lt hn
 unfold aG at h ⊢
 rw[this];exact h
theorem aG.below {B:Nat} {w w':World} {g:Nat} {t:TypeId} {cs:List Value} (h:aG w g t cs) (hb:Below B w w') (hg:g<B):aG w' g t cs:=by
 have:=hb.block g hg
 unfold aG at h ⊢
 rw[this];exact h
theorem aG.drew {w:World} {g:Nat} {t:TypeId} {cs:List Value} (h:aG w g t cs):aG w.drew g t cs:=h
theorem aG.alloc {w:World} {g:Nat} {t:TypeId} {cs:List Value} (h:aG w g t cs) (o:Obj):aG (w.alloc o) g t cs:=by
 unfold aG
 rw[Below.heap_alloc _ _ _ h.lt];exact h
theorem aG.other {w:World} {g:Nat} {t:TypeId} {cs:List Value} (h:aG w g t cs) (p:Addr) (u:Value) (hne:g≠p.block):aG (w.setCell p u) g t cs:=by
 unfold aG
 rw[Below.heap_setCell _ _ _ _ hne];exact h
theorem aG.new (w:World) (cs:Array Value) (t:TypeId):aG (w.alloc (.cells cs t)) w.heap.size t cs.toList:=heap_alloc_new w _
structure Elem (α:Type) where
 enc:α→List Value
 size:Nat
 pos:0<size
 len:∀a,(enc a).length=size
 one:∀a,∀u∈enc a,u.oneCell'=true
namespace Elem
variable {α:Type} (K:Elem α)
def cells (l:List α):List Value:=l.flatMap K.enc
theorem u_:K.cells []=[]:=rfl
theorem cF (a:α) (l:List α):K.cells (a::l)=K.enc a++K.cells l:=by simp[cells]
theorem bh (l m:List α):K.cells (l++m)=K.cells l++K.cells m:=by simp[cells]
theorem a_ (l:List α):(K.cells l).length=l.length*K.size:=by
 induction l with
 |nil=>simp[cells]
 |cons a l ih=>rw[cF,List.length_append,ih,K.len,List.length_cons,Nat.add_mul];omega
theorem lK (l:List α):∀u∈K.cells l,u.oneCell'=true:=by
 intro u hu
 simp only[cells,List.mem_flatMap] at hu
 obtain⟨a,_,ha⟩:=hu
 exact K.one a u ha
theorem DD (l:List α):∀(j o:Nat),o<K.size→∀hj:j<l.length,(K.cells l)[j*K.size+o]?=(K.enc l[j])[o]?:=by
 induction l with
 |nil=>intro j o _ hj;cases hj
 |cons a l ih=>
  intro j o ho hj
  rw[cF]
  cases j with
  |zero=>
   rw[Nat.zero_mul,Nat.zero_add,List.getElem?_append_left (by rw[K.len];exact ho)]
   rfl
  |succ j=>
   rw[List.getElem?_append_right (by rw[K.len,Nat.add_mul];omega),K.len,show (j+1)*K.size+o-K.size=j*K.size+o by rw[Nat.add_mul];omega]
   rw[ih j o ho (by simpa using hj)]
   rfl
theorem rP (l:List α) (n:Nat):K.cells (l.take n)=(K.cells l).take (n*K.size):=by
 rcases Nat.lt_or_ge n l.length with hn|hn
 ·have e:K.cells l=K.cells (l.take n)++K.cells (l.drop n):=by rw[←bh,List.take_append_drop]
  have hl:(K.cells (l.take n)).length=n*K.size:=by rw[a_,List.length_take,Nat.min_eq_left (Nat.le_of_lt hn)]
  rw[e,←hl,List.take_left]
 ·rw[List.take_of_length_le hn,List.take_of_length_le (by rw[a_];exact Nat.mul_le_mul_right _ hn)]
theorem AW (l:List α) (n:Nat) (hn:n≤l.length):K.cells (l.drop n)=(K.cells l).drop (n*K.size):=by
 have e:K.cells l=K.cells (l.take n)++K.cells (l.drop n):=by rw[←bh,List.take_append_drop]
 have hl:(K.cells (l.take n)).length=n*K.size:=by rw[a_,List.length_take,Nat.min_eq_left hn]
 rw[e,←hl,List.drop_left]
end Elem
def lM {α:Type} (f:α→Value) (h:∀a,(f a).oneCell'=true):Elem α:=⟨fun a=>[f a],1,by decide,fun _=>rfl,fun a u hu=>by rw[List.mem_singleton.1 hu];exact h a⟩
theorem bP {α:Type} (f:α→Value) (h:∀a,(f a).oneCell'=true) (l:List α):(lM f h).cells l=l.map f:=by
 induction l with
 |nil=>rfl
 |cons a l ih=>rw[Elem.cF,ih];rfl
def cO (k:IntKind):Elem Int:=lM (fun n=>.int k n) (fun _=>rfl)
structure cI (P:Program) (T E:TypeId) (size:Nat):Prop where
 under:P.underlying T=some (.slice E)
 info:∃i z,P.info? E=some i∧i.zero=some z∧i.size=size∧z.cells.size=size∧i.bytes≤100000
theorem cI.of {P:Program} {T E:TypeId} {size bytes:Nat} {z:Value} (hu:P.underlying T=some (.slice E)) (hi:(P.info? E).map (fun i=>(i.zero,i.size,i.bytes))=some (some z,size,bytes)) (hz:z.cells.size=size) (hb:bytes≤100000):cI P T E size:=by
 refine⟨hu, ?_⟩
 cases h:P.info? E with
 |none=>rw[h] at hi;cases hi
 |some i=>
  rw[h] at hi
  simp only[Option.map_some,Option.some.injEq,Prod.mk.injEq] at hi
  exact⟨i,z,rfl,hi.1,hi.2.1,hz,by rw[hi.2.2];exact hb⟩
section
variable {α:Type} {K:Elem α} {P:Program}
def aJ (K:Elem α) (w:World) (g o:Nat) (l:List α):Prop:=∀j u,(K.cells l)[j]?=some u→w.cell? ⟨g,o+j,none⟩=some u
theorem aJ.at {w:World} {g o:Nat} {l:List α} (h:aJ K w g o l) (j i:Nat) (hi:i<K.size) (hj:j<l.length) (u:Value) (hu:(K.enc l[j])[i]?=some u):w.cell? ⟨g,o+(j*K.size+i),none⟩=some u:=
 h _ u (by rw[K.DD l j i hi hj];exact hu)
theorem aJ.but {S:Nat→Prop} {w w':World} {g o:Nat} {l:List α} (h:aJ K w g o l) (hb:aj S w w') (hn:¬S g):aJ K w' g o l:=fun j u hu=>hb.cell (h j u hu) hn
theorem aJ.below {B:Nat} {w w':World} {g o:Nat} {l:List α} (h:aJ K w g o l) (hb:Below B w w') (hg:g<B):aJ K w' g o l:=fun j u hu=>(hb.cell (p:=⟨g,o+j,none⟩) hg).trans (h j u hu)
theorem aJ.part {w:World} {g o:Nat} {l:List α} (h:aJ K w g o l) (n m:Nat) (hn:n≤l.length):aJ K w g (o+n*K.size) ((l.drop n).take m):=by
 intro j u hu
 rw[K.rP,K.AW l n hn] at hu
 have hlt:j<m*K.size:=by
  rcases Nat.lt_or_ge j (m*K.size) with h'|h'
  ·exact h'
  ·rw[List.getElem?_eq_none (by rw[List.length_take];omega)] at hu;cases hu
 rw[List.getElem?_take_of_lt hlt,List.getElem?_drop] at hu
 rw[Nat.add_assoc]
 exact h _ u hu
theorem aJ.news {w:World} {g o:Nat} {l:List α} (h:aJ K w g o l):∀j u,(K.cells l)[j]?=some u→w.cell? ((⟨g,o,none⟩:Addr).add j)=some u:=by
 intro j u hu
 have e:(⟨g,o,none⟩:Addr).add j=⟨g,o+j,none⟩:=by
  rcases Nat.eq_zero_or_pos j with rfl|hp
  ·simp[Addr.add]
  ·simp[Addr.add,Nat.ne_of_gt hp]
 rw[e]
 exact h j u hu
theorem aJ.dI {w:World} {g:Nat} {t:TypeId} {cs:List Value} {l:List α} (h:aG w g t cs) (he:cs=K.cells l):aJ K w g 0 l:=by
 subst he
 intro j u hu
 rw[Nat.zero_add]
 exact h.cell hu
def Own (K:Elem α) (E:TypeId) (B:Nat) (w:World) (v:Value) (l:List α):Prop:=w.ownsRow B E K.size v l.length (K.cells l)
variable {E T:TypeId} {B:Nat} {w:World} {v:Value} {l:List α}
theorem Own.nil (K:Elem α) (E:TypeId) (B:Nat) (w:World):Own K E B w (.slice none 0 0) []:=World.ownsRow_nil w B E K.size
theorem Own.but {S:Nat→Prop} {w':World} (h:Own K E B w v l) (hb:aj S w w') (hn:∀g,v.ownBlock=some g→¬S g):Own K E B w' v l:=by
 refine⟨h.1, ?_⟩
 rcases h.2 with h0|⟨g,cap,cur,rfl,hg,hh,r⟩
 ·exact .inl h0
 ·exact .inr ⟨g,cap,cur,rfl,hg,by rw[hb.block g (Array.getElem?_eq_some_iff.1 hh).1 (hn g rfl)];exact hh,r⟩
theorem Own.below {B':Nat} {w':World} (h:Own K E B w v l) (hb:Below B' w w') (hB:w.heap.size≤B'):Own K E B w' v l:=
 h.but (S:=fun _=>False) ⟨hb.os,hb.tape,hb.output,hb.size,fun k hk _=>hb.block k (Nat.lt_of_lt_of_le hk hB)⟩ fun _ _ hf=>hf
theorem Own.mono {B':Nat} (h:Own K E B w v l) (hB:B'≤B):Own K E B' w v l:=by
 refine⟨h.1, ?_⟩
 rcases h.2 with h0|⟨g,cap,cur,hv,hg,r⟩
 ·exact .inl h0
 ·exact .inr ⟨g,cap,cur,hv,Nat.le_trans hB hg,r⟩
theorem Own.alloc (h:Own K E B w v l) (o:Obj):Own K E B (w.alloc o) v l:=World.ownsRow.alloc h o
theorem Own.drew (h:Own K E B w v l):Own K E B w.drew v l:=h
theorem Own.slice (h:Own K E B w v l):∃a cap,v=.slice a l.length cap∧l.length≤cap:=by
 rcases h.2 with⟨e,h0⟩|⟨g,cap,cur,e,_,_,hc,_⟩
 ·exact⟨none,0,by rw[e,h0],by omega⟩
 ·exact⟨_,cap,e,hc⟩
theorem Own.form (h:Own K E B w v l) (hn:0<l.length):∃g cap,v=.slice (some ⟨g,0,none⟩) l.length cap∧B≤g∧g<w.heap.size∧l.length≤cap:=by
 rcases h.2 with⟨_,h0⟩|⟨g,cap,cur,e,hg,hh,hc,_⟩
 ·omega
 ·exact⟨g,cap,e,hg,(Array.getElem?_eq_some_iff.1 hh).1,hc⟩
theorem Own.block (h:Own K E B w v l):∀g,v.ownBlock=some g→B≤g∧g<w.heap.size:=World.ownsRow.lt h
theorem Own.lies {g n cap:Nat} (h:Own K E B w (.slice (some ⟨g,0,none⟩) n cap) l):aJ K w g 0 l:=by
 intro j u hu
 have hn:n=l.length:=by
  rcases h.2 with⟨e,_⟩|⟨g',cap',cur,e,_⟩
  ·cases e
  ·injection e
 subst hn
 have hlt:j<l.length*K.size:=by
  rcases Nat.lt_or_ge j (l.length*K.size) with h'|h'
  ·exact h'
  ·rw[List.getElem?_eq_none (by rw[K.a_];exact h')] at hu;cases hu
 rw[Nat.zero_add,World.ownsRow.cellAt h j hlt,hu]
theorem Own.frozen {g n cap:Nat} (h:Own K E B w (.slice (some ⟨g,0,none⟩) n cap) l) (j:Nat):w.frozen? ⟨g,j,none⟩=false:=by
 have hn:n=l.length:=by
  rcases h.2 with⟨e,_⟩|⟨g',cap',cur,e,_⟩
  ·cases e
  ·injection e
 subst hn
 exact World.ownsRow.frozenAt h j
theorem Own.store {α:Type} {f:α→Value} {hf:∀a,(f a).oneCell'=true} {E:TypeId} {B:Nat} {w:World} {l:List α} {g n cap:Nat}
  (h:Own (lM f hf) E B w (.slice (some ⟨g,0,none⟩) n cap) l) (j:Nat) (x:α):Own (lM f hf) E B (w.setCell ⟨g,j,none⟩ (f x)) (.slice (some ⟨g,0,none⟩) n cap) (l.set j x):=by
 have hn:n=l.length:=by
  rcases h.2 with⟨e,_⟩|⟨g',cap',cur,e,_⟩
  ·cases e
  ·injection e
 subst hn
 have:=(World.ownsRow.stored h j (f x)).1
 unfold Own
 rw[List.length_set,bP,List.map_set]
 rw[bP] at this
 exact this
theorem AX (ST:cI P T E K.size) {o:Oper} {a:Act} {K':Act→World→Prop} {Q:Exit→Act→World→Prop} (s x:Operand)
  (ho:o.op=.call {callee:=.builtin .append,args:=#[s,x],argTypes:=#[T,T]})
  (hs:a.eval s=v) (hown:Own K E B w v l) (hB:B≤w.heap.size)
  (g d m c:Nat) (ms:List α) (hx:a.eval x=.slice (some ⟨g,d,none⟩) m c) (hm:ms.length=m) (hnews:aJ K w g d ms) (hlen:l.length+m≤1000000000)
  (h:∀v' w',Own K E B w' v' (l++ms)→w.grownBy w' v.ownBlock→K' (a.put o.dst v') w'):o.wp P a w K' Q:=by
 obtain⟨i,z,hi,hz,hsize,hzs,hby⟩:=ST.info
 refine wp_append_own w s x T ho B E i z K.size i.bytes ST.under hi hz hsize rfl hzs K.pos v l.length (K.cells l) hs hown ⟨g,d,none⟩ m c (K.cells ms) hx (by rw[K.a_,hm]) hnews.news (K.lK _) (by unfold maxLen;omega) ?_ hB ?_
 ·exact Nat.le_trans (Nat.mul_le_mul hlen hby) (by decide)
 ·intro v' w' h1 h2 _
  refine h v' w' ?_ h2
  unfold Own
  rw[List.length_append,K.bh,hm]
  exact h1
theorem mZ (ST:cI P T E K.size) {ops:Array Oper} {rest:List Oper} {o:Oper} {a:Act} {Q:Exit→Act→World→Prop} (hgd:o.guard=none) (s x:Operand)
  (ho:o.op=.call {callee:=.builtin .append,args:=#[s,x],argTypes:=#[T,T]})
  (hs:a.eval s=v) (hown:Own K E B w v l) (hB:B≤w.heap.size)
  (g d m c:Nat) (ms:List α) (hx:a.eval x=.slice (some ⟨g,d,none⟩) m c) (hm:ms.length=m) (hnews:aJ K w g d ms) (hlen:l.length+m≤1000000000)
  (h:∀v' w',Own K E B w' v' (l++ms)→w.grownBy w' v.ownBlock→wpList P ops Q rest (a.put o.dst v') w'):wpList P ops Q (o::rest) a w:=
 wpList_plain hgd fun _ hK=>AX ST s x ho hs hown hB g d m c ms hx hm hnews hlen fun v' w' h1 h2=>hK _ _ (h v' w' h1 h2)
theorem AY (ST:cI P T E K.size) {o:Oper} {a:Act} {K':Act→World→Prop} {Q:Exit→Act→World→Prop} (s x:Operand)
  (ho:o.op=.call {callee:=.builtin .append,args:=#[s,x],argTypes:=#[T,T]})
  (hs:a.eval s=v) (hown:Own K E B w v l) (hB:B≤w.heap.size)
  (vx:Value) (Bx:Nat) (ms:List α) (hx:a.eval x=vx) (FJ:Own K E Bx w vx ms) (hlen:l.length+ms.length≤1000000000)
  (h:∀v' w',Own K E B w' v' (l++ms)→w.grownBy w' v.ownBlock→K' (a.put o.dst v') w'):o.wp P a w K' Q:=by
 rcases FJ.2 with⟨e,h0⟩|⟨g,cap,cur,e,_⟩
 ·obtain⟨i,z,hi,hz,hsize,hzs,hby⟩:=ST.info
  have Tn:ms=[]:=List.eq_nil_of_length_eq_zero h0
  have hr:=run_append_owned_none (P:=P) w B T o.type E i K.size ST.under hi v l.length (K.cells l) hown
  unfold Oper.wp execOp
  rw[e] at hx
  simp only[ho,resolve,invoke,builtin,Sem.run_bind,Sem.run_pure,Result.andThen_ok,List.map_toArray,List.map_cons,List.map_nil,hs,hx,hr]
  refine h v w ?_ ⟨rfl,rfl,rfl,Nat.le_refl _,fun _ _ _=>rfl⟩
  rw[Tn,List.append_nil]
  exact hown
 ·rw[e] at hx FJ
  exact AX ST s x ho hs hown hB g 0 ms.length cap ms hx rfl FJ.lies hlen h
end
end Go.Proofs.YtloekpcncjocaaaGreatDoor
namespace Go.Proofs.YtloekpcncjocaaaGreatDoor
open Go.RowKit
theorem aj.setRow {S:Nat→Prop} {a w:World} (h:aj S a w) (g:Nat) (cs:Array Value) (hp:g<a.heap.size→S g):aj S a (w.setRow g cs):=
 h.trans (T:=fun k=>k=g) ⟨rfl,rfl,rfl,by simp,fun k _ hn=>setRow_other _ _ _ _ hn⟩ fun i hi e=>by subst e;exact hp hi
def aR (b:UInt8):Value:=.int .u8 (b.toNat:Int)
theorem dQ (w:World) (m:Nat):Below w.heap.size w (w.drewN m):=⟨rfl,rfl,rfl,Nat.le_refl _,fun _ _=>rfl⟩
def bs (l:List UInt8):ByteArray:=⟨l.toArray⟩
theorem aB (l:List UInt8):(bs l).size=l.length:=by unfold bs;simp[ByteArray.size]
theorem DE (l m:List UInt8):bs l++bs m=bs (l++m):=by
 apply ByteArray.ext
 apply Array.ext'
 simp[bs]
theorem JL (s:ByteArray):bs s.data.toList=s:=rfl
theorem cj (l:List UInt8):(bs l).data.toList=l:=rfl
theorem az (a:List UInt8):(bs a).toList=a:=by
 rw[ByteArray.toList_eq];rfl
theorem rQ (t:ByteArray) (n:Nat):(t.extract n t.size).data.toList=t.data.toList.drop n:=by
 rw[ByteArray.data_extract,Array.toList_extract,List.extract_eq_take_drop]
 exact List.take_of_length_le (by rw[List.length_drop,Array.length_toList];exact Nat.le_refl _)
theorem rR (t:ByteArray) (n:Nat):t.extract 0 n=bs (t.data.toList.take n):=by
 apply ByteArray.ext
 apply Array.ext'
 rw[ByteArray.data_extract,Array.toList_extract,List.extract_eq_take_drop]
 rfl
theorem lN {P:Program} {E:TypeId} {size bytes:Nat} {z:Value} (hi:(P.info? E).map (fun i=>(i.zero,i.size,i.bytes))=some (some z,size,bytes)):
  ∃i,P.info? E=some i∧i.zero=some z∧i.size=size∧i.bytes=bytes:=by
 cases h:P.info? E with
 |none=>rw[h] at hi;cases hi
 |some i=>
  rw[h] at hi
  simp only[Option.map_some,Option.some.injEq,Prod.mk.injEq] at hi
  exact⟨i,rfl,hi.1,hi.2.1,hi.2.2⟩
theorem yI (v:Value) (n:Nat):madeCells #[v] n=(List.replicate n v).toArray:=by
 apply Array.ext
 ·simp[madeCells]
 ·intro k h1 h2
  simp[madeCells,Nat.mod_one]
theorem m5 (w:World) (n:Nat) (hn:n≤1000000):(Instr.makeSlice 67 (.int .i64 n) (.int .i64 n)).run Tryz.prog w=.ok (.slice (some ⟨w.heap.size,0,none⟩) n n) (w.alloc (.cells (List.replicate n (.int .u8 0)).toArray 5)):=by
 obtain⟨i,hi,hz,hs,hb⟩:=lN (P:=Tryz.prog) (E:=5) (size:=1) (bytes:=1) (z:=.int .u8 0) (by kernel_rfl)
 have:=run_make (P:=Tryz.prog) w 67 5 i (.int .u8 0) Tryz.underlying67 hi hz .i64 .i64 n n (by omega) (by omega) (by rw[hb];omega) (by omega)
 rw[this,hs,Int.toNat_natCast,Nat.mul_one,show (Value.int IntKind.u8 0).cells=#[.int .u8 0] from rfl,yI]
theorem rS (w:World) (n c:Nat):(convert 67 9 (.slice (some ⟨w.heap.size,0,none⟩) n c)).run Tryz.prog (w.alloc (.cells (List.replicate n (.int .u8 0)).toArray 5))=.ok (.string (bs (List.replicate n 0))) (w.alloc (.cells (List.replicate n (.int .u8 0)).toArray 5)):=by
 have hblk:=aG.new w (List.replicate n (.int .u8 0)).toArray 5
 have:=run_convert_bytes_back (P:=Tryz.prog) (w.alloc (.cells (List.replicate n (.int .u8 0)).toArray 5)) 67 9 5 ⟨w.heap.size,0,none⟩ c (List.replicate n 0) (by kernel_rfl) (by kernel_rfl) (by kernel_rfl) (by
  intro j hj
  rw[show (⟨w.heap.size,0,none⟩:Addr).add j=⟨w.heap.size,j,none⟩ by unfold Addr.add;split<;>simp_all]
  refine hblk.cell ?_
  rw[List.length_replicate] at hj
  rw[List.getElem?_replicate,if_pos hj,List.getElem_replicate]
  rfl)
 rw[List.length_replicate] at this
 exact this
end Go.Proofs.YtloekpcncjocaaaGreatDoor
namespace Go.Proofs.YtloekpcncjocaaaGreatDoor
namespace Dk
def dJ {α:Type} (L:List α) (ws:List (Nat×α)):List α:=ws.foldl (fun L x=>L.set x.1 x.2) L
theorem kM {α:Type} (L:List α):dJ L []=L:=rfl
theorem lP {α:Type} (L:List α) (x:Nat×α) (ws:List (Nat×α)):dJ L (x::ws)=dJ (L.set x.1 x.2) ws:=rfl
theorem qp {α:Type} (L:List α) (a b:List (Nat×α)):dJ L (a++b)=dJ (dJ L a) b:=by simp[dJ]
theorem FK {α:Type} (L:List α) (i:Nat) (x:α):dJ L [(i,x)]=L.set i x:=rfl
theorem eL {α:Type} (ws:List (Nat×α)):∀L:List α,(dJ L ws).length=L.length:=by
 induction ws with
 |nil=>intro L;rfl
 |cons x ws ih=>intro L;rw[lP,ih,List.length_set]
theorem FL {α β:Type} (T:α→β) (ws:List (Nat×α)):∀L:List α,(dJ L ws).map T=dJ (L.map T) (ws.map fun x=>(x.1,T x.2)):=by
 induction ws with
 |nil=>intro L;rfl
 |cons x ws ih=>intro L;rw[lP,ih,List.map_set,List.map_cons,lP]
theorem FM {α:Type} (ws:List (Nat×α)):∀(L:List α) (c:α),c∈dJ L ws→c∈L∨∃i,(i,c)∈ws:=by
 induction ws with
 |nil=>intro L c h;exact .inl h
 |cons x ws ih=>
  intro L c h
  rcases ih _ _ h with h|⟨i,h⟩
  ·rcases List.mem_or_eq_of_mem_set h with h|rfl
   ·exact .inl h
   ·exact .inr ⟨x.1,List.mem_cons_self⟩
  ·exact .inr ⟨i,List.mem_cons_of_mem _ h⟩
theorem DF {α:Type} (L:List α) (ws:List (Nat×α)) (k:Nat) (hk:k<ws.length):dJ L (ws.take (k+1))=(dJ L (ws.take k)).set (ws[k]).1 (ws[k]).2:=by
 rw[List.take_succ_eq_append_getElem hk,qp];rfl
def kept {α:Type}:List Bool→List α→List α
 |_,[]=>[]
 |[],_::_=>[]
 |b::k,w::ws=>if b then w::kept k ws else kept k ws
structure bp where
 dK:List (List UInt8)
 loose:List (Nat×List UInt8)
 fuel:Int
 off:Bool
def full (s:List UInt8):List UInt8:=s++List.replicate (512-s.length) 0
theorem dw (s:List UInt8) (h:s.length≤512):(full s).length=512:=by simp[full];omega
def fresh (n:Nat):bp:=⟨List.replicate n (full []),[],-1,false⟩
def bp.now (d:bp):List (List UInt8):=dJ d.dK d.loose
def bp.eV (d:bp):bp:={d with fuel:=if 0<d.fuel then d.fuel-1 else d.fuel}
def bp.dead (d:bp):bp:={d with off:=true}
def bp.has (d:bp) (i:Int):Bool:=decide (0≤i)&&decide (i<d.dK.length)
def bp.read (d:bp) (i:Int):List UInt8×Int:=
 if d.off then ([],3) else if d.has i then (d.now.getD i.toNat [],0) else ([],2)
def bp.write (d:bp) (i:Int) (s:List UInt8):Int×bp:=
 if d.off then (3,d) else if !d.has i then (2,d) else if 512<s.length then (5,d) else if d.fuel=0 then (3,d.dead)
 else (0,{d.eV with loose:=d.loose++[(i.toNat,full s)]})
def bp.flush (d:bp):Int×bp:=
 if d.off then (3,d) else if d.fuel=0 then (3,d.dead) else (0,{d.eV with dK:=d.now,loose:=[]})
def bp.rT (d:bp) (n:Int):bp:={d with fuel:=max n (-1)}
end Dk
end Go.Proofs.YtloekpcncjocaaaGreatDoor
namespace Go.Proofs.YtloekpcncjocaaaGreatDoor
open Go.RowKit
theorem FN {k:IntKind} {a b:Int} (h:a=b):Ending.returned (Value.int k a)=.returned (.int k b):=by rw[h]
theorem fN {a b:Bool} (h:a=b):Ending.returned (Value.bool a)=.returned (.bool b):=by rw[h]
section
variable {α β:Type} {K:Elem α} {K':Elem β} {E E' T:TypeId} {B B':Nat} {w:World} {v v':Value} {l:List α} {l':List β}
theorem Own.typed (h:Own K E B w v l) {k:Nat} (hk:v.ownBlock=some k):∃cur,w.heap[k]?=some (.cells cur E (0,0)):=by
 rcases h.2 with⟨rfl,_⟩|⟨g,cap,cur,rfl,_,hh,_⟩
 ·simp[Value.ownBlock] at hk
 ·simp[Value.ownBlock] at hk
  subst hk
  exact⟨cur,hh⟩
theorem Own.bK (h:Own K E B w v l) {g:Nat} {t:TypeId} {cs:List Value} (hb:aG w g t cs) (ht:E≠t):v.ownBlock≠some g:=by
 intro e
 obtain⟨cur,hc⟩:=h.typed e
 unfold aG at hb
 rw[hb] at hc
 injection hc with hc
 injection hc with _ hc
 exact ht hc.symm
theorem Own.wQ (h:Own K E B w v l) (h':Own K' E' B' w v' l') (ht:E≠E') {k:Nat} (hk:v.ownBlock=some k):v'.ownBlock≠some k:=by
 intro e
 obtain⟨cur,hc⟩:=h.typed hk
 obtain⟨cur',ve⟩:=h'.typed e
 rw[hc] at ve
 injection ve with ve
 injection ve with _ ve
 exact ht ve
theorem aG.ne {g g':Nat} {t t':TypeId} {cs cs':List Value} (h:aG w g t cs) (h':aG w g' t' cs') (ht:t≠t'):g≠g':=by
 intro e
 subst e
 unfold aG at h h'
 rw[h] at h'
 injection h' with h'
 injection h' with _ h'
 exact ht h'
theorem Own.slot {g n c:Nat} (h:Own K E B w (.slice (some ⟨g,0,none⟩) n c) l):g<w.heap.size∧n=l.length∧l.length≤c:=by
 rcases h.2 with⟨e,_⟩|⟨g',cap',cur,e,_,hh,hc,_⟩
 ·cases e
 ·injection e with e1 e2 e3
  injection e1 with e1
  injection e1 with e1
  subst e1 e2 e3
  exact⟨(Array.getElem?_eq_some_iff.1 hh).1,rfl,hc⟩
end
def ptr (c:Nat):Value:=.pointer (some ⟨c,0,none⟩)
def bU:Elem Nat:=lM ptr (fun _=>rfl)
def m6:Elem (Nat×Nat):=⟨fun x=>[.int .i64 x.1,ptr x.2],2,by decide,fun _=>rfl,by
 intro a u hu
 simp only[List.mem_cons,List.not_mem_nil,or_false] at hu
 rcases hu with rfl|rfl<;>rfl⟩
theorem Tp:cI Tryz.prog 112 187 m6.size:=cI.of (size:=2) (bytes:=16) (z:=.agg #[.int .i64 0,.pointer none]) Tryz.underlying112 (by kernel_rfl) rfl (by decide)
structure cU (w:World) (g f cf l cl:Nat) (vo:Value) (n:Int) (off:Bool) (pf pl:List Nat) (ws:List (Nat×Nat)):Prop where
 blk:aG w g 114 [.slice (some ⟨f,0,none⟩) pf.length cf,.slice (some ⟨l,0,none⟩) pl.length cl,vo,.int .i64 n,.bool off]
 of:Own bU 142 0 w (.slice (some ⟨f,0,none⟩) pf.length cf) pf
 ol:Own bU 142 0 w (.slice (some ⟨l,0,none⟩) pl.length cl) pl
 oo:Own m6 187 0 w vo ws
 fl:f≠l
namespace cU
variable {w w':World} {g f cf l cl:Nat} {vo:Value} {n:Int} {off:Bool} {pf pl:List Nat} {ws:List (Nat×Nat)}
theorem gf (h:cU w g f cf l cl vo n off pf pl ws):g≠f:=fun e=>h.of.bK h.blk (by decide) (by rw[e];rfl)
theorem gl (h:cU w g f cf l cl vo n off pf pl ws):g≠l:=fun e=>h.ol.bK h.blk (by decide) (by rw[e];rfl)
theorem og (h:cU w g f cf l cl vo n off pf pl ws):vo.ownBlock≠some g:=h.oo.bK h.blk (by decide)
theorem Xa (h:cU w g f cf l cl vo n off pf pl ws):vo.ownBlock≠some f:=fun e=>h.oo.wQ h.of (by decide) e rfl
theorem Xc (h:cU w g f cf l cl vo n off pf pl ws):vo.ownBlock≠some l:=fun e=>h.oo.wQ h.ol (by decide) e rfl
theorem but {S:Nat→Prop} (h:cU w g f cf l cl vo n off pf pl ws) (hb:aj S w w') (h1:¬S g) (h2:¬S f) (h3:¬S l) (h4:∀k,vo.ownBlock=some k→¬S k):cU w' g f cf l cl vo n off pf pl ws:=
 ⟨h.blk.but hb h1,h.of.but hb (fun k hk=>by simp[Value.ownBlock] at hk;subst hk;exact h2),h.ol.but hb (fun k hk=>by simp[Value.ownBlock] at hk;subst hk;exact h3),h.oo.but hb h4,h.fl⟩
theorem alloc (h:cU w g f cf l cl vo n off pf pl ws) (o:Obj):cU (w.alloc o) g f cf l cl vo n off pf pl ws:=
 h.but ((aj.refl (fun _=>False) w).alloc o) id id id (fun _ _=>id)
theorem MV (h:cU w g f cf l cl vo n off pf pl ws) (j:Nat) (u:Value) (CJ:Value) (n':Int) (off':Bool) (ws':List (Nat×Nat))
  (Xd:Own m6 187 0 w CJ ws')
  (hs:[Value.slice (some ⟨f,0,none⟩) pf.length cf,.slice (some ⟨l,0,none⟩) pl.length cl,vo,.int .i64 n,.bool off].set j u=[.slice (some ⟨f,0,none⟩) pf.length cf,.slice (some ⟨l,0,none⟩) pl.length cl,CJ,.int .i64 n',.bool off']):
  cU (w.setCell ⟨g,j,none⟩ u) g f cf l cl CJ n' off' pf pl ws':=by
 have hb:aj (· =g) w (w.setCell ⟨g,j,none⟩ u):=(aj.refl _ w).setCell _ _ (fun _=>rfl)
 refine⟨?_,h.of.but hb (fun k hk e=>h.gf ?_),h.ol.but hb (fun k hk e=>h.gl ?_),Xd.but hb (fun k hk e=> ?_),h.fl⟩
 ·rw[←hs];exact h.blk.set j u
 ·simp[Value.ownBlock] at hk;omega
 ·simp[Value.ownBlock] at hk;omega
 ·exact Xd.bK h.blk (by decide) (by rw[hk,e])
theorem JM (h:cU w g f cf l cl vo n off pf pl ws) (n':Int):cU (w.setCell ⟨g,3,none⟩ (.int .i64 n')) g f cf l cl vo n' off pf pl ws:=h.MV 3 _ vo n' off ws h.oo rfl
theorem JN (h:cU w g f cf l cl vo n off pf pl ws) (b:Bool):cU (w.setCell ⟨g,4,none⟩ (.bool b)) g f cf l cl vo n b pf pl ws:=h.MV 4 _ vo n b ws h.oo rfl
theorem FO (h:cU w g f cf l cl vo n off pf pl ws) (CJ:Value) (ws':List (Nat×Nat)) (ho:Own m6 187 0 w CJ ws'):cU (w.setCell ⟨g,2,none⟩ CJ) g f cf l cl CJ n off pf pl ws':=h.MV 2 _ CJ n off ws' ho rfl
theorem JO (h:cU w g f cf l cl vo n off pf pl ws) (j c:Nat):cU (w.setCell ⟨f,j,none⟩ (ptr c)) g f cf l cl vo n off (pf.set j c) pl ws:=by
 have hb:aj (· =f) w (w.setCell ⟨f,j,none⟩ (ptr c)):=(aj.refl _ w).setCell _ _ (fun _=>rfl)
 have hs:=Own.store h.of j c
 refine⟨?_, ?_,h.ol.but hb (fun k hk e=>h.fl ?_),h.oo.but hb (fun k hk e=>h.Xa (by rw[hk,e])),h.fl⟩
 ·rw[List.length_set];exact h.blk.but hb h.gf
 ·rw[List.length_set];exact hs
 ·simp[Value.ownBlock] at hk;omega
theorem DG (h:cU w g f cf l cl vo n off pf pl ws) (j c:Nat):cU (w.setCell ⟨l,j,none⟩ (ptr c)) g f cf l cl vo n off pf (pl.set j c) ws:=by
 have hb:aj (· =l) w (w.setCell ⟨l,j,none⟩ (ptr c)):=(aj.refl _ w).setCell _ _ (fun _=>rfl)
 have hs:=Own.store h.ol j c
 refine⟨?_,h.of.but hb (fun k hk e=>h.fl ?_), ?_,h.oo.but hb (fun k hk e=>h.Xc (by rw[hk,e])),h.fl⟩
 ·rw[List.length_set];exact h.blk.but hb h.gl
 ·simp[Value.ownBlock] at hk;omega
 ·rw[List.length_set];exact hs
theorem AZ (h:cU w g f cf l cl vo n off pf pl ws) (hg:w.grownBy w' vo.ownBlock) (CJ:Value) (ws':List (Nat×Nat)) (ho:Own m6 187 0 w' CJ ws'):
  cU (w'.setCell ⟨g,2,none⟩ CJ) g f cf l cl CJ n off pf pl ws':=by
 have hb:aj (fun k=>vo.ownBlock=some k) w w':=⟨hg.os,hg.tape,hg.output,hg.size,fun k hk hn=>hg.block k hk (fun e=>hn e.symm)⟩
 have h':aG w' g 114 [.slice (some ⟨f,0,none⟩) pf.length cf,.slice (some ⟨l,0,none⟩) pl.length cl,vo,.int .i64 n,.bool off]:=h.blk.but hb h.og
 have h2:=h.of.but hb (fun k hk=>by simp[Value.ownBlock] at hk;subst hk;exact h.Xa)
 have h3:=h.ol.but hb (fun k hk=>by simp[Value.ownBlock] at hk;subst hk;exact h.Xc)
 have aC:aj (· =g) w' (w'.setCell ⟨g,2,none⟩ CJ):=(aj.refl _ w').setCell _ _ (fun _=>rfl)
 refine⟨h'.set 2 CJ,h2.but aC (fun k hk e=>h.gf ?_),h3.but aC (fun k hk e=>h.gl ?_),ho.but aC (fun k hk e=>ho.bK h' (by decide) (by rw[hk,e])),h.fl⟩
 ·simp[Value.ownBlock] at hk;omega
 ·simp[Value.ownBlock] at hk;omega
end cU
def FP (w:World) (F:Nat→Prop) (T:Nat→List UInt8) (cs:List Nat):Prop:=∀c∈cs,aG w c 144 ((T c).map aR)∧F c∧(T c).length=512
theorem FP.but {S:Nat→Prop} {w w':World} {F:Nat→Prop} {T:Nat→List UInt8} {cs:List Nat} (h:FP w F T cs) (hb:aj S w w') (hn:∀c∈cs,¬S c):FP w' F T cs:=
 fun c hc=>⟨(h c hc).1.but hb (hn c hc),(h c hc).2⟩
def mo (w:World) (F:Nat→Prop) (g:Nat) (d:Dk.bp):Prop:=
 ∃(f cf l cl:Nat) (vo:Value) (n:Int) (pf pl:List Nat) (ws:List (Nat×Nat)) (T:Nat→List UInt8),
  cU w g f cf l cl vo n d.off pf pl ws∧FP w F T (pf++(pl++ws.map (·.2)))∧d.dK=pf.map T∧d.loose=ws.map (fun x=>(x.1,T x.2))∧d.now=pl.map T∧
  max n (-1)=d.fuel∧n≤9223372036854775807∧-9223372036854775808≤n∧1≤pf.length∧pf.length≤65536∧(∀x∈ws,x.1<pf.length)∧
  F g∧F f∧F l∧(∀k,vo.ownBlock=some k→F k)∧∀k,F k→k<w.heap.size
def aW (F:Nat→Prop) (w:World) (F':Nat→Prop) (w':World):Prop:=aj F w w'∧∀k,F' k→F k∨w.heap.size≤k
theorem aW.refl (F:Nat→Prop) (w:World):aW F w F w:=⟨aj.refl _ _,fun _ h=>.inl h⟩
theorem aW.trans {F F' Xe:Nat→Prop} {w w' w'':World} (h:aW F w F' w') (k:aW F' w' Xe w''):aW F w Xe w'':=
 ⟨h.1.trans k.1 (fun i hi hf=>(h.2 i hf).resolve_right (by omega)),fun i hi=>by
  rcases k.2 i hi with hf|hl
  ·exact h.2 i hf
  ·exact .inr (Nat.le_trans h.1.size hl)⟩
theorem mo.lt {w:World} {F:Nat→Prop} {g:Nat} {d:Dk.bp} (h:mo w F g d):∀k,F k→k<w.heap.size:=by
 obtain⟨_,_,_,_,_,_,_,_,_,_,_,_,_,_,_,_,_,_,_,_,_,_,_,_,_,h⟩:=h
 exact h
theorem mo.but {S:Nat→Prop} {w w':World} {F:Nat→Prop} {g:Nat} {d:Dk.bp} (h:mo w F g d) (hb:aj S w w') (hn:∀k,F k→¬S k):mo w' F g d:=by
 obtain⟨f,cf,l,cl,vo,n,pf,pl,ws,T,h1,h2,h3,h4,hp,h5,h6,h6',h7,h8,h9,h10,h11,h12,h13,h14⟩:=h
 exact⟨f,cf,l,cl,vo,n,pf,pl,ws,T,h1.but hb (hn _ h10) (hn _ h11) (hn _ h12) (fun k hk=>hn _ (h13 k hk)),h2.but hb (fun c hc=>hn c (h2 c hc).2.1),h3,h4,hp,h5,h6,h6',h7,h8,h9,h10,h11,h12,h13,fun k hk=>Nat.lt_of_lt_of_le (h14 k hk) hb.size⟩
end Go.Proofs.YtloekpcncjocaaaGreatDoor
namespace Go.Proofs.YtloekpcncjocaaaGreatDoor
open Go.RowKit
theorem dh (w:World) (F:Nat→Prop) (g:Nat) (d:Dk.bp) (hd:mo w F g d):
  Calls Tryz.prog 53 #[ptr g] w fun e w'=>e=.returned (.bool d.off)∧w'=w:=by
 obtain⟨f,cf,l,cl,vo,n,pf,pl,ws,T,h1,h2,h3,h4,hp,h5,h6,h6',h7,h8,h9,h10,h11,h12,h13,h14⟩:=hd
 have c4:w.cell? ⟨g,4,none⟩=some (.bool d.off):=h1.blk.cell rfl
 clear h1 h2 h3 h4 hp
 go_enter Tryz.func53,Tryz.ntmps53
 unfold ptr
 go_wp2
 go_ret
 exact⟨rfl,rfl⟩
theorem nR (w:World) (F:Nat→Prop) (g:Nat) (d:Dk.bp) (hd:mo w F g d):
  Calls Tryz.prog 52 #[ptr g] w fun e w'=>e=.returned (.int .i64 d.dK.length)∧w'=w:=by
 obtain⟨f,cf,l,cl,vo,n,pf,pl,ws,T,h1,h2,h3,h4,hp,h5,h6,h6',h7,h8,h9,h10,h11,h12,h13,h14⟩:=hd
 have c0:w.cell? ⟨g,0,none⟩=some (.slice (some ⟨f,0,none⟩) pf.length cf):=h1.blk.cell rfl
 have hl:d.dK.length=pf.length:=by rw[h3,List.length_map]
 rw[hl]
 clear h1 h2 h3 h4 hl hp
 go_enter Tryz.func52,Tryz.ntmps52
 unfold ptr
 go_wp2
 go_ret
 exact⟨rfl,rfl⟩
theorem lQ (w:World) (F:Nat→Prop) (g:Nat) (d:Dk.bp) (i:Int) (hd:mo w F g d):
  Calls Tryz.prog 175 #[ptr g,.int .i64 i] w fun e w'=>e=.returned (.bool (d.has i))∧w'=w:=by
 obtain⟨f,cf,l,cl,vo,n,pf,pl,ws,T,h1,h2,h3,h4,hp,h5,h6,h6',h7,h8,h9,h10,h11,h12,h13,h14⟩:=hd
 have c0:w.cell? ⟨g,0,none⟩=some (.slice (some ⟨f,0,none⟩) pf.length cf):=h1.blk.cell rfl
 have hl:d.dK.length=pf.length:=by rw[h3,List.length_map]
 unfold Dk.bp.has
 rw[hl]
 clear h1 h2 h3 h4 hl hp
 by_cases hi:0≤i
 ·go_enter Tryz.func175,Tryz.ntmps175
  unfold ptr
  go_wp2
  go_ret
  refine⟨fN ?_,rfl⟩
  simp[hi]
 ·go_enter Tryz.func175,Tryz.ntmps175
  unfold ptr
  go_wp2
  go_ret
  refine⟨fN ?_,rfl⟩
  simp only[Bool.false_eq,Bool.and_eq_false_iff,decide_eq_false_iff_not]
  omega
theorem mo.rT {w:World} {F:Nat→Prop} {g:Nat} {d:Dk.bp} (n:Int) (hd:mo w F g d) (h1:-9223372036854775808≤n) (h2:n≤9223372036854775807):mo (w.setCell ⟨g,3,none⟩ (.int .i64 n)) F g (d.rT n)∧aW F w F (w.setCell ⟨g,3,none⟩ (.int .i64 n)):=by
 obtain⟨f,cf,l,cl,vo,m,pf,pl,ws,T,k1,k2,k3,k4,kp,k5,k6,k6',k7,k8,k9,k10,k11,k12,k13,k14⟩:=hd
 have hb:aj (· =g) w (w.setCell ⟨g,3,none⟩ (.int .i64 n)):=(aj.refl _ w).setCell _ _ (fun _=>rfl)
 refine⟨⟨f,cf,l,cl,vo,n,pf,pl,ws,T,k1.JM n,k2.but hb (fun c hc e=>(k2 c hc).1.ne k1.blk (by decide) e),k3,k4,kp,rfl,h2,h1,k7,k8,k9,k10,k11,k12,k13,fun k hk=> ?_⟩, ?_,fun k hk=>.inl hk⟩
 ·have:=k14 k hk;have:=hb.size;omega
 ·exact hb.mono (fun k _ e=>e▸k10)
theorem mo.dead {w:World} {F:Nat→Prop} {g:Nat} {d:Dk.bp} (hd:mo w F g d):mo (w.setCell ⟨g,4,none⟩ (.bool true)) F g d.dead∧aW F w F (w.setCell ⟨g,4,none⟩ (.bool true)):=by
 obtain⟨f,cf,l,cl,vo,m,pf,pl,ws,T,k1,k2,k3,k4,kp,k5,k6,k6',k7,k8,k9,k10,k11,k12,k13,k14⟩:=hd
 have hb:aj (· =g) w (w.setCell ⟨g,4,none⟩ (.bool true)):=(aj.refl _ w).setCell _ _ (fun _=>rfl)
 refine⟨⟨f,cf,l,cl,vo,m,pf,pl,ws,T,k1.JN true,k2.but hb (fun c hc e=>(k2 c hc).1.ne k1.blk (by decide) e),k3,k4,kp,k5,k6,k6',k7,k8,k9,k10,k11,k12,k13,fun k hk=> ?_⟩, ?_,fun k hk=>.inl hk⟩
 ·have:=k14 k hk;have:=hb.size;omega
 ·exact hb.mono (fun k _ e=>e▸k10)
theorem nS (w:World) (F:Nat→Prop) (g:Nat) (d:Dk.bp) (hd:mo w F g d):
  Calls Tryz.prog 133 #[ptr g] w fun e w'=>e=.returned (.bool (decide (d.fuel≠0)))∧mo w' F g (if d.fuel=0 then d.dead else d.eV)∧aW F w F w':=by
 have HD:=aa hd
 obtain⟨f,cf,l,cl,vo,n,pf,pl,ws,T,k1,k2,k3,k4,kp,k5,k6,k6',k7,k8,k9,k10,k11,k12,k13,k14⟩:=hd
 have c3:w.cell? ⟨g,3,none⟩=some (.int .i64 n):=k1.blk.cell rfl
 have f3:w.frozen? ⟨g,3,none⟩=false:=k1.blk.frozen 3
 have c4:w.cell? ⟨g,4,none⟩=some (.bool d.off):=k1.blk.cell rfl
 have f4:w.frozen? ⟨g,4,none⟩=false:=k1.blk.frozen 4
 have HK:=aa (And.intro k5 (And.intro k2 (And.intro k3 (And.intro k4 (And.intro kp k9)))))
 clear k1 k2 k3 k4 kp k5 k9 k14 k13
 by_cases h0:n=0
 ·subst h0
  have hf:d.fuel=0:=by rw[←HK.out.1];rfl
  rw[if_pos hf]
  go_enter Tryz.func133,Tryz.ntmps133
  unfold ptr
  go_wp2
  go_ret
  exact⟨fN (by rw[decide_eq_false];exact fun h=>h hf),HD.out.dead⟩
 ·have hf:¬d.fuel=0:=by rw[←HK.out.1];omega
  rw[if_neg hf]
  by_cases hp:0<n
  ·have hp':n>0:=hp
   have hw:IntKind.i64.wrap (n-1)=n-1:=by rw[IntKind.wrap_i64];omega
   go_enter Tryz.func133,Tryz.ntmps133
   unfold ptr
   go_wp2
   go_ret
   have hq:=HD.out.rT (n-1) (by omega) (by omega)
   have e:d.rT (n-1)=d.eV:=by
    have:=HK.out.1
    unfold Dk.bp.rT Dk.bp.eV
    congr 1
    rw[if_pos (by omega)]
    omega
   rw[e] at hq
   refine⟨fN (by rw[decide_eq_true hf]),hq⟩
  ·have hp':¬n>0:=hp
   go_enter Tryz.func133,Tryz.ntmps133
   unfold ptr
   go_wp2
   go_ret
   have e:d.eV=d:=by
    have:=HK.out.1
    unfold Dk.bp.eV
    rw[if_neg (by omega)]
   rw[e]
   exact⟨rfl,HD.out,aW.refl _ _⟩
end Go.Proofs.YtloekpcncjocaaaGreatDoor
namespace Go.Proofs.YtloekpcncjocaaaGreatDoor
open Go.RowKit
theorem pL (g i:Nat):(⟨g,0,none⟩:Addr).add i=⟨g,i,none⟩:=by unfold Addr.add;split<;>simp_all
theorem mF (w:World) (c:Nat):(Instr.sliceAt 144 (.pointer (some ⟨c,0,none⟩)) none none none).run Tryz.prog w=.ok (.slice (some ⟨c,0,none⟩) 512 512) w:=by
 have e1:Tryz.prog.arrayLen 144=512:=by kernel_rfl
 have e2:Tryz.prog.elem 144=5:=by kernel_rfl
 have e3:=run_sliceAt_array_all (P:=Tryz.prog) w 144 ⟨c,0,none⟩ (by rw[e1,e2];kernel_rfl)
 rw[e3,e1,e2]
 show ((sizeOf 5).run Tryz.prog w).andThen _=_
 rw[Tryz.sizeOf5]
 simp[go_sem,Addr.add]
theorem wR (w:World) (c:Nat) (t:List UInt8) (hb:aG w c 144 (t.map aR)) (hl:t.length=512):(convert 67 9 (.slice (some ⟨c,0,none⟩) 512 512)).run Tryz.prog w=.ok (.string (bs t)) w:=by
 have:=run_convert_bytes_back (P:=Tryz.prog) w 67 9 5 ⟨c,0,none⟩ 512 t (by kernel_rfl) (by kernel_rfl) (by kernel_rfl) (by
  intro i hi
  rw[pL]
  refine hb.cell ?_
  rw[List.getElem?_map,List.getElem?_eq_getElem hi]
  rfl)
 rw[hl] at this
 exact this
theorem yJ (w:World) (F:Nat→Prop) (g:Nat) (d:Dk.bp) (i:Int) (hd:mo w F g d):
  Calls Tryz.prog 122 #[ptr g,.int .i64 i] w fun e w'=>e=.returned (.tuple #[.string (bs (d.read i).1),.int .i64 (d.read i).2])∧w'=w:=by
 have HD:=aa hd
 by_cases ho:d.off=true
 ·have HR:d.read i=([],3):=by unfold Dk.bp.read;rw[if_pos ho]
  rw[HR]
  clear HR hd
  go_enter Tryz.func122,Tryz.ntmps122
  go_wp2_with fail
  refine (dh _ _ _ _ HD.out).mono ?_
  rintro e w1 ⟨rfl,rfl⟩
  rw[ho]
  go_wp2
  go_ret2
  exact⟨rfl,rfl⟩
 ·have ho':d.off=false:=by simpa using ho
  by_cases hh:d.has i=true
  ·have hi:0≤i∧i<d.dK.length:=by simpa[Dk.bp.has] using hh
   obtain⟨f,cf,l,cl,vo,n,pf,pl,ws,T,k1,k2,k3,k4,kp,k5,k6,k6',k7,k8,k9,k10,k11,k12,k13,k14⟩:=hd
   have hlen:d.dK.length=pf.length:=by rw[k3,List.length_map]
   obtain⟨k,rfl⟩:∃k:Nat,i=k:=⟨i.toNat,by omega⟩
   have bY:pl.length=pf.length:=by
    have:=congrArg List.length kp
    rw[List.length_map,Dk.bp.now,Dk.eL,k3,List.length_map] at this
    exact this.symm
   have hk:k<pl.length:=by omega
   have HR:d.read k=(T pl[k],0):=by
    unfold Dk.bp.read
    rw[if_neg ho,if_pos hh,kp,Int.toNat_natCast,List.getD_eq_getElem?_getD,List.getElem?_map,List.getElem?_eq_getElem hk]
    rfl
   have hmem:pl[k]∈pf++(pl++ws.map (·.2)):=List.mem_append_right _ (List.mem_append_left _ (List.getElem_mem hk))
   have c1:w.cell? ⟨g,1,none⟩=some (.slice (some ⟨l,0,none⟩) pl.length cl):=k1.blk.cell rfl
   have Zx:w.cell? ⟨l,k,none⟩=some (ptr pl[k]):=by
    have:=Own.lies k1.ol k (ptr pl[k]) (by rw[show bU.cells pl=pl.map ptr from bP _ _ _,List.getElem?_map,List.getElem?_eq_getElem hk];rfl)
    rwa [Nat.zero_add] at this
   have hcb:=fun w' (hw:w'=w)=>wR w' _ _ (hw▸(k2 _ hmem).1) (k2 _ hmem).2.2
   have hcb:=hcb w rfl
   have q_:=mF w pl[k]
   have hcap:=(Own.slot k1.ol).2.2
   have pH:(k:Int)<pl.length:=by omega
   rw[HR]
   generalize pl[k]=c at*
   generalize pl.length=N at*
   generalize T c=t at*
   unfold ptr at Zx
   clear HR k1 k2 k3 k4 kp k5 k9 k13 k14 hmem hlen bY
   go_enter Tryz.func122,Tryz.ntmps122
   go_wp2_with fail
   refine (dh _ _ _ _ HD.out).mono ?_
   rintro e w1 ⟨rfl,rfl⟩
   rw[ho']
   go_wp2_with fail
   refine (lQ _ _ _ _ _ HD.out).mono ?_
   rintro e w1 ⟨rfl,rfl⟩
   rw[hh]
   unfold ptr
   go_wp2
   go_ret2
   exact⟨rfl,rfl⟩
  ·have LS:d.has i=false:=by simpa using hh
   have HR:d.read i=([],2):=by unfold Dk.bp.read;rw[if_neg ho,if_neg hh]
   rw[HR]
   clear HR hd
   go_enter Tryz.func122,Tryz.ntmps122
   go_wp2_with fail
   refine (dh _ _ _ _ HD.out).mono ?_
   rintro e w1 ⟨rfl,rfl⟩
   rw[ho']
   go_wp2_with fail
   refine (lQ _ _ _ _ _ HD.out).mono ?_
   rintro e w1 ⟨rfl,rfl⟩
   rw[LS]
   go_wp2
   go_ret2
   exact⟨rfl,rfl⟩
end Go.Proofs.YtloekpcncjocaaaGreatDoor
namespace Go.Proofs.YtloekpcncjocaaaGreatDoor
open Go.RowKit
section
variable {P:Program}
theorem pM (w:World) (base:Nat) (t ty e:TypeId) (i:TypeInfo) (z:Value) (size bytes:Nat) (ht:P.underlying t=some (.slice e)) (hi:P.info? e=some i) (hz:i.zero=some z)
  (hsize:i.size=size) (hby:i.bytes=bytes) (hzs:z.cells.size=size) (hsz:0<size)
  (v:Value) (n:Nat) (xs:List Value) (hown:w.ownsRow base e size v n xs)
  (a:Addr) (m c:Nat) (news:List Value) (hl:news.length=m*size) (hnews:∀j u,news[j]?=some u→w.cell? (a.add j)=some u) (h1:∀u∈news,u.oneCell'=true)
  (h63:n+m≤maxLen) (hbytes:(n+m)*bytes≤140737488355328) (hbase:base≤w.heap.size):
  ∃v' w',(Builtin.append_ #[t,t] ty #[v,.slice (some a) m c]).run P w=.ok v' w'∧w'.ownsRow base e size v' (n+m) (xs++news)∧w.grownBy w' v.ownBlock∧
   (v'.ownBlock=v.ownBlock∨∀k,v'.ownBlock=some k→w.heap.size≤k):=by
 obtain⟨v',w',hr,h2,h3,_⟩:=run_append_own (P:=P) w base t ty e i z size bytes ht hi hz hsize hby hzs hsz v n xs hown a m c news hl hnews h1 h63 hbytes hbase
 refine⟨v',w',hr,h2,h3, ?_⟩
 have hown':=hown
 rcases hown.2 with⟨rfl,rfl⟩|⟨g,cap,cur,rfl,LU,hg,hnc,hcm,hcs,je⟩
 ·obtain⟨v2,w2,jG,h22,_⟩:=run_append_own (P:=P) w w.heap.size t ty e i z size bytes ht hi hz hsize hby hzs hsz (.slice none 0 0) 0 xs ⟨hown.1,.inl ⟨rfl,rfl⟩⟩ a m c news hl hnews h1 h63 hbytes (Nat.le_refl _)
  rw[hr] at jG
  injection jG with e1 e2
  subst e1 e2
  exact .inr fun k hk=>(h22.lt k hk).1
 ·by_cases hroom:n+m≤cap
  ·obtain⟨w2,jG,_⟩:=run_append_fits (P:=P) w base t ty e i size ht hi hsize g n cap xs hown' a m c news hl hnews h1 hroom
   rw[hr] at jG
   injection jG with e1 e2
   subst e1
   exact .inl rfl
  ·subst hsize hby
   have holds:∀j u,xs[j]?=some u→w.cell? ((⟨g,0,none⟩:Addr).add j)=some u:=hown.cells (g:=g) rfl
   have hsmall:n+m≤9223372036854775807:=by simp only[maxLen] at h63;omega
   have jG:=run_append_grow (P:=P) w t ty e i z ht hi hz ⟨g,0,none⟩ n cap xs hown.1 holds a m c news hl hnews (by omega) (by omega) (growslice_fits (by omega) hbytes)
   rw[hr] at jG
   injection jG with e1 e2
   subst e1
   refine .inr fun k hk=> ?_
   simp[Value.ownBlock] at hk
   omega
variable {α:Type} {K:Elem α} {E T:TypeId} {B:Nat} {w:World} {v:Value} {l:List α}
theorem dN (ST:cI P T E K.size) {o:Oper} {a:Act} {K':Act→World→Prop} {Q:Exit→Act→World→Prop} (s x:Operand)
  (ho:o.op=.call {callee:=.builtin .append,args:=#[s,x],argTypes:=#[T,T]})
  (hs:a.eval s=v) (hown:Own K E B w v l) (hB:B≤w.heap.size)
  (g d m c:Nat) (ms:List α) (hx:a.eval x=.slice (some ⟨g,d,none⟩) m c) (hm:ms.length=m) (hnews:aJ K w g d ms) (hlen:l.length+m≤1000000000)
  (h:∀v' w',Own K E B w' v' (l++ms)→w.grownBy w' v.ownBlock→(v'.ownBlock=v.ownBlock∨∀k,v'.ownBlock=some k→w.heap.size≤k)→K' (a.put o.dst v') w'):o.wp P a w K' Q:=by
 obtain⟨i,z,hi,hz,hsize,hzs,hby⟩:=ST.info
 obtain⟨v',w',hr,h2,h3,h4⟩:=pM (P:=P) w B T o.type E i z K.size i.bytes ST.under hi hz hsize rfl hzs K.pos v l.length (K.cells l) hown ⟨g,d,none⟩ m c (K.cells ms) (by rw[K.a_,hm]) hnews.news (K.lK _) (by unfold maxLen;omega) (Nat.le_trans (Nat.mul_le_mul hlen hby) (by decide)) hB
 unfold Oper.wp execOp
 simp only[ho,resolve,invoke,builtin,Sem.run_bind,Sem.run_pure,Result.andThen_ok,List.map_toArray,List.map_cons,List.map_nil,hs,hx,hr]
 refine h v' w' ?_ h3 h4
 unfold Own
 rw[List.length_append,K.bh,hm]
 exact h2
theorem bB (ST:cI P T E K.size) {ops:Array Oper} {rest:List Oper} {o:Oper} {a:Act} {Q:Exit→Act→World→Prop} (hgd:o.guard=none) (s x:Operand)
  (ho:o.op=.call {callee:=.builtin .append,args:=#[s,x],argTypes:=#[T,T]})
  (hs:a.eval s=v) (hown:Own K E B w v l) (hB:B≤w.heap.size)
  (g d m c:Nat) (ms:List α) (hx:a.eval x=.slice (some ⟨g,d,none⟩) m c) (hm:ms.length=m) (hnews:aJ K w g d ms) (hlen:l.length+m≤1000000000)
  (h:∀v' w',Own K E B w' v' (l++ms)→w.grownBy w' v.ownBlock→(v'.ownBlock=v.ownBlock∨∀k,v'.ownBlock=some k→w.heap.size≤k)→wpList P ops Q rest (a.put o.dst v') w'):wpList P ops Q (o::rest) a w:=
 wpList_plain hgd fun _ hK=>dN ST s x ho hs hown hB g d m c ms hx hm hnews hlen fun v' w' h1 h2 h3=>hK _ _ (h v' w' h1 h2 h3)
end
end Go.Proofs.YtloekpcncjocaaaGreatDoor
namespace Go.Proofs.YtloekpcncjocaaaGreatDoor
open Go.RowKit Lib
theorem wS {P:Program} (w:World) (dT sT ty elem:TypeId) (g dLen dCap:Nat) (s:ByteArray) (cur:Array Value) (t:TypeId)
  (hu:P.underlying dT=some (.slice elem)) (hs:(P.info? elem).map (·.size)=some 1)
  (hg:w.heap[g]?=some (.cells cur t (0,0))) (hn:s.size≤dLen) (hfit:s.size≤cur.size):
  (Builtin.copy_ #[dT,sT] ty #[.slice (some ⟨g,0,none⟩) dLen dCap,.string s]).run P w=
   .ok (goInt s.size) (w.setRow g (strCells s++cur.toList.drop s.size).toArray):=by
 have hl:=fun size=>run_firstCells_string (P:=P) w size s
 have hst:=run_storeCells_at P g 0 t (strCells s) 0 cur w hg (by simpa[strCells_length] using hfit) (strCells_oneCell s)
 simp only[Nat.zero_add,strCells_length,List.take_zero,List.nil_append] at hst
 have hmin:Nat.min s.size dLen=s.size:=Nat.min_eq_left hn
 cases hq:P.info? elem with
 |none=>simp[hq] at hs
 |some i=>simp[Builtin.copy_,run_underlying hu,Builtin.lenOf,sizeOf,typeInfo,hq,hmin,hl,hst]
theorem j9 {P:Program} {w:World} {ops:Array Oper} {rest:List Oper} {o:Oper} {a:Act} {Q:Exit→Act→World→Prop} (hgd:o.guard=none) (d s:Operand) (dT sT:TypeId)
  (ho:o.op=.call {callee:=.builtin .copy,args:=#[d,s],argTypes:=#[dT,sT]}) (elem:TypeId) (hu:P.underlying dT=some (.slice elem)) (hsz:(P.info? elem).map (·.size)=some 1)
  (g dLen dCap:Nat) (str:ByteArray) (hd:a.eval d=.slice (some ⟨g,0,none⟩) dLen dCap) (hs:a.eval s=.string str)
  (cur:Array Value) (t:TypeId) (hg:w.heap[g]?=some (.cells cur t (0,0))) (hn:str.size≤dLen) (hfit:str.size≤cur.size)
  (h:wpList P ops Q rest (a.put o.dst (goInt str.size)) (w.setRow g (strCells str++cur.toList.drop str.size).toArray)):wpList P ops Q (o::rest) a w:=by
 refine wpList_plain hgd fun K hK=> ?_
 have hrun:=wS (P:=P) w dT sT o.type elem g dLen dCap str cur t hu hsz hg hn hfit
 unfold Oper.wp
 simp[execOp,ho,resolve,invoke,builtin,hd,hs,hrun,Result.andThen]
 exact hK _ _ h
def gj:List Value:=List.replicate 512 (.int .u8 0)
theorem nT (w:World):(zeroValue 144).run Tryz.prog w=.ok (.agg gj.toArray) w:=by kernel_rfl
theorem rU (s:ByteArray):strCells s++gj.drop s.size=(Dk.full s.data.toList).map aR:=by
 unfold Dk.full gj strCells
 rw[List.map_append,List.map_replicate,List.drop_replicate,Array.length_toList]
 rfl
theorem JQ (w:World) (i c:Nat):aJ m6 (w.alloc (.cells #[.int .i64 i,ptr c] 187)) w.heap.size 0 [(i,c)]:=
 aJ.dI (aG.new w #[.int .i64 i,ptr c] 187) rfl
theorem mo.wrote {w1 W w5:World} {F:Nat→Prop} {g f cf l cl c k:Nat} {vo v':Value} {n:Int} {pf pl:List Nat} {ws:List (Nat×Nat)} {T:Nat→List UInt8} {d:Dk.bp} {t:List UInt8}
  (hbW:aj (· =c) w1 W) (hc:w1.heap.size=c) (LV:aG W c 144 (t.map aR)) (ht:t.length=512) (tW:FP W F T (pf++(pl++ws.map (·.2)))) (kW:cU W g f cf l cl vo n d.off pf pl ws)
  (k5':cU w5 g f cf l cl v' n d.off pf (pl.set k c) (ws++[(k,c)])) (cH:aj (fun x=>x=g∨x=l∨vo.ownBlock=some x) W w5) (hv:∀x,v'.ownBlock=some x→F x∨w1.heap.size≤x)
  (k3:d.dK=pf.map T) (k4:d.loose=ws.map (fun x=>(x.1,T x.2))) (kp:d.now=pl.map T) (k5:max n (-1)=d.fuel) (k6:n≤9223372036854775807) (k6':-9223372036854775808≤n) (k7:1≤pf.length) (k8:pf.length≤65536)
  (k9:∀x∈ws,x.1<pf.length) (k10:F g) (k11:F f) (k12:F l) (k13:∀x,vo.ownBlock=some x→F x) (k14:∀x,F x→x<w1.heap.size) (hk:k<pl.length) (bY:pl.length=pf.length):
  ∃F',mo w5 F' g {d with loose:=d.loose++[(k,t)]}∧aW F w1 F' w5:=by
 have Su:∀x,F x→x≠c:=fun x hx e=>by have:=k14 x hx;omega
 have hsz:=hbW.size
 have Zy:=cH.size
 have hcs:=LV.lt
 have hT:∀x∈pf++(pl++ws.map (·.2)),(if x=c then t else T x)=T x:=fun x hx=>if_neg (Su x (tW x hx).2.1)
 refine⟨fun x=>F x∨(w1.heap.size≤x∧x<w5.heap.size),⟨f,cf,l,cl,v',n,pf,pl.set k c,ws++[(k,c)],fun x=>if x=c then t else T x,k5', ?_, ?_, ?_, ?_,k5,k6,k6',k7,k8, ?_,.inl k10,.inl k11,.inl k12, ?_, ?_⟩, ?_, ?_⟩
 ·have hold:∀x∈pf++(pl++ws.map (·.2)),aG w5 x 144 (((if x=c then t else T x)).map aR)∧(F x∨(w1.heap.size≤x∧x<w5.heap.size))∧(if x=c then t else T x).length=512:=by
   intro x hx
   obtain⟨h1,h2,h3⟩:=tW x hx
   rw[hT x hx]
   refine⟨h1.but cH ?_,.inl h2,h3⟩
   rintro (e|e|e)
   ·exact h1.ne kW.blk (by decide) e
   ·subst e
    obtain⟨cur,jH⟩:=kW.ol.typed (k:=x) rfl
    unfold aG at h1
    rw[h1] at jH
    injection jH with jH
    injection jH with _ jH
    exact absurd jH (by decide)
   ·exact kW.oo.bK h1 (by decide) e
  intro x hx
  have hx':x∈pf++(pl++ws.map (·.2))∨x=c:=by
   rw[List.map_append] at hx
   simp only[List.mem_append] at hx ⊢
   rcases hx with hx|hx|hx|hx
   ·exact .inl (.inl hx)
   ·rcases List.mem_or_eq_of_mem_set hx with h|h
    ·exact .inl (.inr (.inl h))
    ·exact .inr h
   ·exact .inl (.inr (.inr hx))
   ·exact .inr (by simpa using hx)
  rcases hx' with hx|hx
  ·exact hold x hx
  ·obtain rfl:x=c:=hx
   refine⟨?_,.inr ⟨by omega,by omega⟩, ?_⟩
   ·show aG w5 x _ ((if x=x then t else T x).map aR)
    rw[if_pos rfl]
    refine LV.but cH ?_
    rintro (e|e|e)
    ·exact Su _ k10 e.symm
    ·exact Su _ k12 e.symm
    ·exact Su _ (k13 _ e) rfl
   ·show (if x=x then t else T x).length=512
    rw[if_pos rfl];exact ht
 ·show d.dK=_
  rw[k3]
  exact List.map_congr_left fun x hx=>(hT x (List.mem_append_left _ hx)).symm
 ·show d.loose++[(k,t)]=_
  rw[k4,List.map_append]
  congr 1
  ·exact List.map_congr_left fun x hx=>by show _=(x.1,if x.2=c then t else T x.2);rw[hT x.2 (List.mem_append_right _ (List.mem_append_right _ (List.mem_map.2 ⟨x,hx,rfl⟩)))]
  ·simp
 ·show Dk.dJ d.dK (d.loose++[(k,t)])=_
  rw[Dk.qp,Dk.FK,List.map_set,if_pos rfl]
  congr 1
  rw[show Dk.dJ d.dK d.loose=d.now from rfl,kp]
  exact List.map_congr_left fun x hx=>(hT x (List.mem_append_right _ (List.mem_append_left _ hx))).symm
 ·intro x hx
  rcases List.mem_append.1 hx with hx|hx
  ·exact k9 x hx
  ·obtain rfl:x=(k,c):=by simpa using hx
   rw[bY] at hk
   exact hk
 ·intro x hx
  rcases hv x hx with h|h
  ·exact .inl h
  ·exact .inr ⟨h,(k5'.oo.block x hx).2⟩
 ·rintro x (h|h)
  ·have:=k14 x h;omega
  ·exact h.2
 ·have h1:aj (fun x=>x=c∨(x=g∨x=l∨vo.ownBlock=some x)) w1 w5:=(hbW.mono (fun x _ e=>.inl e)).trans cH (fun x _ e=>.inr e)
  refine h1.mono ?_
  rintro x hx (e|e|e|e)
  ·omega
  ·exact e▸k10
  ·exact e▸k12
  ·exact k13 x e
 ·rintro x (h|h)
  ·exact .inl h
  ·exact .inr h.1
theorem DH (w:World) (F:Nat→Prop) (g:Nat) (d:Dk.bp) (i:Int) (s:ByteArray) (hd:mo w F g d) (hn:d.loose.length≤900000000):
  Calls Tryz.prog 123 #[ptr g,.int .i64 i,.string s] w fun e w'=>e=.returned (.int .i64 (d.write i s.data.toList).1)∧∃F',mo w' F' g (d.write i s.data.toList).2∧aW F w F' w':=by
 have HD:=aa hd
 have hsz:s.data.toList.length=s.size:=Array.length_toList
 by_cases ho:d.off=true
 ·have HR:d.write i s.data.toList=(3,d):=by unfold Dk.bp.write;rw[if_pos ho]
  rw[HR]
  clear HR hd
  go_enter Tryz.func123,Tryz.ntmps123
  go_wp2_with fail
  refine (dh _ _ _ _ HD.out).mono ?_
  rintro e w1 ⟨rfl,rfl⟩
  rw[ho]
  go_wp2
  go_ret
  exact⟨rfl,_,HD.out,aW.refl _ _⟩
 ·have ho':d.off=false:=by simpa using ho
  by_cases hh:d.has i=true
  ·have hi:0≤i∧i<d.dK.length:=by simpa[Dk.bp.has] using hh
   by_cases hs:s.size≤512
   ·have FR:¬((s.size:Int)>512):=by omega
    by_cases hf:d.fuel=0
    ·have HR:d.write i s.data.toList=(3,d.dead):=by
      unfold Dk.bp.write;rw[if_neg ho,hh,hsz,if_neg (by decide),if_neg (by omega),if_pos hf]
     have hst:=fun w' (hw:w'=w)=>nS w' F g d (hw▸hd)
     rw[if_pos hf,show decide (d.fuel≠0)=false by simp[hf]] at hst
     have nU:=aa (hst w rfl)
     rw[HR]
     clear HR hd hst
     go_enter Tryz.func123,Tryz.ntmps123
     go_wp2_with fail
     refine (dh _ _ _ _ HD.out).mono ?_
     rintro e w1 ⟨rfl,rfl⟩
     rw[ho']
     go_wp2_with fail
     refine (lQ _ _ _ _ _ HD.out).mono ?_
     rintro e w1 ⟨rfl,rfl⟩
     rw[hh]
     go_wp2_with fail
     refine nU.out.mono ?_
     rintro e w1 ⟨rfl,h1,h2⟩
     have H12:=aa (And.intro h1 h2)
     clear h1 h2
     go_wp2
     go_ret
     exact⟨rfl,_,H12.out⟩
    ·have HR:d.write i s.data.toList=(0,{d.eV with loose:=d.loose++[(i.toNat,Dk.full s.data.toList)]}):=by
      unfold Dk.bp.write;rw[if_neg ho,hh,hsz,if_neg (by decide),if_neg (by omega),if_neg hf]
     have hst:=fun w' (hw:w'=w)=>nS w' F g d (hw▸hd)
     rw[if_neg hf,show decide (d.fuel≠0)=true by simp[hf]] at hst
     have nU:=aa (hst w rfl)
     rw[HR]
     obtain⟨k,rfl⟩:∃k:Nat,i=k:=⟨i.toNat,by omega⟩
     clear HR hd hst
     obtain⟨Z,hZ⟩:∃Z,Z=gj.toArray:=⟨_,rfl⟩
     have hz:=fun w=>nT w
     rw[←hZ] at hz
     have hzs:Z.size=512:=by rw[hZ];rfl
     have Tq:¬Z=#[]:=by intro e;rw[e] at hzs;cases hzs
     have HZ:=aa hZ
     clear hZ
     go_enter Tryz.func123,Tryz.ntmps123
     go_wp2_with fail
     refine (dh _ _ _ _ HD.out).mono ?_
     rintro e w1 ⟨rfl,rfl⟩
     rw[ho']
     go_wp2_with fail
     refine (lQ _ _ _ _ _ HD.out).mono ?_
     rintro e w1 ⟨rfl,rfl⟩
     rw[hh]
     go_wp2_with fail
     refine nU.out.mono ?_
     rintro e w1 ⟨rfl,h1,h2⟩
     have HM:=aa h2
     clear h2
     obtain⟨f,cf,l,cl,vo,n,pf,pl,ws,T,k1,k2,k3,k4,kp,k5,k6,k6',k7,k8,k9,k10,k11,k12,k13,k14⟩:=h1
     have q_:=mF (w1.alloc (.cells Z 144)) w1.heap.size
     go_wp2_with (refine j9 rfl _ _ 67 9 rfl 5 (by kernel_rfl) (by kernel_rfl) w1.heap.size 512 512 s rfl rfl Z 144 (heap_alloc_new w1 _) hs (by omega) ?_;refine Hid.out ?_)
     refine aa ?_
     obtain⟨c,hc⟩:∃c,w1.heap.size=c:=⟨_,rfl⟩
     rw[hc]
     obtain⟨W,hW⟩:∃W,W=(w1.alloc (.cells Z 144)).setRow c (strCells s++Z.toList.drop s.size).toArray:=⟨_,rfl⟩
     rw[←hW]
     have aQ:aj (· =c) w1 (w1.alloc (.cells Z 144)):=(aj.refl _ w1).alloc _
     have hbW:aj (· =c) w1 W:=by rw[hW];exact aQ.setRow c _ (fun _=>rfl)
     have LV:aG W c 144 ((Dk.full s.data.toList).map aR):=by
      rw[←rU s,hW]
      have:=setRow_heap (w1.alloc (.cells Z 144)) c Z (strCells s++Z.toList.drop s.size).toArray 144 (0,0) (by rw[←hc];exact heap_alloc_new w1 _)
      rw[HZ.out] at this ⊢
      exact this
     have hlt:=fun k hk=>k14 k hk
     rw[hc] at hlt
     have kW:=k1.but hbW (fun e=>by have:=hlt _ k10;omega) (fun e=>by have:=hlt _ k11;omega) (fun e=>by have:=hlt _ k12;omega) (fun k hk e=>by have:=hlt _ (k13 k hk);omega)
     have tW:=k2.but hbW (fun x hx e=>by have:=hlt _ (k2 x hx).2.1;omega)
     clear hW aQ k1 k2 q_
     have HF:d.dK.length=pf.length:=by rw[show d.dK=d.eV.dK from rfl,k3,List.length_map]
     have HP:pl.length=pf.length:=by
      have:=congrArg List.length kp
      rw[List.length_map,Dk.bp.now,Dk.eL,k3,List.length_map] at this
      exact this.symm
     have Ts:k<pl.length:=by omega
     have pH:(k:Int)<pl.length:=by omega
     have c1:W.cell? ⟨g,1,none⟩=some (.slice (some ⟨l,0,none⟩) pl.length cl):=kW.blk.cell rfl
     have Zz:W.cell? ⟨l,k,none⟩=some (ptr pl[k]):=by
      have:=Own.lies kW.ol k (ptr pl[k]) (by rw[show bU.cells pl=pl.map ptr from bP _ _ _,List.getElem?_map,List.getElem?_eq_getElem Ts];rfl)
      rwa [Nat.zero_add] at this
     have flk:W.frozen? ⟨l,k,none⟩=false:=Own.frozen kW.ol k
     unfold ptr at Zz
     have kV:=kW.DG k c
     have CK:aj (· =l) W (W.setCell ⟨l,k,none⟩ (ptr c)):=(aj.refl _ W).setCell _ _ (fun _=>rfl)
     unfold ptr at kV CK
     have c2:(W.setCell ⟨l,k,none⟩ (.pointer (some ⟨c,0,none⟩))).cell? ⟨g,2,none⟩=some vo:=kV.blk.cell rfl
     have hws:ws.length≤900000000:=by rw[show d.eV.loose=d.loose from rfl] at k4;rw[k4,List.length_map] at hn;exact hn
     have Xf:=aa (And.intro hbW (And.intro LV (And.intro tW (And.intro kW (And.intro kV (And.intro CK (And.intro hlt (And.intro k9 (And.intro k13 (And.intro k14 (And.intro k3 (And.intro k4 (And.intro k5 (And.intro kp HP))))))))))))))
     clear hbW LV tW kW kV CK hlt k9 k13 k14 k3 k4 k5 kp HF HP
     unfold ptr
     go_wp2_with (at_builtin;refine Hid.out ?_)
     refine aa ?_
     obtain⟨hbW,LV,tW,kW,kV,CK,hlt,k9,k13,k14,k3,k4,k5,kp,HP⟩:=Xf.out
     clear Xf
     obtain⟨V,hV⟩:∃V,V=W.setCell ⟨l,k,none⟩ (.pointer (some ⟨c,0,none⟩)):=⟨_,rfl⟩
     rw[←hV] at kV CK ⊢
     have Xg:W.heap.size=V.heap.size:=by rw[hV];simp[World.setCell]
     refine bB Tp rfl _ _ rfl rfl (kV.oo.alloc _) (Nat.zero_le _) W.heap.size 0 1 1 [(k,c)] rfl rfl (by rw[Xg];exact JQ V k c) (by omega) ?_
     intro v' w4 eW nV A1
     obtain⟨a',Tt,JR,_⟩:=Own.slice eW
     generalize (ws++[(k,c)]).length=N' at JR
     subst JR
     obtain⟨v',JR⟩:∃v',v'=Value.slice a' N' Tt:=⟨_,rfl⟩
     rw[←JR] at eW A1
     change (V.alloc (.cells #[.int .i64 k,ptr c] 187)).grownBy w4 vo.ownBlock at nV
     change v'.ownBlock=vo.ownBlock∨_ at A1
     have k4':=(kV.alloc (.cells #[.int .i64 k,ptr c] 187)).AZ nV v' _ eW
     have LU:aj (fun x=>vo.ownBlock=some x) (V.alloc (.cells #[.int .i64 k,ptr c] 187)) w4:=⟨nV.os,nV.tape,nV.output,nV.size,fun x hx hn=>nV.block x hx (fun e=>hn e.symm)⟩
     have b4:=(kV.alloc (.cells #[.int .i64 k,ptr c] 187)).blk.but LU kV.og
     have c2':w4.cell? ⟨g,2,none⟩=some vo:=b4.cell rfl
     have f2':w4.frozen? ⟨g,2,none⟩=false:=b4.frozen 2
     have cH:aj (fun x=>x=g∨x=l∨vo.ownBlock=some x) W (w4.setCell ⟨g,2,none⟩ v'):=
      (((CK.mono (T:=fun x=>x=g∨x=l∨vo.ownBlock=some x) (fun x _ e=>.inr (.inl e))).alloc (.cells #[.int .i64 k,ptr c] 187)).trans LU (fun x _ e=>.inr (.inr e))).setCell ⟨g,2,none⟩ v' (fun _=>.inl rfl)
     have H:=aa (mo.wrote (d:=d.eV) (t:=Dk.full s.data.toList) hbW hc LV (Dk.dw _ (by omega)) tW kW k4' cH (fun x hx=>by
      rcases A1 with e|e
      ·rw[e] at hx;exact .inl (k13 x hx)
      ·have h1:=e x hx
       have h2:=hbW.size
       have h3:=CK.size
       simp at h1
       exact .inr (by omega)) k3 k4 kp k5 k6 k6' k7 k8 k9 k10 k11 k12 k13 k14 (by omega) HP)
     rw[JR] at H
     clear JR
     clear hbW LV tW kW kV CK hlt k9 k13 k14 k3 k4 k5 kp HP hV Xg eW nV A1 k4' LU b4 cH
     go_wp2
     go_ret
     obtain⟨F',h1,h2⟩:=H.out
     exact⟨rfl,F',h1,HM.out.trans h2⟩
   ·have FR:(s.size:Int)>512:=by omega
    have HR:d.write i s.data.toList=(5,d):=by
     unfold Dk.bp.write;rw[if_neg ho,hh,hsz,if_neg (by decide),if_pos (by omega)]
    rw[HR]
    clear HR hd
    go_enter Tryz.func123,Tryz.ntmps123
    go_wp2_with fail
    refine (dh _ _ _ _ HD.out).mono ?_
    rintro e w1 ⟨rfl,rfl⟩
    rw[ho']
    go_wp2_with fail
    refine (lQ _ _ _ _ _ HD.out).mono ?_
    rintro e w1 ⟨rfl,rfl⟩
    rw[hh]
    go_wp2
    go_ret
    exact⟨rfl,_,HD.out,aW.refl _ _⟩
  ·have LS:d.has i=false:=by simpa using hh
   have HR:d.write i s.data.toList=(2,d):=by unfold Dk.bp.write;rw[if_neg ho,LS,if_pos (by decide)]
   rw[HR]
   clear HR hd
   go_enter Tryz.func123,Tryz.ntmps123
   go_wp2_with fail
   refine (dh _ _ _ _ HD.out).mono ?_
   rintro e w1 ⟨rfl,rfl⟩
   rw[ho']
   go_wp2_with fail
   refine (lQ _ _ _ _ _ HD.out).mono ?_
   rintro e w1 ⟨rfl,rfl⟩
   rw[LS]
   go_wp2
   go_ret
   exact⟨rfl,_,HD.out,aW.refl _ _⟩
theorem DI (w:World) (n:Nat) (hn:n≤1000000):(Instr.makeSlice 110 (.int .i64 n) (.int .i64 n)).run Tryz.prog w=.ok (.slice (some ⟨w.heap.size,0,none⟩) n n) (w.alloc (.cells (List.replicate n (.pointer none)).toArray 142)):=by
 obtain⟨i,hi,hz,hs,hb⟩:=lN (P:=Tryz.prog) (E:=142) (size:=1) (bytes:=8) (z:=.pointer none) (by kernel_rfl)
 have:=run_make (P:=Tryz.prog) w 110 142 i (.pointer none) Tryz.underlying110 hi hz .i64 .i64 n n (by omega) (by omega) (by rw[hb];omega) (by omega)
 rw[this,hs,Int.toNat_natCast,Nat.mul_one,show (Value.pointer none).cells=#[.pointer none] from rfl,yI]
theorem rV {w:World} {r n:Nat} {l:List Nat} (hb:aG w r 142 (l.map ptr)) (hn:l.length=n) (hm:n≤1000000):Own bU 142 0 w (.slice (some ⟨r,0,none⟩) n n) l:=by
 have e:bU.cells l=l.map ptr:=bP _ _ _
 refine⟨by rw[e,List.length_map];exact (Nat.mul_one _).symm,.inr ⟨r,n,(l.map ptr).toArray,by rw[hn],Nat.zero_le _,hb,by omega,by unfold maxLen;omega, ?_, ?_⟩⟩
 ·rw[List.size_toArray,List.length_map,hn];exact (Nat.mul_one _).symm
 ·rw[e]
  exact List.take_of_length_le (by rw[List.length_map];exact Nat.le_of_eq (Nat.mul_one _).symm)
theorem FT (k n:Nat) (a b:Value) (hk:k<n):(List.replicate k a++List.replicate (n-k) b).set k a=List.replicate (k+1) a++List.replicate (n-(k+1)) b:=by
 rw[List.set_append_right _ _ (by simp)]
 obtain⟨m,hm⟩:∃m,n-k=m+1:=⟨n-k-1,by omega⟩
 rw[hm,show n-(k+1)=m by omega,List.length_replicate,Nat.sub_self,List.replicate_succ,List.set_cons_zero,List.replicate_succ']
 simp
theorem vf (n:Nat) (w:World) (hn:n≤65536):
  Calls Tryz.prog 51 #[.int .i64 n] w fun e w'=>∃r c,e=.returned (.slice (some ⟨r,0,none⟩) n n)∧aG w' r 142 ((List.replicate n c).map ptr)∧aG w' c 144 ((Dk.full []).map aR)∧w.heap.size≤r∧w.heap.size≤c∧Below w.heap.size w w':=by
 obtain⟨Z,hZ⟩:∃Z,Z=gj.toArray:=⟨_,rfl⟩
 have hz:=fun w=>nT w
 rw[←hZ] at hz
 have hzs:Z.size=512:=by rw[hZ];rfl
 have Tq:¬Z=#[]:=by intro e;rw[e] at hzs;cases hzs
 have HZ:=aa hZ
 clear hZ
 obtain⟨R,hR⟩:∃R,R=(List.replicate n (Value.pointer none)).toArray:=⟨_,rfl⟩
 have hmk:=fun w=>DI w n (by omega)
 rw[←hR] at hmk
 obtain⟨c,hc⟩:∃c,w.heap.size=c:=⟨_,rfl⟩
 have hw1:(w.alloc (.cells Z 144)).heap.size=c+1:=by simp[hc]
 obtain⟨W,hW⟩:∃W,W=(w.alloc (.cells Z 144)).alloc (.cells R 142):=⟨_,rfl⟩
 have Tu:=hmk (w.alloc (.cells Z 144))
 rw[hw1,←hW] at Tu
 have HB:Hid (aG W (c+1) 142 (List.replicate n (.pointer none))∧aG W c 144 ((Dk.full []).map aR)∧Below c w W):=by
  refine aa ⟨?_, ?_, ?_⟩
  ·have:=aG.new (w.alloc (.cells Z 144)) R 142
   rw[hw1,←hW,hR] at this
   exact this
  ·have:=(aG.new w Z 144).alloc (.cells R 142)
   rw[hc,←hW,HZ.out] at this
   exact this
  ·rw[hW];exact ((Below.refl _ _).alloc (Nat.le_of_eq hc.symm) _).alloc (by rw[hw1];omega) _
 have HR:=aa hR
 clear hR hmk hW hw1
 go_enter Tryz.func51,Tryz.ntmps51
 rw[hc]
 go_wp2
 go_loopw [12] (fun i wr=>∃k:Nat,k≤n∧i=.int .i64 k∧aG wr (c+1) 142 (List.replicate k (ptr c)++List.replicate (n-k) (.pointer none))∧aG wr c 144 ((Dk.full []).map aR)∧Below c w wr) (fun i _=>n-(RowKit.intOf i).toNat)
 case atStart=>exact⟨0,Nat.zero_le _,rfl,HB.out.1,HB.out.2.1,HB.out.2.2⟩
 case round=>
  obtain⟨k,hk,rfl,hb,aC,qt⟩:=hrel
  by_cases hlt:k<n
  ·have hI:(k:Int)<n:=by omega
   have hcell:wr.cell? ⟨c+1,k,none⟩=some (.pointer none):=hb.cell (by rw[List.getElem?_append_right (by simp),List.length_replicate,Nat.sub_self,List.getElem?_replicate,if_pos (by omega)])
   have hfr:wr.frozen? ⟨c+1,k,none⟩=false:=hb.frozen k
   have HH:=aa (And.intro hb (And.intro aC qt))
   clear hb aC qt
   go_wp2
   go_roundw
   case rel=>
    obtain⟨hb,aC,qt⟩:=HH.out
    refine⟨k+1,by omega,by go_num, ?_, ?_, ?_⟩
    ·rw[←FT k n _ _ hlt];exact hb.set k (ptr c)
    ·exact aC.other _ _ (by simp)
    ·exact qt.setCell (by simp) _
   case measure=>simp[RowKit.intOf];omega
  ·have MW:k=n:=by omega
   subst MW
   have HH:=aa (And.intro hb (And.intro aC qt))
   clear hb aC qt
   go_wp2
   go_ret
   obtain⟨hb,aC,qt⟩:=HH.out
   refine⟨c+1,c,rfl, ?_,aC,by omega,by omega,qt⟩
   rw[List.map_replicate]
   simpa using hb
theorem JT {W:World} {F:Nat→Prop} {n r1 r2 c1 c2 g:Nat} (h1:1≤n) (h2:n≤65536)
  (hg:aG W g 114 [.slice (some ⟨r1,0,none⟩) n n,.slice (some ⟨r2,0,none⟩) n n,.slice none 0 0,.int .i64 (-1),.bool false])
  (b1:aG W r1 142 ((List.replicate n c1).map ptr)) (b2:aG W r2 142 ((List.replicate n c2).map ptr)) (hr:r1≠r2)
  (t1:aG W c1 144 ((Dk.full []).map aR)) (t2:aG W c2 144 ((Dk.full []).map aR)) (hF:∀k,F k→k<W.heap.size) (f1:F g) (f2:F r1) (f3:F r2) (f4:F c1) (f5:F c2):mo W F g (Dk.fresh n):=by
 have e1:(List.replicate n c1).length=n:=List.length_replicate
 have e2:(List.replicate n c2).length=n:=List.length_replicate
 refine⟨r1,n,r2,n,.slice none 0 0,-1,List.replicate n c1,List.replicate n c2,[],fun _=>Dk.full [],⟨?_, ?_, ?_,Own.nil _ _ _ _,hr⟩, ?_, ?_,rfl, ?_,rfl,by decide,by decide,by rw[e1];exact h1,by rw[e1];exact h2, ?_,f1,f2,f3, ?_,hF⟩
 ·rw[e1,e2];exact hg
 ·rw[e1];exact rV b1 e1 (by omega)
 ·rw[e2];exact rV b2 e2 (by omega)
 ·intro x hx
  simp only[List.map_nil,List.append_nil,List.mem_append,List.mem_replicate] at hx
  rcases hx with⟨_,rfl⟩|⟨_,rfl⟩
  ·exact⟨t1,f4,Dk.dw [] (by decide)⟩
  ·exact⟨t2,f5,Dk.dw [] (by decide)⟩
 ·rw[List.map_replicate];rfl
 ·rw[List.map_replicate];rfl
 ·intro x hx;cases hx
 ·intro k hk;simp[Value.ownBlock] at hk
theorem JU (n:Nat) (w:World) (h1:1≤n) (h2:n≤65536):
  Calls Tryz.prog 30 #[.int .i64 n] w fun e w'=>∃g F,e=.returned (.tuple #[ptr g,.int .i64 0])∧mo w' F g (Dk.fresh n)∧(∀k,F k→w.heap.size≤k)∧Below w.heap.size w w':=by
 have Pj:¬(n:Int)<1:=by omega
 have ZA:¬(n:Int)>65536:=by omega
 go_enter Tryz.func30,Tryz.ntmps30
 go_wp2_with fail
 refine (vf n w h2).mono ?_
 rintro e w1 ⟨r1,c1,rfl,b1,t1,l1,m1,Tv⟩
 go_wp2_with fail
 refine (vf n w1 h2).mono ?_
 rintro e w2 ⟨r2,c2,rfl,b2,t2,l2,m2,Pk⟩
 have hs1:=Tv.size
 have iU:=Pk.size
 have jf:=b1.lt
 have jG:=b2.lt
 have hc1:=t1.lt
 have vg:=t2.lt
 have b1':=b1.below Pk jf
 have t1':=t1.below Pk hc1
 have HN:=aa (JT (F:=fun k=>w.heap.size≤k∧k<w2.heap.size+1) h1 h2 (aG.new w2 _ _) (b1'.alloc _) (b2.alloc _) (by omega) (t1'.alloc _) (t2.alloc _) (fun k hk=>by simp;exact hk.2) ⟨by omega,by omega⟩ ⟨by omega,by omega⟩ ⟨by omega,by omega⟩ ⟨by omega,by omega⟩ ⟨by omega,by omega⟩)
 have qt:=(Tv.trans (Pk.mono hs1)).alloc (by omega) (.cells #[.slice (some ⟨r1,0,none⟩) n n,.slice (some ⟨r2,0,none⟩) n n,.slice none 0 0,.int .i64 (-1),.bool false] 114)
 have HB:=aa qt
 clear b1 b2 t1 t2 b1' t1' Tv Pk qt
 go_wp2
 go_ret2
 exact⟨_,_,rfl,HN.out,fun k hk=>hk.1,HB.out⟩
theorem Own.Tw {w:World} {o n co:Nat} {ws:List (Nat×Nat)} (h:Own m6 187 0 w (.slice (some ⟨o,0,none⟩) n co) ws) (k:Nat) (hk:k<ws.length):
  w.cell? ⟨o,k*2,none⟩=some (.int .i64 (ws[k]).1)∧w.cell? ⟨o,k*2+1,none⟩=some (ptr (ws[k]).2):=by
 have h0:=(Own.lies h).at k 0 (by decide) hk _ rfl
 have h1:=(Own.lies h).at k 1 (by decide) hk _ rfl
 rw[Nat.zero_add] at h0 h1
 exact⟨h0,h1⟩
theorem Own.Pm {w:World} {f n cf:Nat} {pf:List Nat} (h:Own bU 142 0 w (.slice (some ⟨f,0,none⟩) n cf) pf) (j:Nat) (hj:j<pf.length):w.cell? ⟨f,j,none⟩=some (ptr pf[j]):=by
 have:=Own.lies h j (ptr pf[j]) (by rw[show bU.cells pf=pf.map ptr from bP _ _ _,List.getElem?_map,List.getElem?_eq_getElem hj];rfl)
 rwa [Nat.zero_add] at this
theorem Own.JV {w:World} {f n cf:Nat} {pf:List Nat} (h:Own bU 142 0 w (.slice (some ⟨f,0,none⟩) n cf) pf) (j:Nat) (hj:j<pf.length):∃y,w.cell? ⟨f,j,none⟩=some (.pointer (some ⟨y,0,none⟩)):=⟨_,h.Pm j hj⟩
theorem Own.FU {α:Type} {K:Elem α} {E:TypeId} {B:Nat} {w:World} {v:Value} {l:List α} (h:Own K E B w v l):l.length≤9223372036854775807:=by
 rcases h.2 with⟨_,e⟩|⟨_,_,_,_,_,_,hc,hm,_⟩
 ·omega
 ·unfold maxLen at hm;omega
theorem DJ (w:World) (F:Nat→Prop) (g:Nat) (d:Dk.bp) (hd:mo w F g d):
  Calls Tryz.prog 89 #[ptr g] w fun e w'=>e=.returned (.int .i64 d.flush.1)∧mo w' F g d.flush.2∧aW F w F w':=by
 have HD:=aa hd
 by_cases ho:d.off=true
 ·have HR:d.flush=(3,d):=by unfold Dk.bp.flush;rw[if_pos ho]
  rw[HR]
  clear HR hd
  go_enter Tryz.func89,Tryz.ntmps89
  go_wp2_with fail
  refine (dh _ _ _ _ HD.out).mono ?_
  rintro e w1 ⟨rfl,rfl⟩
  rw[ho]
  go_wp2
  go_ret
  exact⟨rfl,HD.out,aW.refl _ _⟩
 ·have ho':d.off=false:=by simpa using ho
  by_cases hf:d.fuel=0
  ·have HR:d.flush=(3,d.dead):=by unfold Dk.bp.flush;rw[if_neg ho,if_pos hf]
   have hst:=fun w' (hw:w'=w)=>nS w' F g d (hw▸hd)
   rw[if_pos hf,show decide (d.fuel≠0)=false by simp[hf]] at hst
   have nU:=aa (hst w rfl)
   rw[HR]
   clear HR hd hst
   go_enter Tryz.func89,Tryz.ntmps89
   go_wp2_with fail
   refine (dh _ _ _ _ HD.out).mono ?_
   rintro e w1 ⟨rfl,rfl⟩
   rw[ho']
   go_wp2_with fail
   refine nU.out.mono ?_
   rintro e w1 ⟨rfl,h1,h2⟩
   have H12:=aa (And.intro h1 h2)
   clear h1 h2
   go_wp2
   go_ret
   exact⟨rfl,H12.out⟩
  ·have HR:d.flush=(0,{d.eV with dK:=d.now,loose:=[]}):=by unfold Dk.bp.flush;rw[if_neg ho,if_neg hf]
   have hst:=fun w' (hw:w'=w)=>nS w' F g d (hw▸hd)
   rw[if_neg hf,show decide (d.fuel≠0)=true by simp[hf]] at hst
   have nU:=aa (hst w rfl)
   rw[HR]
   clear HR hd hst
   go_enter Tryz.func89,Tryz.ntmps89
   go_wp2_with fail
   refine (dh _ _ _ _ HD.out).mono ?_
   rintro e w1 ⟨rfl,rfl⟩
   rw[ho']
   go_wp2_with fail
   refine nU.out.mono ?_
   rintro e w1 ⟨rfl,h1,h2⟩
   have HM:=aa h2
   clear h2
   obtain⟨f,cf,l,cl,vo,n,pf,pl,ws,T,k1,k2,k3,k4,kp,k5,k6,k6',k7,k8,k9,k10,k11,k12,k13,k14⟩:=h1
   have c2:w1.cell? ⟨g,2,none⟩=some vo:=k1.blk.cell rfl
   obtain⟨a,co,rfl,Xh⟩:=Own.slice k1.oo
   have ZB:=Own.FU k1.oo
   have HK:=aa (And.intro k2 (And.intro k3 (And.intro k4 (And.intro kp (And.intro k5 (And.intro k13 k14))))))
   have H1:=aa k1
   have H9:=aa k9
   clear k1 k2 k3 k4 kp k5 k13 k14 k9
   unfold ptr
   go_wp2
   go_loopw [17] (fun i wr=>∃k:Nat,k≤ws.length∧i=.int .i64 k∧cU wr g f cf l cl (.slice a ws.length co) n d.eV.off (Dk.dJ pf (ws.take k)) pl ws∧aj (· =f) w1 wr) (fun i _=>ws.length-(RowKit.intOf i).toNat)
   case atStart=>exact⟨0,Nat.zero_le _,rfl,H1.out,aj.refl _ _⟩
   case round=>
    obtain⟨k,hk,rfl,hs,hb⟩:=hrel
    by_cases hlt:k<ws.length
    ·have hI:(k:Int)<ws.length:=by omega
     obtain⟨o,co',e1,_,_,_⟩:=Own.form hs.oo (by omega)
     injection e1 with e1 _ e3
     subst e1 e3
     obtain⟨ca,cb⟩:=Own.Tw hs.oo k hlt
     have hps:(Dk.dJ pf (ws.take k)).length=pf.length:=Dk.eL _ _
     have hat:=H9.out ws[k] (List.getElem_mem hlt)
     have c0:wr.cell? ⟨g,0,none⟩=some (.slice (some ⟨f,0,none⟩) (Dk.dJ pf (ws.take k)).length cf):=hs.blk.cell rfl
     have hfl:(ws[k]).1<(Dk.dJ pf (ws.take k)).length:=by omega
     obtain⟨y,Sv⟩:=hs.of.JV (ws[k]).1 hfl
     have Ty:wr.frozen? ⟨f,(ws[k]).1,none⟩=false:=Own.frozen hs.of _
     rw[hps] at c0
     have HH:=aa (And.intro hs hb)
     have HX:=aa (Dk.DF pf ws k hlt)
     clear hs hb hps hfl
     generalize ws[k]=x at*
     obtain⟨at',c⟩:=x
     have ZC:(at':Int)<pf.length:=by have:=hat;simp only at this;omega
     simp only at ca cb Sv Ty
     unfold ptr at cb
     go_wp2
     obtain⟨q,hq⟩:∃q,wr.heap.size=q:=⟨_,rfl⟩
     rw[hq]
     obtain⟨V,hV⟩:∃V,V=wr.alloc (.cells #[.int .i64 at',.pointer (some ⟨c,0,none⟩)] 187):=⟨_,rfl⟩
     rw[←hV]
     have CK:aj (fun _=>False) wr V:=by rw[hV];exact (aj.refl _ _).alloc _
     have bq:aG V q 187 [.int .i64 at',.pointer (some ⟨c,0,none⟩)]:=by rw[hV,←hq];exact aG.new wr _ _
     have c0':V.cell? ⟨g,0,none⟩=some (.slice (some ⟨f,0,none⟩) pf.length cf):=CK.cell c0 id
     have MX:V.cell? ⟨f,at',none⟩=some (.pointer (some ⟨y,0,none⟩)):=CK.cell Sv id
     have Pn:V.frozen? ⟨f,at',none⟩=false:=(CK.frozen (World.block_lt_of_cell? _ _ Sv) id).trans Ty
     have q0:V.cell? ⟨q,0,none⟩=some (.int .i64 at'):=bq.cell rfl
     have q1:V.cell? ⟨q,1,none⟩=some (.pointer (some ⟨c,0,none⟩)):=bq.cell rfl
     have Xi:=aa CK
     clear hV CK bq c0 Sv Ty ca cb hq
     go_still_tail 9,(by kernel_rfl)
     change wpList _ _ _ _ _ V.drew
     obtain⟨U,hU⟩:∃U,U=V.drew:=⟨_,rfl⟩
     rw[←hU]
     have Sw:aj (fun _=>False) V U:=by rw[hU];exact (aj.refl _ _).drew
     have cfu:U.cell? ⟨f,at',none⟩=some (.pointer (some ⟨y,0,none⟩)):=Sw.cell MX id
     have ffu:U.frozen? ⟨f,at',none⟩=false:=(Sw.frozen (World.block_lt_of_cell? _ _ MX) id).trans Pn
     have Xj:=aa (Xi.out.trans Sw (fun _ _ h=>h))
     clear hU Sw c0' MX Pn q0 q1 Xi
     go_wp2
     go_roundw
     case rel=>
      refine⟨k+1,by omega,by go_num, ?_, ?_⟩
      ·rw[HX.out]
       exact (HH.out.1.but Xj.out id id id (fun _ _=>id)).JO at' c
      ·exact (HH.out.2.trans Xj.out (fun _ _ h=>h.elim)).setCell ⟨f,at',none⟩ _ (fun _=>rfl)
     case measure=>simp[RowKit.intOf];omega
    ·have MW:k=ws.length:=by omega
     subst MW
     rw[List.take_length] at hs
     have b2:wr.cell? ⟨g,2,none⟩=some (.slice a ws.length co):=hs.blk.cell rfl
     have f2:wr.frozen? ⟨g,2,none⟩=false:=hs.blk.frozen 2
     have hps:(Dk.dJ pf ws).length=pf.length:=Dk.eL _ _
     have HH:=aa (show mo (wr.setCell ⟨g,2,none⟩ (.slice none 0 0)) F g {d.eV with dK:=d.now,loose:=[]}∧aW F w1 F (wr.setCell ⟨g,2,none⟩ (.slice none 0 0)) by
      obtain⟨k2,k3,k4,kp,k5,k13,k14⟩:=HK.out
      have LU:aj (fun x=>x=f∨x=g) w1 (wr.setCell ⟨g,2,none⟩ (.slice none 0 0)):=(hb.mono (fun x _ e=>.inl e)).setCell _ _ (fun _=>.inr rfl)
      have hs':=hs.FO (.slice none 0 0) [] (Own.nil _ _ _ _)
      refine⟨⟨f,cf,l,cl,_,n,Dk.dJ pf ws,pl,[],T,hs', ?_, ?_,rfl, ?_,k5,k6,k6',by omega,by omega, ?_,k10,k11,k12, ?_,fun x hx=>Nat.lt_of_lt_of_le (k14 x hx) LU.size⟩,LU.mono (fun x _ e=>by rcases e with rfl|rfl;exact k11;exact k10),fun x hx=>.inl hx⟩
      ·intro x hx
       have hx':x∈pf++(pl++ws.map (·.2)):=by
        simp only[List.map_nil,List.append_nil,List.mem_append] at hx ⊢
        rcases hx with hx|hx
        ·rcases Dk.FM ws pf _ hx with h|⟨j,h⟩
         ·exact .inl h
         ·exact .inr (.inr (List.mem_map.2 ⟨_,h,rfl⟩))
        ·exact .inr (.inl hx)
       obtain⟨h1,h2,h3⟩:=k2 x hx'
       refine⟨h1.but LU ?_,h2,h3⟩
       rintro (e|e)
       ·exact H1.out.of.bK h1 (by decide) (by rw[e];rfl)
       ·exact h1.ne H1.out.blk (by decide) e
      ·show d.now=_
       rw[Dk.FL,←k3,←k4];rfl
      ·show Dk.dJ d.now []=_
       exact kp
      ·intro x hx;cases hx
      ·intro x hx;simp[Value.ownBlock] at hx)
     clear hs hb HK hps
     go_wp2
     go_ret
     exact⟨rfl,HH.out.1,HM.out.trans HH.out.2⟩
end Go.Proofs.YtloekpcncjocaaaGreatDoor
