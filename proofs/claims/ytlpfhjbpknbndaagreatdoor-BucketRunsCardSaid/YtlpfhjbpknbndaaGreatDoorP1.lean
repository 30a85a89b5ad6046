/- Elder texts, cut down and merged (1). -/
import Derived.WalkKit
import Derived.ProofKit
import Derived.OpenShut
import Derived.ShutString
import Derived.Test.YtlpfhjbpknbndaaGreatDoorRows
import Derived.Carry
import Derived.SliceStrings
import Derived.SizedLaws
import Derived.Deep.Strs
import Derived.WalkSpells
import Derived.WalkLawsBesides
import Derived.Laws.Rows
import Derived.Test.YtlpfhjbpknbndaaGreatDoorChecked
import Derived.Deep.QuietTactic
import Derived.Laws.Tables
import Derived.Laws.IdiomStrings
import Derived.Laws.MakeOwn
import Derived.Lib.AppendStr
import Derived.Laws.Bits128
import Derived.BigQuiet
import Derived.Deep.RegionLaw
import Derived.BigRegion
import Derived.Lib.Hide
import Derived.Deep.DeepFit
import Derived.Deep.RegionHeld3
import Derived.Laws.CopyRow
import Derived.StillTailTactics
import Derived.Test.YtlpfhjbpknbndaaGreatDoorPTk
set_option maxRecDepth 100000
set_option maxHeartbeats 8000000
namespace Go.Proofs.YtlpfhjbpknbndaaGreatDoor
open Or renaming inr→dn,inl→dc
open Option renaming some→aD,none→av
open Obj renaming cells→ey
open Value renaming int→bf,slice→cx,string→bR,bool→eX,pointer→e7,tuple→gu,agg→iK
open IntKind renaming i64→cu,u8→gx
open Ending renaming returned→eb
open List renaming mem_append->aj,mem_cons_self->aE,mem_cons_of_mem->aI,length_append->au,length_cons->a_,getElem?_append_right->iy,take_append_drop->cP,length_take->aO,take_left->fX,take_of_length_le->cg,mem_singleton->cQ,length_set->bP,map_cons->bM,append_nil->bA,length_drop->aZ,replicate->bB,take_succ_eq_append_getElem->cC,mem_cons->aX,length_map->aT,getElem?_map->cD,getElem?_eq_getElem->aK,getD_eq_getElem?_getD->bZ,mem_append_right->zV,getElem_mem->bI,nil_append->dI,map_append->bQ,map_congr_left->mS,length_replicate->dZ,set_cons_zero->ay,getElem?_replicate->nT
open Nat renaming le_refl->ah,le_trans->aH,lt_of_lt_of_le->dD,zero_add->bE,min_eq_left->ct,add_assoc->gH,zero_le->aB
open World renaming setCell->iX,block_lt_of_cell?->bD
open _root_.Array renaming getElem?_eq_some_iff->iY,length_toList->bk
open Int renaming toNat_natCast->dF
section
open Go.ChangeShapes Go.WideShapes Go.ChangeAt Go.RowKit
theorem own:ownKnob Tryz.prog.godebug=none:=by kernel_rfl
theorem DX {H:Type} {enc:TypeId×Value->H} {P:Program} {f:Func} {s:ChangeSpec} {apart fresh handsOn again:Bool} {W W':World} {args:Array Value} {v:Value} {D gs:List (DataW H)} {before pa pv:List MemPlace}
  (i:DataW.Whole enc P f.params.toList s.vars apart W args.toList D gs before) (l:Below W.heap.size W W') (d:before=pa++pv)
  (e:∀(b:Nat) (sp:Nat->Bool) (hd:Bool),DataW.TrodAll enc P W' b sp hd f.resultTypes.toList (v.resultList f.resultTypes.size) (s.fn H (D++gs)).results [])
  (a:∀sp:Nat->Bool,(∀p∈before,sp p.block=true)->DataW.TrodAll enc P W' 0 sp true f.params.toList args.toList (s.fn H (D++gs)).args pa)
  (c:∀sp:Nat->Bool,(∀p∈before,sp p.block=true)->DataW.TrodVars enc P W' sp s.vars (s.fn H (D++gs)).vars pv)
  (k:∀(j:Nat) (t:TypeId) (r:Value),f.resultTypes[j]?=aD t->(v.resultList f.resultTypes.size)[j]?=aD r->Value.okWide P W' .any 0 t r):
  s.post enc P f apart fresh handsOn again W args v W':=by
 have lt:∀p∈before,p.block<W.heap.size:=fun p hp=>i.lt p hp;have old:∀p∈before,(fun b=>decide (b<W.heap.size)) p.block=true:=fun p hp=>by simpa using i.lt p hp
 refine⟨D,gs,before,[],pa,pv,i,e _ _ _,a _ old,c _ old,World.keptBut_mono (fun p hp=>⟨hp, ?_⟩) (l.frame (· ∈before)),fun _=> ?_⟩;·rw[d,aj] at hp;exact dn hp
 ·obtain⟨_,_,_,_,_,m,hn⟩:=i;refine⟨k,_,_,([]++pa)++pv,⟨[]++pa,pv,trodAll_append (a _ (fun _ _=>rfl)) (e _ _ _),c _ (fun _ _=>rfl),rfl,fun b off hp=> ?_,fun ha=> ?_⟩,fun p hp _=> ?_⟩;·have g:MemPlace.cell b off∈before:=(by rw[d];simpa using hp);have hl:b<W.heap.size:=lt _ g;rw[l.frozen hl];exact m b off g
  ·have h:=hn ha;rw[d] at h;simpa using h
  ·rw[d];simpa using hp
theorem laidOut:laidOutB Tryz.prog=true:=by kernel_rfl
theorem xU {H:Type} {enc:TypeId×Value->H} {W W':World} {sp:Nat->Bool} (ts:List TypeId):
  ∀{vs:List Value} {D:List (DataW H)} {ps:List MemPlace},(∀t∈ts,Tryz.prog.readableRec t=true/\t<Tryz.prog.types.size)->
   DataW.TrodAll enc Tryz.prog W 0 (fun _=>true) true ts vs D ps->(∀p∈ps,W.sameAt W' p)->(∀p∈ps,sp p.block=true)->DataW.TrodAll enc Tryz.prog W' 0 sp true ts vs D ps:=by
 induction ts with
 |nil=>intro vs D ps _ h _ _;cases vs<;>cases D<;>first|exact h|cases h
 |cons t ts i=>
  intro vs D ps c h hs hp;cases vs with
  |nil=>cases h
  |cons v vs=>
   cases D with
   |nil=>cases h
   |cons d D=>
    obtain⟨p,q,f,g,rfl⟩:=h;have e:=c t (aE ..)
    exact⟨p,q,WideElems.Trod_stays laidOut e.1 e.2 f (fun x a=>hs x (aj.2 (dc a))) (fun x a=>hp x (aj.2 (dc a))),
     i (fun t b=>c t (aI _ b)) g (fun x a=>hs x (aj.2 (dn a))) (fun x a=>hp x (aj.2 (dn a))),rfl⟩
end
section
open Go.RowKit
structure aG (S:Nat->Prop) (w w':World):Prop where
 os:w'.os=w.os
 tape:w'.tape=w.tape
 output:w'.output=w.output
 size:w.heap.size<=w'.heap.size
 block:∀k,k<w.heap.size->¬S k->w'.heap[k]?=w.heap[k]?
theorem aG.refl (S:Nat->Prop) (w:World):aG S w w:=⟨rfl,rfl,rfl,ah _,fun _ _ _=>rfl⟩
theorem aG.trans {S T:Nat->Prop} {a b c:World} (h:aG S a b) (k:aG T b c) (H:∀i,i<a.heap.size->T i->S i):aG S a c:=
 ⟨k.os.trans h.os,k.tape.trans h.tape,k.output.trans h.output,aH h.size k.size,fun i hi hn=>
  (k.block i (dD hi h.size) (fun d=>hn (H i hi d))).trans (h.block i hi hn)⟩
theorem aG.mono {S T:Nat->Prop} {w w':World} (h:aG S w w') (a:∀i,i<w.heap.size->S i->T i):aG T w w':=
 ⟨h.os,h.tape,h.output,h.size,fun k H hn=>h.block k H fun hs=>hn (a k H hs)⟩
theorem aG.alloc {S:Nat->Prop} {a w:World} (h:aG S a w) (o:Obj):aG S a (w.alloc o):=
 h.trans (T:=fun _=>False) ⟨rfl,rfl,rfl,by simp,fun k H _=>Below.heap_alloc _ _ _ H⟩ fun _ _ hf=>hf.elim
theorem aG.drew {S:Nat->Prop} {a w:World} (h:aG S a w):aG S a w.drew:=⟨h.os,h.tape,h.output,h.size,h.block⟩
theorem aG.drewN {S:Nat->Prop} {a w:World} (h:aG S a w) (n:Nat):aG S a (w.drewN n):=⟨h.os,h.tape,h.output,h.size,h.block⟩
theorem aG.setCell {S:Nat->Prop} {a w:World} (h:aG S a w) (p:Addr) (u:Value) (hp:p.block<a.heap.size->S p.block):aG S a (w.setCell p u):=
 h.trans (T:=fun k=>k=p.block) ⟨rfl,rfl,rfl,by simp[iX],fun k _ hn=>Below.heap_setCell _ _ _ _ hn⟩ fun i hi e=>by subst e;exact hp hi
theorem aG.grown {S:Nat->Prop} {a w w':World} {row:Option Nat} (h:aG S a w) (hg:w.grownBy w' row) (hr:∀k,row=aD k->k<a.heap.size->S k):aG S a w':=
 h.trans (T:=fun k=>row=aD k) ⟨hg.os,hg.tape,hg.output,hg.size,fun k H hn=>hg.block k H (fun e=>hn e.symm)⟩ fun i hi e=>hr i e hi
theorem aG.aJ {w w':World} (h:Below w.heap.size w w') (S:Nat->Prop):aG S w w':=⟨h.os,h.tape,h.output,h.size,fun k H _=>h.block k H⟩
theorem aG.below {S:Nat->Prop} {B:Nat} {w w':World} (h:aG S w w') (a:B<=w.heap.size) (hS:∀k,k<B->¬S k):Below B w w':=
 ⟨h.os,h.tape,h.output,h.size,fun k H=>h.block k (dD H a) (hS k H)⟩
theorem aG.cell {S:Nat->Prop} {w w':World} (h:aG S w w') {p:Addr} {u:Value} (hc:w.cell? p=aD u) (hn:¬S p.block):w'.cell? p=aD u:=
 (World.cell?_of_block (w:=w) (h.block p.block (bD _ _ hc) hn)).trans hc
theorem aG.frozen {S:Nat->Prop} {w w':World} (h:aG S w w') {p:Addr} (hl:p.block<w.heap.size) (hn:¬S p.block):w'.frozen? p=w.frozen? p:=
 World.frozen?_of_block (w:=w) (h.block p.block hl hn)
def aU (w:World) (g:Nat) (t:TypeId) (cs:List Value):Prop:=w.heap[g]?=aD (ey cs.toArray t (0,0))
theorem aU.lt {w:World} {g:Nat} {t:TypeId} {cs:List Value} (h:aU w g t cs):g<w.heap.size:=(iY.1 h).1
theorem aU.cell {w:World} {g:Nat} {t:TypeId} {cs:List Value} (h:aU w g t cs) {j:Nat} {u:Value} (hu:cs[j]?=aD u):w.cell? ⟨g,j,av⟩=aD u:=by unfold aU at h;simp[World.cell?,h,hu]
theorem aU.frozen {w:World} {g:Nat} {t:TypeId} {cs:List Value} (h:aU w g t cs) (j:Nat):w.frozen? ⟨g,j,av⟩=false:=by unfold aU at h;simp[World.frozen?,h]
theorem aU.set {w:World} {g:Nat} {t:TypeId} {cs:List Value} (h:aU w g t cs) (j:Nat) (u:Value):aU (w.setCell ⟨g,j,av⟩ u) g t (cs.set j u):=by unfold aU at h |-;rw[heap_setCell_same w g j _ _ _ h];simp
theorem aU.but {S:Nat->Prop} {w w':World} {g:Nat} {t:TypeId} {cs:List Value} (h:aU w g t cs) (H:aG S w w') (hn:¬S g):aU w' g t cs:=by have:=H.block g h.lt hn;unfold aU at h |-;rw[this];exact h
theorem aU.below {B:Nat} {w w':World} {g:Nat} {t:TypeId} {cs:List Value} (h:aU w g t cs) (H:Below B w w') (hg:g<B):aU w' g t cs:=by have:=H.block g hg;unfold aU at h |-;rw[this];exact h
theorem aU.drew {w:World} {g:Nat} {t:TypeId} {cs:List Value} (h:aU w g t cs):aU w.drew g t cs:=h
theorem aU.alloc {w:World} {g:Nat} {t:TypeId} {cs:List Value} (h:aU w g t cs) (o:Obj):aU (w.alloc o) g t cs:=by unfold aU;rw[Below.heap_alloc _ _ _ h.lt];exact h
theorem aU.other {w:World} {g:Nat} {t:TypeId} {cs:List Value} (h:aU w g t cs) (p:Addr) (u:Value) (H:g≠p.block):aU (w.setCell p u) g t cs:=by unfold aU;rw[Below.heap_setCell _ _ _ _ H];exact h
theorem aU.new (w:World) (cs:Array Value) (t:TypeId):aU (w.alloc (ey cs t)) w.heap.size t cs.toList:=heap_alloc_new w _
theorem aU.result {P:Program} {fn:Func} {p:Tmp} {ty:TypeId} (h:fn.results=#[.cell p ty]) (tmps:Array Value) {w:World} {g:Nat} {t:TypeId} {cs:List Value} (d:TypeDesc)
  (hp:tmps.getD p undef=.pointer (aD ⟨g,0,av⟩)) (H:aU w g t cs)
  (hu:P.underlying ty=aD d) (hd:(match d with|.struct _|.array _ _=>true|_=>false)=true) (hi:(P.info? ty).map (·.size)=aD cs.length):
  (results fn tmps).run P w=.ok (.agg cs.toArray) w:=
 results_cell_row h tmps w g _ _ _ d hp H hu hd (by rw[hi];simp)
structure Elem (α:Type) where
 enc:α->List Value
 size:Nat
 pos:0<size
 len:∀a,(enc a).length=size
 one:∀a,∀u∈enc a,u.oneCell'=true
namespace Elem
variable {α:Type} (K:Elem α)
def cells (l:List α):List Value:=l.flatMap K.enc
theorem yB:K.cells []=[]:=rfl
theorem cR (a:α) (l:List α):K.cells (a::l)=K.enc a++K.cells l:=by simp[cells]
theorem b9 (l m:List α):K.cells (l++m)=K.cells l++K.cells m:=by simp[cells]
theorem b_ (l:List α):(K.cells l).length=l.length*K.size:=by
 induction l with
 |nil=>simp[cells]
 |cons a l i=>rw[cR,au,i,K.len,a_,Nat.add_mul];omega
theorem oT (l:List α):∀u∈K.cells l,u.oneCell'=true:=by intro u hu;simp only[cells,List.mem_flatMap] at hu;obtain⟨a,_,ha⟩:=hu;exact K.one a u ha
theorem Hs (l:List α):∀(j o:Nat),o<K.size->∀h:j<l.length,(K.cells l)[j*K.size+o]?=(K.enc l[j])[o]?:=by
 induction l with
 |nil=>intro j o _ h;cases h
 |cons a l i=>
  intro j o H h;rw[cR];cases j with
  |zero=>rw[Nat.zero_mul,bE,List.getElem?_append_left (by rw[K.len];exact H)];rfl
  |succ j=>rw[iy (by rw[K.len,Nat.add_mul];omega),K.len,show (j+1)*K.size+o-K.size=j*K.size+o by rw[Nat.add_mul];omega];rw[i j o H (by simpa using h)];rfl
theorem uW (l:List α) (n:Nat):K.cells (l.take n)=(K.cells l).take (n*K.size):=by
 rcases Nat.lt_or_ge n l.length with hn|hn;·grind [b9,cP,b_,aO,ct,Nat.le_of_lt,fX]
 ·simp_all[cg,b_,Nat.mul_le_mul_right]
theorem DY (l:List α) (n:Nat) (hn:n<=l.length):K.cells (l.drop n)=(K.cells l).drop (n*K.size):=by
 have e:K.cells l=K.cells (l.take n)++K.cells (l.drop n):=by rw[<-b9,cP]
 have hl:(K.cells (l.take n)).length=n*K.size:=by rw[b_,aO,ct hn]
 rw[e,<-hl,List.drop_left]
end Elem
def oU {α:Type} (f:α->Value) (h:∀a,(f a).oneCell'=true):Elem α:=⟨fun a=>[f a],1,by decide,fun _=>rfl,fun a u hu=>by rw[cQ.1 hu];exact h a⟩
theorem cV {α:Type} (f:α->Value) (h:∀a,(f a).oneCell'=true) (l:List α):(oU f h).cells l=l.map f:=by
 induction l with
 |nil=>rfl
 |cons a l i=>rw[Elem.cR,i];rfl
def gq (k:IntKind):Elem Int:=oU (fun n=>bf k n) (fun _=>rfl)
structure dx (P:Program) (T E:TypeId) (size:Nat):Prop where
 under:P.underlying T=aD (.slice E)
 info:∃i z,P.info? E=aD i/\i.zero=aD z/\i.size=size/\z.cells.size=size/\i.bytes<=100000
theorem dx.of {P:Program} {T E:TypeId} {size bytes:Nat} {z:Value} (hu:P.underlying T=aD (.slice E)) (hi:(P.info? E).map (fun i=>(i.zero,i.size,i.bytes))=aD (aD z,size,bytes)) (H:z.cells.size=size) (a:bytes<=100000):dx P T E size:=by
 refine⟨hu, ?_⟩;cases h:P.info? E with
 |none=>rw[h] at hi;cases hi
 |some i=>rw[h] at hi;simp only[Option.map_some,Option.some.injEq,Prod.mk.injEq] at hi;exact⟨i,z,rfl,hi.1,hi.2.1,H,by rw[hi.2.2];exact a⟩
section
variable {α:Type} {K:Elem α} {P:Program}
def bu (K:Elem α) (w:World) (g o:Nat) (l:List α):Prop:=∀j u,(K.cells l)[j]?=aD u->w.cell? ⟨g,o+j,av⟩=aD u
theorem bu.at {w:World} {g o:Nat} {l:List α} (h:bu K w g o l) (j i:Nat) (hi:i<K.size) (H:j<l.length) (u:Value) (hu:(K.enc l[j])[i]?=aD u):w.cell? ⟨g,o+(j*K.size+i),av⟩=aD u:=
 h _ u (by rw[K.Hs l j i hi H];exact hu)
theorem bu.but {S:Nat->Prop} {w w':World} {g o:Nat} {l:List α} (h:bu K w g o l) (H:aG S w w') (hn:¬S g):bu K w' g o l:=fun j u hu=>H.cell (h j u hu) hn
theorem bu.below {B:Nat} {w w':World} {g o:Nat} {l:List α} (h:bu K w g o l) (H:Below B w w') (hg:g<B):bu K w' g o l:=fun j u hu=>(H.cell (p:=⟨g,o+j,av⟩) hg).trans (h j u hu)
theorem bu.part {w:World} {g o:Nat} {l:List α} (h:bu K w g o l) (n m:Nat) (hn:n<=l.length):bu K w g (o+n*K.size) ((l.drop n).take m):=by
 intro j u hu;rw[K.uW,K.DY l n hn] at hu;have H:j<m*K.size:=by grind
 rw[List.getElem?_take_of_lt H,List.getElem?_drop] at hu;rw[gH];exact h _ u hu
theorem bu.news {w:World} {g o:Nat} {l:List α} (h:bu K w g o l):∀j u,(K.cells l)[j]?=aD u->w.cell? ((⟨g,o,av⟩:Addr).add j)=aD u:=by
 intro j u hu;have e:(⟨g,o,av⟩:Addr).add j=⟨g,o+j,av⟩:=by
  rcases Nat.eq_zero_or_pos j with rfl|hp;·simp[Addr.add]
  ·simp[Addr.add,Nat.ne_of_gt hp]
 rw[e];exact h j u hu
theorem bu.fN {w:World} {g:Nat} {t:TypeId} {cs:List Value} {l:List α} (h:aU w g t cs) (H:cs=K.cells l):bu K w g 0 l:=by subst H;intro j u hu;rw[bE];exact h.cell hu
def Own (K:Elem α) (E:TypeId) (B:Nat) (w:World) (v:Value) (l:List α):Prop:=w.ownsRow B E K.size v l.length (K.cells l)
variable {E T:TypeId} {B:Nat} {w:World} {v:Value} {l:List α}
theorem Own.nil (K:Elem α) (E:TypeId) (B:Nat) (w:World):Own K E B w (cx av 0 0) []:=World.ownsRow_nil w B E K.size
theorem Own.but {S:Nat->Prop} {w':World} (h:Own K E B w v l) (H:aG S w w') (hn:∀g,v.ownBlock=aD g->¬S g):Own K E B w' v l:=by
 refine⟨h.1, ?_⟩;rcases h.2 with a|⟨g,cap,cur,rfl,hg,hh,r⟩;·exact dc a
 ·exact dn ⟨g,cap,cur,rfl,hg,by rw[H.block g (iY.1 hh).1 (hn g rfl)];exact hh,r⟩
theorem Own.below {B':Nat} {w':World} (h:Own K E B w v l) (H:Below B' w w') (a:w.heap.size<=B'):Own K E B w' v l:=
 h.but (S:=fun _=>False) ⟨H.os,H.tape,H.output,H.size,fun k b _=>H.block k (dD b a)⟩ fun _ _ hf=>hf
theorem Own.mono {B':Nat} (h:Own K E B w v l) (H:B'<=B):Own K E B' w v l:=by
 refine⟨h.1, ?_⟩;rcases h.2 with a|⟨g,cap,cur,b,hg,r⟩;·exact dc a
 ·exact dn ⟨g,cap,cur,b,aH H hg,r⟩
theorem Own.alloc (h:Own K E B w v l) (o:Obj):Own K E B (w.alloc o) v l:=World.ownsRow.alloc h o
theorem Own.drew (h:Own K E B w v l):Own K E B w.drew v l:=h
theorem Own.slice (h:Own K E B w v l):∃a cap,v=cx a l.length cap/\l.length<=cap:=by
 rcases h.2 with⟨e,H⟩|⟨g,cap,cur,e,_,_,hc,_⟩;·grind
 ·exact⟨_,cap,e,hc⟩
theorem Own.form (h:Own K E B w v l) (hn:0<l.length):∃g cap,v=cx (aD ⟨g,0,av⟩) l.length cap/\B<=g/\g<w.heap.size/\l.length<=cap:=by
 rcases h.2 with⟨_,H⟩|⟨g,cap,cur,e,hg,hh,hc,_⟩;·omega
 ·grind
theorem Own.block (h:Own K E B w v l):∀g,v.ownBlock=aD g->B<=g/\g<w.heap.size:=World.ownsRow.lt h
theorem Own.lies {g n cap:Nat} (h:Own K E B w (cx (aD ⟨g,0,av⟩) n cap) l):bu K w g 0 l:=by
 intro j u hu;have hn:n=l.length:=by
  rcases h.2 with⟨e,_⟩|⟨G,c,cur,e,_⟩;·cases e
  ·injection e
 subst hn;have H:j<l.length*K.size:=by
  rcases Nat.lt_or_ge j (l.length*K.size) with h'|h';·exact h'
  ·rw[List.getElem?_eq_none (by rw[K.b_];exact h')] at hu;cases hu
 rw[bE,World.ownsRow.cellAt h j H,hu]
theorem Own.frozen {g n cap:Nat} (h:Own K E B w (cx (aD ⟨g,0,av⟩) n cap) l) (j:Nat):w.frozen? ⟨g,j,av⟩=false:=by
 have hn:n=l.length:=by
  rcases h.2 with⟨e,_⟩|⟨G,c,cur,e,_⟩;·cases e
  ·injection e
 subst hn;exact World.ownsRow.frozenAt h j
theorem Own.store {α:Type} {f:α->Value} {hf:∀a,(f a).oneCell'=true} {E:TypeId} {B:Nat} {w:World} {l:List α} {g n cap:Nat}
  (h:Own (oU f hf) E B w (cx (aD ⟨g,0,av⟩) n cap) l) (j:Nat) (x:α):Own (oU f hf) E B (w.setCell ⟨g,j,av⟩ (f x)) (cx (aD ⟨g,0,av⟩) n cap) (l.set j x):=by
 have hn:n=l.length:=by
  rcases h.2 with⟨e,_⟩|⟨G,c,cur,e,_⟩;·cases e
  ·injection e
 subst hn;have:=(World.ownsRow.stored h j (f x)).1;unfold Own;rw[bP,cV,List.map_set];rw[cV] at this;exact this
theorem DZ (S:dx P T E K.size) {o:Oper} {a:Act} {K':Act->World->Prop} {Q:Exit->Act->World->Prop} (s x:Operand)
  (n:o.op=.call {callee:=.builtin .append,args:=#[s,x],argTypes:=#[T,T]})
  (hs:a.eval s=v) (hown:Own K E B w v l) (p:B<=w.heap.size)
  (g d m c:Nat) (ms:List α) (q:a.eval x=cx (aD ⟨g,d,av⟩) m c) (k:ms.length=m) (H:bu K w g d ms) (e:l.length+m<=1000000000)
  (h:∀v' w',Own K E B w' v' (l++ms)->w.grownBy w' v.ownBlock->K' (a.put o.dst v') w'):o.wp P a w K' Q:=by
 obtain⟨i,z,hi,r,b,f,j⟩:=S.info;refine wp_append_own w s x T n B E i z K.size i.bytes S.under hi r b rfl f K.pos v l.length (K.cells l) hs hown ⟨g,d,av⟩ m c (K.cells ms) q (by rw[K.b_,k]) H.news (K.oT _) (by unfold maxLen;omega) ?_ p ?_;·exact aH (Nat.mul_le_mul e j) (by decide)
 ·intro v' w' t u _;refine h v' w' ?_ u;unfold Own;rw[au,K.b9,k];exact t
theorem mR (S:dx P T E K.size) {ops:Array Oper} {rest:List Oper} {o:Oper} {a:Act} {Q:Exit->Act->World->Prop} (e:o.guard=av) (s x:Operand)
  (f:o.op=.call {callee:=.builtin .append,args:=#[s,x],argTypes:=#[T,T]})
  (hs:a.eval s=v) (hown:Own K E B w v l) (i:B<=w.heap.size)
  (g d m c:Nat) (ms:List α) (j:a.eval x=cx (aD ⟨g,d,av⟩) m c) (k:ms.length=m) (H:bu K w g d ms) (b:l.length+m<=1000000000)
  (h:∀v' w',Own K E B w' v' (l++ms)->w.grownBy w' v.ownBlock->wpList P ops Q rest (a.put o.dst v') w'):wpList P ops Q (o::rest) a w:=
 wpList_plain e fun _ n=>DZ S s x f hs hown i g d m c ms j k H b fun v' w' p q=>n _ _ (h v' w' p q)
theorem D1 (S:dx P T E K.size) {o:Oper} {a:Act} {K':Act->World->Prop} {Q:Exit->Act->World->Prop} (s x:Operand)
  (j:o.op=.call {callee:=.builtin .append,args:=#[s,x],argTypes:=#[T,T]})
  (hs:a.eval s=v) (hown:Own K E B w v l) (k:B<=w.heap.size)
  (V:Value) (m:Nat) (ms:List α) (b:a.eval x=V) (c:Own K E m w V ms) (H:l.length+ms.length<=1000000000)
  (h:∀v' w',Own K E B w' v' (l++ms)->w.grownBy w' v.ownBlock->K' (a.put o.dst v') w'):o.wp P a w K' Q:=by
 rcases c.2 with⟨e,n⟩|⟨g,cap,cur,e,_⟩;·obtain⟨i,z,hi,r,d,p,q⟩:=S.info;have f:ms=[]:=List.eq_nil_of_length_eq_zero n;have hr:=run_append_owned_none (P:=P) w B T o.type E i K.size S.under hi v l.length (K.cells l) hown;unfold Oper.wp execOp;rw[e] at b;simp only[j,resolve,invoke,builtin,Sem.run_bind,Sem.run_pure,Result.andThen_ok,List.map_toArray,bM,List.map_nil,hs,b,hr];refine h v w ?_ ⟨rfl,rfl,rfl,ah _,fun _ _ _=>rfl⟩;rw[f,bA];exact hown
 ·rw[e] at b c;exact DZ S s x j hs hown k g 0 ms.length cap ms b rfl c.lies H h
theorem zT (S:dx P T E K.size) {ops:Array Oper} {rest:List Oper} {o:Oper} {a:Act} {Q:Exit->Act->World->Prop} (b:o.guard=av) (s x:Operand)
  (e:o.op=.makeSlice T s x) (B:Nat) (f:B<=w.heap.size) (C:Int) (c:Nat) (hs:a.eval s=bf cu 0) (g:a.eval x=bf cu C) (j:C=c) (hc:c<=1000000000)
  (h:∀w',Own K E B w' (cx (aD ⟨w.heap.size,0,av⟩) 0 c) []->w.grownBy w' av->wpList P ops Q rest (a.put o.dst (cx (aD ⟨w.heap.size,0,av⟩) 0 c)) w'):wpList P ops Q (o::rest) a w:=by
 obtain⟨i,z,hi,k,H,l,d⟩:=S.info;refine wpList_make_own _ b s x T e B E i z K.size S.under hi k H _ _ _ c hs g j ?_ (by unfold maxLen;omega) f h;exact aH (Nat.mul_le_mul d hc) (by decide)
end
section
variable {α:Type} {K:Elem α} {P:Program} {E T:TypeId} {B:Nat} {w:World} {v:Value} {l:List α}
theorem uX (S:dx P T E K.size) {ops:Array Oper} {rest:List Oper} {o:Oper} {a:Act} {Q:Exit->Act->World->Prop} (b:o.guard=av) (s x:Operand)
  (d:o.op=.call {callee:=.builtin .append,args:=#[s,x],argTypes:=#[T,T]})
  (hs:a.eval s=v) (hown:Own K E B w v l) (e:B<=w.heap.size)
  (V:Value) (c:Nat) (ms:List α) (f:a.eval x=V) (g:Own K E c w V ms) (H:l.length+ms.length<=1000000000)
  (h:∀v' w',Own K E B w' v' (l++ms)->w.grownBy w' v.ownBlock->wpList P ops Q rest (a.put o.dst v') w'):wpList P ops Q (o::rest) a w:=
 wpList_plain b fun _ i=>D1 S s x d hs hown e V c ms f g H fun v' w' j k=>i _ _ (h v' w' j k)
end
theorem aG.setRow {S:Nat->Prop} {a w:World} (h:aG S a w) (g:Nat) (cs:Array Value) (hp:g<a.heap.size->S g):aG S a (w.setRow g cs):=
 h.trans (T:=fun k=>k=g) ⟨rfl,rfl,rfl,by simp,fun k _ hn=>setRow_other _ _ _ _ hn⟩ fun i hi e=>by subst e;exact hp hi
def bV (b:UInt8):Value:=bf gx (b.toNat:Int)
theorem eN (w:World) (m:Nat):Below w.heap.size w (w.drewN m):=⟨rfl,rfl,rfl,ah _,fun _ _=>rfl⟩
def bs (l:List UInt8):ByteArray:=⟨l.toArray⟩
theorem aP (l:List UInt8):(bs l).size=l.length:=by unfold bs;simp[ByteArray.size]
theorem yC (l m:List UInt8):bs l++bs m=bs (l++m):=by apply ByteArray.ext;apply Array.ext';simp[bs]
theorem Ob (s:ByteArray):bs s.data.toList=s:=rfl
theorem bS (l:List UInt8):(bs l).data.toList=l:=rfl
theorem bt (a:List UInt8):(bs a).toList=a:=by rw[ByteArray.toList_eq];rfl
theorem l8 (t:ByteArray) (n:Nat):(t.extract n t.size).data.toList=t.data.toList.drop n:=by simp_all[Array.toList_extract,cg,aZ,bk]
theorem j6 (t:ByteArray) (n:Nat):t.extract 0 n=bs (t.data.toList.take n):=by apply ByteArray.ext;apply Array.ext';rw[ByteArray.data_extract,Array.toList_extract,List.extract_eq_take_drop];rfl
def Reads (w:World) (v:Value) (l:List (List UInt8)):Prop:=
 ∃(a:Option Addr) (cap:Nat),v=cx a l.length cap/\l.length<=cap/\∀i (hi:i<l.length),∃g o,a=aD ⟨g,o,av⟩/\g<w.heap.size/\∀j (h:j<l.length),w.cell? ⟨g,o+j,av⟩=aD (bR (bs l[j]))
theorem kY {P:Program} {E:TypeId} {size bytes:Nat} {z:Value} (hi:(P.info? E).map (fun i=>(i.zero,i.size,i.bytes))=aD (aD z,size,bytes)):
  ∃i,P.info? E=aD i/\i.zero=aD z/\i.size=size/\i.bytes=bytes:=by
 cases h:P.info? E with
 |none=>rw[h] at hi;cases hi
 |some i=>rw[h] at hi;simp only[Option.map_some,Option.some.injEq,Prod.mk.injEq] at hi;exact⟨i,rfl,hi.1,hi.2.1,hi.2.2⟩
theorem uY (v:Value) (n:Nat):madeCells #[v] n=(bB n v).toArray:=by
 apply Array.ext;·simp[madeCells]
 ·intro k h H;simp[madeCells,Nat.mod_one]
theorem uZ (w:World) (n:Nat) (hn:n<=1000000):(Instr.makeSlice 94 (.int cu n) (.int cu n)).run Tryz.prog w=.ok (.slice (aD ⟨w.heap.size,0,av⟩) n n) (w.alloc (ey (bB n (.int gx 0)).toArray 5)):=by obtain⟨i,hi,h,hs,H⟩:=kY (P:=Tryz.prog) (E:=5) (size:=1) (bytes:=1) (z:=.int gx 0) (by kernel_rfl);have:=run_make (P:=Tryz.prog) w 94 5 i (.int gx 0) Tryz.underlying94 hi h cu cu n n (by omega) (by omega) (by rw[H];omega) (by omega);rw[this,hs,dF,Nat.mul_one,show (Value.int IntKind.u8 0).cells=#[.int gx 0] from rfl,uY]
end
namespace Dk
def fO {α:Type} (L:List α) (ws:List (Nat×α)):List α:=ws.foldl (fun L x=>L.set x.1 x.2) L
theorem nR {α:Type} (L:List α):fO L []=L:=rfl
theorem oV {α:Type} (L:List α) (x:Nat×α) (ws:List (Nat×α)):fO L (x::ws)=fO (L.set x.1 x.2) ws:=rfl
theorem tK {α:Type} (L:List α) (a b:List (Nat×α)):fO L (a++b)=fO (fO L a) b:=by simp[fO]
theorem Kq {α:Type} (L:List α) (i:Nat) (x:α):fO L [(i,x)]=L.set i x:=rfl
theorem gY {α:Type} (ws:List (Nat×α)):∀L:List α,(fO L ws).length=L.length:=by
 induction ws with
 |nil=>intro L;rfl
 |cons x ws i=>intro L;rw[oV,i,bP]
theorem Kr {α β:Type} (T:α->β) (ws:List (Nat×α)):∀L:List α,(fO L ws).map T=fO (L.map T) (ws.map fun x=>(x.1,T x.2)):=by
 induction ws with
 |nil=>intro L;rfl
 |cons x ws i=>intro L;rw[oV,i,List.map_set,bM,oV]
theorem Ks {α:Type} (ws:List (Nat×α)):∀(L:List α) (c:α),c∈fO L ws->c∈L\/∃i,(i,c)∈ws:=by
 induction ws with
 |nil=>intro L c h;exact dc h
 |cons x ws I=>
  intro L c h;rcases I _ _ h with h|⟨i,h⟩;·grind
  ·grind
theorem Ht {α:Type} (L:List α) (ws:List (Nat×α)) (k:Nat) (h:k<ws.length):fO L (ws.take (k+1))=(fO L (ws.take k)).set (ws[k]).1 (ws[k]).2:=by rw[cC h,tK];rfl
def kept {α:Type}:List Bool->List α->List α
 |_,[]=>[]
 |[],_::_=>[]
 |b::k,w::ws=>if b then w::kept k ws else kept k ws
structure cm where
 fU:List (List UInt8)
 loose:List (Nat×List UInt8)
 fuel:Int
 off:Bool
def full (s:List UInt8):List UInt8:=s++bB (512-s.length) 0
theorem fu (s:List UInt8) (h:s.length<=512):(full s).length=512:=by simp[full];omega
def fresh (n:Nat):cm:=⟨bB n (full []),[],-1,false⟩
def cm.now (d:cm):List (List UInt8):=fO d.fU d.loose
def cm.iz (d:cm):cm:={d with fuel:=if 0<d.fuel then d.fuel-1 else d.fuel}
def cm.dead (d:cm):cm:={d with off:=true}
def cm.has (d:cm) (i:Int):Bool:=decide (0<=i)&&decide (i<d.fU.length)
def cm.read (d:cm) (i:Int):List UInt8×Int:=
 if d.off then ([],3) else if d.has i then (d.now.getD i.toNat [],0) else ([],2)
def cm.write (d:cm) (i:Int) (s:List UInt8):Int×cm:=
 if d.off then (3,d) else if !d.has i then (2,d) else if 512<s.length then (5,d) else if d.fuel=0 then (3,d.dead)
 else (0,{d.iz with loose:=d.loose++[(i.toNat,full s)]})
def cm.flush (d:cm):Int×cm:=
 if d.off then (3,d) else if d.fuel=0 then (3,d.dead) else (0,{d.iz with fU:=d.now,loose:=[]})
def cm.u_ (d:cm) (n:Int):cm:={d with fuel:=max n (-1)}
end Dk
section
open Go.RowKit
theorem Kt {k:IntKind} {a b:Int} (h:a=b):Ending.returned (Value.int k a)=eb (bf k b):=by rw[h]
theorem iZ {a b:Bool} (h:a=b):Ending.returned (Value.bool a)=eb (eX b):=by rw[h]
section
variable {α β:Type} {K:Elem α} {K':Elem β} {E E' T:TypeId} {B B':Nat} {w:World} {v v':Value} {l:List α} {l':List β}
theorem Own.typed (h:Own K E B w v l) {k:Nat} (H:v.ownBlock=aD k):∃cur,w.heap[k]?=aD (ey cur E (0,0)):=by
 rcases h.2 with⟨rfl,_⟩|⟨g,cap,cur,rfl,_,hh,_⟩;·simp[Value.ownBlock] at H
 ·simp[Value.ownBlock] at H;subst H;exact⟨cur,hh⟩
theorem Own.dG (h:Own K E B w v l) {g:Nat} {t:TypeId} {cs:List Value} (H:aU w g t cs) (a:E≠t):v.ownBlock≠aD g:=by intro e;obtain⟨cur,hc⟩:=h.typed e;unfold aU at H;rw[H] at hc;injection hc with hc;injection hc with _ hc;exact a hc.symm
theorem Own.D2 (h:Own K E B w v l) (h':Own K' E' B' w v' l') (H:E≠E') {k:Nat} (a:v.ownBlock=aD k):v'.ownBlock≠aD k:=by intro e;obtain⟨cur,hc⟩:=h.typed a;obtain⟨c,y⟩:=h'.typed e;rw[hc] at y;injection y with y;injection y with _ y;exact H y
theorem aU.ne {g G:Nat} {t t':TypeId} {cs c:List Value} (h:aU w g t cs) (h':aU w G t' c) (H:t≠t'):g≠G:=by grind [aU]
theorem Own.slot {g n c:Nat} (h:Own K E B w (cx (aD ⟨g,0,av⟩) n c) l):g<w.heap.size/\n=l.length/\l.length<=c:=by
 rcases h.2 with⟨e,_⟩|⟨G,C,cur,e,_,hh,hc,_⟩;·cases e
 ·grind
end
def ptr (c:Nat):Value:=e7 (aD ⟨c,0,av⟩)
def dH:Elem Nat:=oU ptr (fun _=>rfl)
def p5:Elem (Nat×Nat):=⟨fun x=>[bf cu x.1,ptr x.2],2,by decide,fun _=>rfl,by
 intro a u hu
 simp only[aX,List.not_mem_nil,or_false] at hu
 rcases hu with rfl|rfl<;>rfl⟩
theorem Ys:dx Tryz.prog 100 190 p5.size:=dx.of (size:=2) (bytes:=16) (z:=.agg #[.int cu 0,.pointer av]) Tryz.underlying100 (by kernel_rfl) rfl (by decide)
structure eO (w:World) (g f cf l cl:Nat) (vo:Value) (n:Int) (off:Bool) (pf pl:List Nat) (ws:List (Nat×Nat)):Prop where
 blk:aU w g 102 [cx (aD ⟨f,0,av⟩) pf.length cf,cx (aD ⟨l,0,av⟩) pl.length cl,vo,bf cu n,eX off]
 of:Own dH 138 0 w (cx (aD ⟨f,0,av⟩) pf.length cf) pf
 ol:Own dH 138 0 w (cx (aD ⟨l,0,av⟩) pl.length cl) pl
 oo:Own p5 190 0 w vo ws
 fl:f≠l
namespace eO
variable {w w':World} {g f cf l cl:Nat} {vo:Value} {n:Int} {off:Bool} {pf pl:List Nat} {ws:List (Nat×Nat)}
theorem gf (h:eO w g f cf l cl vo n off pf pl ws):g≠f:=fun e=>h.of.dG h.blk (by decide) (by rw[e];rfl)
theorem gl (h:eO w g f cf l cl vo n off pf pl ws):g≠l:=fun e=>h.ol.dG h.blk (by decide) (by rw[e];rfl)
theorem og (h:eO w g f cf l cl vo n off pf pl ws):vo.ownBlock≠aD g:=h.oo.dG h.blk (by decide)
theorem ofn (h:eO w g f cf l cl vo n off pf pl ws):vo.ownBlock≠aD f:=fun e=>h.oo.D2 h.of (by decide) e rfl
theorem oln (h:eO w g f cf l cl vo n off pf pl ws):vo.ownBlock≠aD l:=fun e=>h.oo.D2 h.ol (by decide) e rfl
theorem but {S:Nat->Prop} (h:eO w g f cf l cl vo n off pf pl ws) (a:aG S w w') (b:¬S g) (c:¬S f) (h3:¬S l) (h4:∀k,vo.ownBlock=aD k->¬S k):eO w' g f cf l cl vo n off pf pl ws:=
 ⟨h.blk.but a b,h.of.but a (fun k H=>by simp[Value.ownBlock] at H;subst H;exact c),h.ol.but a (fun k H=>by simp[Value.ownBlock] at H;subst H;exact h3),h.oo.but a h4,h.fl⟩
theorem alloc (h:eO w g f cf l cl vo n off pf pl ws) (o:Obj):eO (w.alloc o) g f cf l cl vo n off pf pl ws:=
 h.but ((aG.refl (fun _=>False) w).alloc o) id id id (fun _ _=>id)
theorem Rz (h:eO w g f cf l cl vo n off pf pl ws) (j:Nat) (u:Value) (G:Value) (n':Int) (o:Bool) (W:List (Nat×Nat))
  (H:Own p5 190 0 w G W)
  (hs:[Value.slice (aD ⟨f,0,av⟩) pf.length cf,cx (aD ⟨l,0,av⟩) pl.length cl,vo,bf cu n,eX off].set j u=[cx (aD ⟨f,0,av⟩) pf.length cf,cx (aD ⟨l,0,av⟩) pl.length cl,G,bf cu n',eX o]):
  eO (w.setCell ⟨g,j,av⟩ u) g f cf l cl G n' o pf pl W:=by
 have b:aG (· =g) w (w.setCell ⟨g,j,av⟩ u):=(aG.refl _ w).setCell _ _ (fun _=>rfl);refine⟨?_,h.of.but b (fun k a e=>h.gf ?_),h.ol.but b (fun k a e=>h.gl ?_),H.but b (fun k a e=> ?_),h.fl⟩;·rw[<-hs];exact h.blk.set j u
 ·simp[Value.ownBlock] at a;omega
 ·simp[Value.ownBlock] at a;omega
 ·exact H.dG h.blk (by decide) (by rw[a,e])
theorem Oc (h:eO w g f cf l cl vo n off pf pl ws) (n':Int):eO (w.setCell ⟨g,3,av⟩ (bf cu n')) g f cf l cl vo n' off pf pl ws:=h.Rz 3 _ vo n' off ws h.oo rfl
theorem Od (h:eO w g f cf l cl vo n off pf pl ws) (b:Bool):eO (w.setCell ⟨g,4,av⟩ (eX b)) g f cf l cl vo n b pf pl ws:=h.Rz 4 _ vo n b ws h.oo rfl
theorem Ku (h:eO w g f cf l cl vo n off pf pl ws) (G:Value) (W:List (Nat×Nat)) (H:Own p5 190 0 w G W):eO (w.setCell ⟨g,2,av⟩ G) g f cf l cl G n off pf pl W:=h.Rz 2 _ G n off W H rfl
theorem Oe (h:eO w g f cf l cl vo n off pf pl ws) (j c:Nat):eO (w.setCell ⟨f,j,av⟩ (ptr c)) g f cf l cl vo n off (pf.set j c) pl ws:=by
 have H:aG (· =f) w (w.setCell ⟨f,j,av⟩ (ptr c)):=(aG.refl _ w).setCell _ _ (fun _=>rfl);have hs:=Own.store h.of j c;refine⟨?_, ?_,h.ol.but H (fun k a e=>h.fl ?_),h.oo.but H (fun k a e=>h.ofn (by rw[a,e])),h.fl⟩;·rw[bP];exact h.blk.but H h.gf
 ·rw[bP];exact hs
 ·simp[Value.ownBlock] at a;omega
theorem Hu (h:eO w g f cf l cl vo n off pf pl ws) (j c:Nat):eO (w.setCell ⟨l,j,av⟩ (ptr c)) g f cf l cl vo n off pf (pl.set j c) ws:=by
 have H:aG (· =l) w (w.setCell ⟨l,j,av⟩ (ptr c)):=(aG.refl _ w).setCell _ _ (fun _=>rfl);have hs:=Own.store h.ol j c;refine⟨?_,h.of.but H (fun k a e=>h.fl ?_), ?_,h.oo.but H (fun k a e=>h.oln (by rw[a,e])),h.fl⟩;·rw[bP];exact h.blk.but H h.gl
 ·simp[Value.ownBlock] at a;omega
 ·rw[bP];exact hs
theorem D3 (h:eO w g f cf l cl vo n off pf pl ws) (hg:w.grownBy w' vo.ownBlock) (G:Value) (W:List (Nat×Nat)) (b:Own p5 190 0 w' G W):
  eO (w'.setCell ⟨g,2,av⟩ G) g f cf l cl G n off pf pl W:=by
 have a:aG (fun k=>vo.ownBlock=aD k) w w':=⟨hg.os,hg.tape,hg.output,hg.size,fun k H hn=>hg.block k H (fun e=>hn e.symm)⟩;have h':aU w' g 102 [cx (aD ⟨f,0,av⟩) pf.length cf,cx (aD ⟨l,0,av⟩) pl.length cl,vo,bf cu n,eX off]:=h.blk.but a h.og;have c:=h.of.but a (fun k H=>by simp[Value.ownBlock] at H;subst H;exact h.ofn);have h3:=h.ol.but a (fun k H=>by simp[Value.ownBlock] at H;subst H;exact h.oln);have A:aG (· =g) w' (w'.setCell ⟨g,2,av⟩ G):=(aG.refl _ w').setCell _ _ (fun _=>rfl);refine⟨h'.set 2 G,c.but A (fun k H e=>h.gf ?_),h3.but A (fun k H e=>h.gl ?_),b.but A (fun k H e=>b.dG h' (by decide) (by rw[H,e])),h.fl⟩;·simp[Value.ownBlock] at H;omega
 ·simp[Value.ownBlock] at H;omega
end eO
def Kv (w:World) (F:Nat->Prop) (T:Nat->List UInt8) (cs:List Nat):Prop:=∀c∈cs,aU w c 140 ((T c).map bV)/\F c/\(T c).length=512
theorem Kv.but {S:Nat->Prop} {w w':World} {F:Nat->Prop} {T:Nat->List UInt8} {cs:List Nat} (h:Kv w F T cs) (H:aG S w w') (hn:∀c∈cs,¬S c):Kv w' F T cs:=
 fun c hc=>⟨(h c hc).1.but H (hn c hc),(h c hc).2⟩
def pK (w:World) (F:Nat->Prop) (g:Nat) (d:Dk.cm):Prop:=
 ∃(f cf l cl:Nat) (vo:Value) (n:Int) (pf pl:List Nat) (ws:List (Nat×Nat)) (T:Nat->List UInt8),
  eO w g f cf l cl vo n d.off pf pl ws/\Kv w F T (pf++(pl++ws.map (·.2)))/\d.fU=pf.map T/\d.loose=ws.map (fun x=>(x.1,T x.2))/\d.now=pl.map T/\
  max n (-1)=d.fuel/\n<=9223372036854775807/\-9223372036854775808<=n/\1<=pf.length/\pf.length<=65536/\(∀x∈ws,x.1<pf.length)/\
  F g/\F f/\F l/\(∀k,vo.ownBlock=aD k->F k)/\∀k,F k->k<w.heap.size
def bY (F:Nat->Prop) (w:World) (f:Nat->Prop) (w':World):Prop:=aG F w w'/\∀k,f k->F k\/w.heap.size<=k
theorem bY.refl (F:Nat->Prop) (w:World):bY F w F w:=⟨aG.refl _ _,fun _ h=>dc h⟩
theorem bY.trans {F a f:Nat->Prop} {w w' W:World} (h:bY F w a w') (k:bY a w' f W):bY F w f W:=
 ⟨h.1.trans k.1 (fun i hi hf=>(h.2 i hf).resolve_right (by omega)),fun i hi=>by
  rcases k.2 i hi with hf|hl;·exact h.2 i hf
  ·exact dn (aH h.1.size hl)⟩
theorem pK.lt {w:World} {F:Nat->Prop} {g:Nat} {d:Dk.cm} (h:pK w F g d):∀k,F k->k<w.heap.size:=by obtain⟨_,_,_,_,_,_,_,_,_,_,_,_,_,_,_,_,_,_,_,_,_,_,_,_,_,h⟩:=h;exact h
theorem pK.but {S:Nat->Prop} {w w':World} {F:Nat->Prop} {g:Nat} {d:Dk.cm} (h:pK w F g d) (i:aG S w w') (hn:∀k,F k->¬S k):pK w' F g d:=by obtain⟨f,cf,l,cl,vo,n,pf,pl,ws,T,q,p,h3,h4,hp,r,s,j,t,u,v,H,a,b,e,m⟩:=h;exact⟨f,cf,l,cl,vo,n,pf,pl,ws,T,q.but i (hn _ H) (hn _ a) (hn _ b) (fun k o=>hn _ (e k o)),p.but i (fun c hc=>hn c (p c hc).2.1),h3,h4,hp,r,s,j,t,u,v,H,a,b,e,fun k o=>dD (m k o) i.size⟩
theorem eY (w:World) (F:Nat->Prop) (g:Nat) (d:Dk.cm) (hd:pK w F g d):
  Calls Tryz.prog 41 #[ptr g] w fun e w'=>e=eb (eX d.off)/\w'=w:=by
 obtain⟨f,cf,l,cl,vo,n,pf,pl,ws,T,h,H,h3,h4,hp,m,o,a,p,q,r,b,c,i,j,k⟩:=hd;have c4:w.cell? ⟨g,4,av⟩=aD (eX d.off):=h.blk.cell rfl;clear h H h3 h4 hp;go_enter Tryz.func41,Tryz.ntmps41;unfold ptr;go_wp2;go_ret;exact⟨rfl,rfl⟩
theorem qI (w:World) (F:Nat->Prop) (g:Nat) (d:Dk.cm) (hd:pK w F g d):
  Calls Tryz.prog 40 #[ptr g] w fun e w'=>e=eb (bf cu d.fU.length)/\w'=w:=by
 obtain⟨f,cf,l,cl,vo,n,pf,pl,ws,T,h,H,h3,h4,hp,m,o,a,p,q,r,b,c,i,j,k⟩:=hd;have c0:w.cell? ⟨g,0,av⟩=aD (cx (aD ⟨f,0,av⟩) pf.length cf):=h.blk.cell rfl;have hl:d.fU.length=pf.length:=by rw[h3,aT]
 rw[hl];clear h H h3 h4 hl hp;go_enter Tryz.func40,Tryz.ntmps40;unfold ptr;go_wp2;go_ret;exact⟨rfl,rfl⟩
theorem oW (w:World) (F:Nat->Prop) (g:Nat) (d:Dk.cm) (i:Int) (hd:pK w F g d):
  Calls Tryz.prog 152 #[ptr g,bf cu i] w fun e w'=>e=eb (eX (d.has i))/\w'=w:=by
 obtain⟨f,cf,l,cl,vo,n,pf,pl,ws,T,h,H,h3,h4,hp,o,p,a,q,r,s,b,c,j,k,m⟩:=hd;have c0:w.cell? ⟨g,0,av⟩=aD (cx (aD ⟨f,0,av⟩) pf.length cf):=h.blk.cell rfl;have hl:d.fU.length=pf.length:=by rw[h3,aT]
 unfold Dk.cm.has;rw[hl];clear h H h3 h4 hl hp;by_cases hi:0<=i;·go_enter Tryz.func152,Tryz.ntmps152;unfold ptr;go_wp2;go_ret;refine⟨iZ ?_,rfl⟩;simp[hi]
 ·go_enter Tryz.func152,Tryz.ntmps152;unfold ptr;go_wp2;go_ret;refine⟨iZ ?_,rfl⟩;simp only[Bool.false_eq,Bool.and_eq_false_iff,decide_eq_false_iff_not];omega
theorem pK.u_ {w:World} {F:Nat->Prop} {g:Nat} {d:Dk.cm} (n:Int) (hd:pK w F g d) (q:-9223372036854775808<=n) (r:n<=9223372036854775807):pK (w.setCell ⟨g,3,av⟩ (bf cu n)) F g (d.u_ n)/\bY F w F (w.setCell ⟨g,3,av⟩ (bf cu n)):=by
 obtain⟨f,cf,l,cl,vo,m,pf,pl,ws,T,o,p,s,t,u,A,B,v,x,y,z,K,a,b,h,i⟩:=hd;have H:aG (· =g) w (w.setCell ⟨g,3,av⟩ (bf cu n)):=(aG.refl _ w).setCell _ _ (fun _=>rfl);refine⟨⟨f,cf,l,cl,vo,n,pf,pl,ws,T,o.Oc n,p.but H (fun c hc e=>(p c hc).1.ne o.blk (by decide) e),s,t,u,rfl,r,q,x,y,z,K,a,b,h,fun k j=> ?_⟩, ?_,fun k j=>dc j⟩;·have:=i k j;have:=H.size;omega
 ·exact H.mono (fun k _ e=>e▸K)
theorem pK.dead {w:World} {F:Nat->Prop} {g:Nat} {d:Dk.cm} (hd:pK w F g d):pK (w.setCell ⟨g,4,av⟩ (eX true)) F g d.dead/\bY F w F (w.setCell ⟨g,4,av⟩ (eX true)):=by
 obtain⟨f,cf,l,cl,vo,m,pf,pl,ws,T,o,p,q,r,s,t,u,a,v,x,y,K,b,h,i,j⟩:=hd;have H:aG (· =g) w (w.setCell ⟨g,4,av⟩ (eX true)):=(aG.refl _ w).setCell _ _ (fun _=>rfl);refine⟨⟨f,cf,l,cl,vo,m,pf,pl,ws,T,o.Od true,p.but H (fun c hc e=>(p c hc).1.ne o.blk (by decide) e),q,r,s,t,u,a,v,x,y,K,b,h,i,fun k n=> ?_⟩, ?_,fun k n=>dc n⟩;·have:=j k n;have:=H.size;omega
 ·exact H.mono (fun k _ e=>e▸K)
theorem qJ (w:World) (F:Nat->Prop) (g:Nat) (d:Dk.cm) (hd:pK w F g d):
  Calls Tryz.prog 108 #[ptr g] w fun e w'=>e=eb (eX (decide (d.fuel≠0)))/\pK w' F g (if d.fuel=0 then d.dead else d.iz)/\bY F w F w':=by
 have a:=aa hd;obtain⟨f,cf,l,cl,vo,n,pf,pl,ws,T,k,i,j,m,p,q,z,t,A,B,r,u,v,x,K,b⟩:=hd;have c3:w.cell? ⟨g,3,av⟩=aD (bf cu n):=k.blk.cell rfl;have f3:w.frozen? ⟨g,3,av⟩=false:=k.blk.frozen 3;have c4:w.cell? ⟨g,4,av⟩=aD (eX d.off):=k.blk.cell rfl;have C:w.frozen? ⟨g,4,av⟩=false:=k.blk.frozen 4;have H:=aa (And.intro q (And.intro i (And.intro j (And.intro m (And.intro p r)))));clear k i j m p q r b K;by_cases y:n=0
 ·subst y;have hf:d.fuel=0:=by rw[<-H.o.1];rfl
  rw[if_pos hf];go_enter Tryz.func108,Tryz.ntmps108;unfold ptr;go_wp2;go_ret;exact⟨iZ (by rw[decide_eq_false];exact fun h=>h hf),a.o.dead⟩
 ·have hf:¬d.fuel=0:=by rw[<-H.o.1];omega
  rw[if_neg hf];by_cases hp:0<n;·have c:n>0:=hp;have D:IntKind.i64.wrap (n-1)=n-1:=(by rw[IntKind.wrap_i64];omega);go_enter Tryz.func108,Tryz.ntmps108;unfold ptr;go_wp2;go_ret;have s:=a.o.u_ (n-1) (by omega) (by omega);have e:d.u_ (n-1)=d.iz:=(by have:=H.o.1;unfold Dk.cm.u_ Dk.cm.iz;congr 1;rw[if_pos (by omega)];omega);rw[e] at s;refine⟨iZ (by rw[decide_eq_true hf]),s⟩
  ·have c:¬n>0:=hp;go_enter Tryz.func108,Tryz.ntmps108;unfold ptr;go_wp2;go_ret;have e:d.iz=d:=(by have:=H.o.1;unfold Dk.cm.iz;rw[if_neg (by omega)]);rw[e];exact⟨rfl,a.o,bY.refl _ _⟩
theorem sr (g i:Nat):(⟨g,0,av⟩:Addr).add i=⟨g,i,av⟩:=by unfold Addr.add;split<;>simp_all
theorem pS (w:World) (c:Nat):(Instr.sliceAt 140 (e7 (aD ⟨c,0,av⟩)) av av av).run Tryz.prog w=.ok (cx (aD ⟨c,0,av⟩) 512 512) w:=by
 have e:Tryz.prog.arrayLen 140=512:=by kernel_rfl
 have E:Tryz.prog.elem 140=5:=by kernel_rfl
 have a:=run_sliceAt_array_all (P:=Tryz.prog) w 140 ⟨c,0,av⟩ (by rw[e,E];kernel_rfl);rw[a,e,E];show ((sizeOf 5).run Tryz.prog w).andThen _=_;rw[Tryz.sizeOf5];simp[go_sem,Addr.add]
theorem zU (w:World) (c:Nat) (t:List UInt8) (h:aU w c 140 (t.map bV)) (hl:t.length=512):(convert 94 9 (cx (aD ⟨c,0,av⟩) 512 512)).run Tryz.prog w=.ok (bR (bs t)) w:=by
 have:=run_convert_bytes_back (P:=Tryz.prog) w 94 9 5 ⟨c,0,av⟩ 512 t (by kernel_rfl) (by kernel_rfl) (by kernel_rfl) (by
  intro i hi;rw[sr];refine h.cell ?_;rw[cD,aK hi];rfl)
 rw[hl] at this;exact this
theorem BA (w:World) (F:Nat->Prop) (g:Nat) (d:Dk.cm) (i:Int) (hd:pK w F g d):
  Calls Tryz.prog 97 #[ptr g,bf cu i] w fun e w'=>e=eb (gu #[bR (bs (d.read i).1),bf cu (d.read i).2])/\w'=w:=by
 have a:=aa hd;by_cases b:d.off=true
 ·have H:d.read i=([],3):=by unfold Dk.cm.read;rw[if_pos b]
  rw[H];clear H hd;go_enter Tryz.func97,Tryz.ntmps97;go_wp2_with fail;refine (eY _ _ _ _ a.o).mono ?_;rintro e w1 ⟨rfl,rfl⟩;rw[b];go_wp2
  go_ret2
  exact⟨rfl,rfl⟩
 ·have j:d.off=false:=by simpa using b
  by_cases hh:d.has i=true
  ·have hi:0<=i/\i<d.fU.length:=(by simpa[Dk.cm.has] using hh);obtain⟨f,cf,l,cl,vo,n,pf,pl,ws,T,K,q,r,z,s,A,M,B,O,P,D,E,G,I,u,v⟩:=hd;have m:d.fU.length=pf.length:=(by rw[r,aT]);obtain⟨k,rfl⟩:∃k:Nat,i=k:=⟨i.toNat,by omega⟩;have J:pl.length=pf.length:=(by have:=congrArg List.length s;rw[aT,Dk.cm.now,Dk.gY,r,aT] at this;exact this.symm);have x:k<pl.length:=(by omega);have H:d.read k=(T pl[k],0):=(by unfold Dk.cm.read;rw[if_neg b,if_pos hh,s,dF,bZ,cD,aK x];rfl);have h:pl[k]∈pf++(pl++ws.map (·.2)):=zV _ (List.mem_append_left _ (bI x));have c1:w.cell? ⟨g,1,av⟩=aD (cx (aD ⟨l,0,av⟩) pl.length cl):=K.blk.cell rfl;have C:w.cell? ⟨l,k,av⟩=aD (ptr pl[k]):=by
    have:=Own.lies K.ol k (ptr pl[k]) (by rw[show dH.cells pl=pl.map ptr from cV _ _ _,cD,aK x];rfl)
    rwa [bE] at this
   have p:=fun w' (L:w'=w)=>zU w' _ _ (L▸(q _ h).1) (q _ h).2.2;have p:=p w rfl;have Y:=pS w pl[k];have y:=(Own.slot K.ol).2.2;have U:(k:Int)<pl.length:=(by omega);rw[H];generalize pl[k]=c at*;generalize pl.length=N at*;generalize T c=t at*;unfold ptr at C;clear H K q r z s A D u v h m J;go_enter Tryz.func97,Tryz.ntmps97;go_wp2_with fail;refine (eY _ _ _ _ a.o).mono ?_;rintro e w1 ⟨rfl,rfl⟩;rw[j];go_wp2_with fail;refine (oW _ _ _ _ _ a.o).mono ?_;rintro e w1 ⟨rfl,rfl⟩;rw[hh];unfold ptr;go_wp2
   go_ret2
   exact⟨rfl,rfl⟩
  ·have Q:d.has i=false:=(by simpa using hh);have H:d.read i=([],2):=(by unfold Dk.cm.read;rw[if_neg b,if_neg hh]);rw[H];clear H hd;go_enter Tryz.func97,Tryz.ntmps97;go_wp2_with fail;refine (eY _ _ _ _ a.o).mono ?_;rintro e w1 ⟨rfl,rfl⟩;rw[j];go_wp2_with fail;refine (oW _ _ _ _ _ a.o).mono ?_;rintro e w1 ⟨rfl,rfl⟩;rw[Q];go_wp2
   go_ret2
   exact⟨rfl,rfl⟩
section
variable {P:Program}
theorem su (w:World) (base:Nat) (t ty e:TypeId) (i:TypeInfo) (z:Value) (size bytes:Nat) (s:P.underlying t=aD (.slice e)) (hi:P.info? e=aD i) (y:i.zero=aD z)
  (h:i.size=size) (d:i.bytes=bytes) (q:z.cells.size=size) (r:0<size)
  (v:Value) (n:Nat) (xs:List Value) (hown:w.ownsRow base e size v n xs)
  (a:Addr) (m c:Nat) (news:List Value) (hl:news.length=m*size) (H:∀j u,news[j]?=aD u->w.cell? (a.add j)=aD u) (A:∀u∈news,u.oneCell'=true)
  (f:n+m<=maxLen) (b:(n+m)*bytes<=140737488355328) (l:base<=w.heap.size):
  ∃v' w',(Builtin.append_ #[t,t] ty #[v,.slice (aD a) m c]).run P w=.ok v' w'/\w'.ownsRow base e size v' (n+m) (xs++news)/\w.grownBy w' v.ownBlock/\
   (v'.ownBlock=v.ownBlock\/∀k,v'.ownBlock=aD k->w.heap.size<=k):=by
 obtain⟨v',w',hr,D,h3,_⟩:=run_append_own (P:=P) w base t ty e i z size bytes s hi y h d q r v n xs hown a m c news hl H A f b l
 refine⟨v',w',hr,D,h3, ?_⟩
 have o:=hown
 rcases hown.2 with⟨rfl,rfl⟩|⟨g,cap,cur,rfl,Q,hg,E,F,hcs,L⟩
 ·obtain⟨v2,W,K,B,_⟩:=run_append_own (P:=P) w w.heap.size t ty e i z size bytes s hi y h d q r (.slice av 0 0) 0 xs ⟨hown.1,dc ⟨rfl,rfl⟩⟩ a m c news hl H A f b (ah _);rw[hr] at K;injection K with e1 e2;subst e1 e2;exact dn fun k C=>(B.lt k C).1
 ·by_cases p:n+m<=cap;·obtain⟨W,K,_⟩:=run_append_fits (P:=P) w base t ty e i size s hi h g n cap xs o a m c news hl H A p;rw[hr] at K;injection K with e1 e2;subst e1;exact dc rfl
  ·subst h d;have holds:∀j u,xs[j]?=aD u->w.cell? ((⟨g,0,av⟩:Addr).add j)=aD u:=hown.cells (g:=g) rfl;have x:n+m<=9223372036854775807:=(by simp only[maxLen] at f;omega);have K:=run_append_grow (P:=P) w t ty e i z s hi y ⟨g,0,av⟩ n cap xs hown.1 holds a m c news hl H (by omega) (by omega) (growslice_fits (by omega) b);rw[hr] at K;injection K with e1 e2;subst e1;refine dn fun k C=> ?_;simp[Value.ownBlock] at C;omega
variable {α:Type} {K:Elem α} {E T:TypeId} {B:Nat} {w:World} {v:Value} {l:List α}
theorem gw (S:dx P T E K.size) {o:Oper} {a:Act} {K':Act->World->Prop} {Q:Exit->Act->World->Prop} (s x:Operand)
  (p:o.op=.call {callee:=.builtin .append,args:=#[s,x],argTypes:=#[T,T]})
  (hs:a.eval s=v) (hown:Own K E B w v l) (q:B<=w.heap.size)
  (g d m c:Nat) (ms:List α) (r:a.eval x=cx (aD ⟨g,d,av⟩) m c) (n:ms.length=m) (H:bu K w g d ms) (e:l.length+m<=1000000000)
  (h:∀v' w',Own K E B w' v' (l++ms)->w.grownBy w' v.ownBlock->(v'.ownBlock=v.ownBlock\/∀k,v'.ownBlock=aD k->w.heap.size<=k)->K' (a.put o.dst v') w'):o.wp P a w K' Q:=by
 obtain⟨i,z,hi,t,b,f,j⟩:=S.info;obtain⟨v',w',hr,u,h3,h4⟩:=su (P:=P) w B T o.type E i z K.size i.bytes S.under hi t b rfl f K.pos v l.length (K.cells l) hown ⟨g,d,av⟩ m c (K.cells ms) (by rw[K.b_,n]) H.news (K.oT _) (by unfold maxLen;omega) (aH (Nat.mul_le_mul e j) (by decide)) q;unfold Oper.wp execOp;simp only[p,resolve,invoke,builtin,Sem.run_bind,Sem.run_pure,Result.andThen_ok,List.map_toArray,bM,List.map_nil,hs,r,hr];refine h v' w' ?_ h3 h4;unfold Own;rw[au,K.b9,n];exact u
theorem cT (S:dx P T E K.size) {ops:Array Oper} {rest:List Oper} {o:Oper} {a:Act} {Q:Exit->Act->World->Prop} (e:o.guard=av) (s x:Operand)
  (f:o.op=.call {callee:=.builtin .append,args:=#[s,x],argTypes:=#[T,T]})
  (hs:a.eval s=v) (hown:Own K E B w v l) (i:B<=w.heap.size)
  (g d m c:Nat) (ms:List α) (j:a.eval x=cx (aD ⟨g,d,av⟩) m c) (n:ms.length=m) (H:bu K w g d ms) (b:l.length+m<=1000000000)
  (h:∀v' w',Own K E B w' v' (l++ms)->w.grownBy w' v.ownBlock->(v'.ownBlock=v.ownBlock\/∀k,v'.ownBlock=aD k->w.heap.size<=k)->wpList P ops Q rest (a.put o.dst v') w'):wpList P ops Q (o::rest) a w:=
 wpList_plain e fun _ p=>gw S s x f hs hown i g d m c ms j n H b fun v' w' q r h3=>p _ _ (h v' w' q r h3)
end
end
section
open Go.RowKit Lib
theorem zW {P:Program} (w:World) (a S ty elem:TypeId) (g d D:Nat) (s:ByteArray) (cur:Array Value) (t:TypeId)
  (hu:P.underlying a=aD (.slice elem)) (hs:(P.info? elem).map (·.size)=aD 1)
  (hg:w.heap[g]?=aD (ey cur t (0,0))) (hn:s.size<=d) (hfit:s.size<=cur.size):
  (Builtin.copy_ #[a,S] ty #[.slice (aD ⟨g,0,av⟩) d D,.string s]).run P w=
   .ok (goInt s.size) (w.setRow g (strCells s++cur.toList.drop s.size).toArray):=by
 have hl:=fun size=>run_firstCells_string (P:=P) w size s
 have h:=run_storeCells_at P g 0 t (strCells s) 0 cur w hg (by simpa[strCells_length] using hfit) (strCells_oneCell s)
 simp only[bE,strCells_length,List.take_zero,dI] at h
 have H:Nat.min s.size d=s.size:=ct hn
 cases b:P.info? elem with
 |none=>simp[b] at hs
 |some i=>simp[Builtin.copy_,run_underlying hu,Builtin.lenOf,sizeOf,typeInfo,b,H,hl,h]
theorem nE {P:Program} {w:World} {ops:Array Oper} {rest:List Oper} {o:Oper} {a:Act} {Q:Exit->Act->World->Prop} (c:o.guard=av) (d s:Operand) (e i:TypeId)
  (j:o.op=.call {callee:=.builtin .copy,args:=#[d,s],argTypes:=#[e,i]}) (elem:TypeId) (hu:P.underlying e=aD (.slice elem)) (f:(P.info? elem).map (·.size)=aD 1)
  (g D b:Nat) (S:ByteArray) (hd:a.eval d=.slice (aD ⟨g,0,av⟩) D b) (hs:a.eval s=.string S)
  (cur:Array Value) (t:TypeId) (hg:w.heap[g]?=aD (ey cur t (0,0))) (hn:S.size<=D) (hfit:S.size<=cur.size)
  (h:wpList P ops Q rest (a.put o.dst (goInt S.size)) (w.setRow g (strCells S++cur.toList.drop S.size).toArray)):wpList P ops Q (o::rest) a w:=by
 refine wpList_plain c fun K k=> ?_;have H:=zW (P:=P) w e i o.type elem g D b S cur t hu f hg hn hfit;unfold Oper.wp;simp[execOp,j,resolve,invoke,builtin,hd,hs,H,Result.andThen];exact k _ _ h
def jt:List Value:=bB 512 (bf gx 0)
theorem qK (w:World):(zeroValue 140).run Tryz.prog w=.ok (iK jt.toArray) w:=by kernel_rfl
theorem ve (s:ByteArray):strCells s++jt.drop s.size=(Dk.full s.data.toList).map bV:=by unfold Dk.full jt strCells;rw[bQ,List.map_replicate,List.drop_replicate,bk];rfl
theorem Of (w:World) (i c:Nat):bu p5 (w.alloc (ey #[bf cu i,ptr c] 190)) w.heap.size 0 [(i,c)]:=
 bu.fN (aU.new w #[bf cu i,ptr c] 190) rfl
theorem pK.wrote {w1 W w:World} {F:Nat->Prop} {g f cf l cl c k:Nat} {vo v':Value} {n:Int} {pf pl:List Nat} {ws:List (Nat×Nat)} {T:Nat->List UInt8} {d:Dk.cm} {t:List UInt8}
  (i:aG (· =c) w1 W) (hc:w1.heap.size=c) (Q:aU W c 140 (t.map bV)) (O:t.length=512) (v:Kv W F T (pf++(pl++ws.map (·.2)))) (m:eO W g f cf l cl vo n d.off pf pl ws)
  (j:eO w g f cf l cl v' n d.off pf (pl.set k c) (ws++[(k,c)])) (D:aG (fun x=>x=g\/x=l\/vo.ownBlock=aD x) W w) (z:∀x,v'.ownBlock=aD x->F x\/w1.heap.size<=x)
  (P:d.fU=pf.map T) (A:d.loose=ws.map (fun x=>(x.1,T x.2))) (B:d.now=pl.map T) (C:max n (-1)=d.fuel) (E:n<=9223372036854775807) (o:-9223372036854775808<=n) (G:1<=pf.length) (I:pf.length<=65536)
  (R:∀x∈ws,x.1<pf.length) (K:F g) (p:F f) (a:F l) (q:∀x,vo.ownBlock=aD x->F x) (r:∀x,F x->x<w1.heap.size) (S:k<pl.length) (U:pl.length=pf.length):
  ∃y,pK w y g {d with loose:=d.loose++[(k,t)]}/\bY F w1 y w:=by
 have Y:∀x,F x->x≠c:=fun x H e=>by have:=r x H;omega
 have J:=i.size;have L:=D.size;have hcs:=Q.lt;have s:∀x∈pf++(pl++ws.map (·.2)),(if x=c then t else T x)=T x:=fun x H=>if_neg (Y x (v x H).2.1);refine⟨fun x=>F x\/(w1.heap.size<=x/\x<w.heap.size),⟨f,cf,l,cl,v',n,pf,pl.set k c,ws++[(k,c)],fun x=>if x=c then t else T x,j, ?_, ?_, ?_, ?_,C,E,o,G,I, ?_,dc K,dc p,dc a, ?_, ?_⟩, ?_, ?_⟩
 ·have hold:∀x∈pf++(pl++ws.map (·.2)),aU w x 140 (((if x=c then t else T x)).map bV)/\(F x\/(w1.heap.size<=x/\x<w.heap.size))/\(if x=c then t else T x).length=512:=by
   intro x H;obtain⟨b,M,h3⟩:=v x H;rw[s x H];refine⟨b.but D ?_,dc M,h3⟩;rintro (e|e|e);·exact b.ne m.blk (by decide) e
   ·subst e;obtain⟨cur,N⟩:=m.ol.typed (k:=x) rfl;unfold aU at b;rw[b] at N;injection N with N;injection N with _ N;exact absurd N (by decide)
   ·exact m.oo.dG b (by decide) e
  intro x H;have u:x∈pf++(pl++ws.map (·.2))\/x=c:=by grind
  rcases u with H|H;·exact hold x H
  ·obtain rfl:x=c:=H;refine⟨?_,dn ⟨by omega,by omega⟩, ?_⟩
   ·show aU w x _ ((if x=x then t else T x).map bV);rw[if_pos rfl];refine Q.but D ?_;rintro (e|e|e);·exact Y _ K e.symm
    ·exact Y _ a e.symm
    ·grind
   ·grind
 ·grind [mS,List.mem_append_left]
 ·show d.loose++[(k,t)]=_;rw[A,bQ];congr 1;·exact mS fun x H=>by show _=(x.1,if x.2=c then t else T x.2);rw[s x.2 (zV _ (zV _ (List.mem_map.2 ⟨x,H,rfl⟩)))]
  ·simp
 ·show Dk.fO d.fU (d.loose++[(k,t)])=_;rw[Dk.tK,Dk.Kq,List.map_set,if_pos rfl];congr 1;rw[show Dk.fO d.fU d.loose=d.now from rfl,B];exact mS fun x H=>(s x (zV _ (List.mem_append_left _ H))).symm
 ·grind
 ·intro x H;rcases z x H with h|h;·exact dc h
  ·exact dn ⟨h,(j.oo.block x H).2⟩
 ·grind
 ·have b:aG (fun x=>x=c\/(x=g\/x=l\/vo.ownBlock=aD x)) w1 w:=(i.mono (fun x _ e=>dc e)).trans D (fun x _ e=>dn e);refine b.mono ?_;rintro x H (e|e|e|e);·omega
  ·exact e▸K
  ·exact e▸a
  ·exact q x e
 ·grind
theorem Hv (w:World) (F:Nat->Prop) (g:Nat) (d:Dk.cm) (i:Int) (s:ByteArray) (hd:pK w F g d) (hn:d.loose.length<=900000000):
  Calls Tryz.prog 98 #[ptr g,bf cu i,bR s] w fun e w'=>e=eb (bf cu (d.write i s.data.toList).1)/\∃F',pK w' F' g (d.write i s.data.toList).2/\bY F w F' w':=by
 have p:=aa hd;have A:s.data.toList.length=s.size:=bk;by_cases B:d.off=true
 ·have j:d.write i s.data.toList=(3,d):=by unfold Dk.cm.write;rw[if_pos B]
  rw[j];clear j hd;go_enter Tryz.func98,Tryz.ntmps98;go_wp2_with fail;refine (eY _ _ _ _ p.o).mono ?_;rintro e w1 ⟨rfl,rfl⟩;rw[B];go_wp2;go_ret;exact⟨rfl,_,p.o,bY.refl _ _⟩
 ·have r:d.off=false:=by simpa using B
  by_cases hh:d.has i=true
  ·have hi:0<=i/\i<d.fU.length:=(by simpa[Dk.cm.has] using hh);by_cases hs:s.size<=512
   ·have yF:¬((s.size:Int)>512):=(by omega);by_cases hf:d.fuel=0;·have j:d.write i s.data.toList=(3,d.dead):=(by unfold Dk.cm.write;rw[if_neg B,hh,A,if_neg (by decide),if_neg (by omega),if_pos hf]);have b:=fun w' (hw:w'=w)=>qJ w' F g d (hw▸hd);rw[if_pos hf,show decide (d.fuel≠0)=false by simp[hf]] at b;have iq:=aa (b w rfl);rw[j];clear j hd b;go_enter Tryz.func98,Tryz.ntmps98;go_wp2_with fail;refine (eY _ _ _ _ p.o).mono ?_;rintro e w1 ⟨rfl,rfl⟩;rw[r];go_wp2_with fail;refine (oW _ _ _ _ _ p.o).mono ?_;rintro e w1 ⟨rfl,rfl⟩;rw[hh];go_wp2_with fail;refine iq.o.mono ?_;rintro e w1 ⟨rfl,v,y⟩;have H12:=aa (And.intro v y);clear v y;go_wp2;go_ret;exact⟨rfl,_,H12.o⟩
    ·have j:d.write i s.data.toList=(0,{d.iz with loose:=d.loose++[(i.toNat,Dk.full s.data.toList)]}):=(by unfold Dk.cm.write;rw[if_neg B,hh,A,if_neg (by decide),if_neg (by omega),if_neg hf]);have b:=fun w' (hw:w'=w)=>qJ w' F g d (hw▸hd);rw[if_neg hf,show decide (d.fuel≠0)=true by simp[hf]] at b;have iq:=aa (b w rfl);rw[j];obtain⟨k,rfl⟩:∃k:Nat,i=k:=⟨i.toNat,by omega⟩;clear j hd b;obtain⟨Z,hZ⟩:∃Z,Z=jt.toArray:=⟨_,rfl⟩;have hz:=fun w=>qK w;rw[<-hZ] at hz;have I:Z.size=512:=(by rw[hZ];rfl);have Yu:¬Z=#[]:=(by intro e;rw[e] at I;cases I);have HZ:=aa hZ;clear hZ;go_enter Tryz.func98,Tryz.ntmps98;go_wp2_with fail;refine (eY _ _ _ _ p.o).mono ?_;rintro e w1 ⟨rfl,rfl⟩;rw[r];go_wp2_with fail;refine (oW _ _ _ _ _ p.o).mono ?_;rintro e w1 ⟨rfl,rfl⟩;rw[hh];go_wp2_with fail;refine iq.o.mono ?_;rintro e w1 ⟨rfl,v,y⟩;have HM:=aa y;clear y;obtain⟨f,cf,l,cl,vo,n,pf,pl,ws,T,k1,k2,C,D,E,J,k6,k6',k7,k8,L,M,N,P,K,m⟩:=v;have yE:=pS (w1.alloc (ey Z 140)) w1.heap.size;go_wp2_with (refine nE rfl _ _ 94 9 rfl 5 (by kernel_rfl) (by kernel_rfl) w1.heap.size 512 512 s rfl rfl Z 140 (heap_alloc_new w1 _) hs (by omega) ?_;refine Hid.o ?_);refine aa ?_;obtain⟨c,hc⟩:∃c,w1.heap.size=c:=⟨_,rfl⟩;rw[hc];obtain⟨W,hW⟩:∃W,W=(w1.alloc (ey Z 140)).setRow c (strCells s++Z.toList.drop s.size).toArray:=⟨_,rfl⟩;rw[<-hW];have bK:aG (· =c) w1 (w1.alloc (ey Z 140)):=(aG.refl _ w1).alloc _;have a:aG (· =c) w1 W:=(by rw[hW];exact bK.setRow c _ (fun _=>rfl));have Q:aU W c 140 ((Dk.full s.data.toList).map bV):=(by rw[<-ve s,hW];have:=setRow_heap (w1.alloc (ey Z 140)) c Z (strCells s++Z.toList.drop s.size).toArray 140 (0,0) (by rw[<-hc];exact heap_alloc_new w1 _);rw[HZ.o] at this |-;exact this);have h:=fun k hk=>m k hk;rw[hc] at h;have u:=k1.but a (fun e=>by have:=h _ M;omega) (fun e=>by have:=h _ N;omega) (fun e=>by have:=h _ P;omega) (fun k hk e=>by have:=h _ (K k hk);omega);have R:=k2.but a (fun x S e=>by have:=h _ (k2 x S).2.1;omega);clear hW bK k1 k2 yE;have HF:d.fU.length=pf.length:=(by rw[show d.fU=d.iz.fU from rfl,C,aT]);have U:pl.length=pf.length:=(by have:=congrArg List.length E;rw[aT,Dk.cm.now,Dk.gY,C,aT] at this;exact this.symm);have Yv:k<pl.length:=(by omega);have uD:(k:Int)<pl.length:=(by omega);have c1:W.cell? ⟨g,1,av⟩=aD (cx (aD ⟨l,0,av⟩) pl.length cl):=u.blk.cell rfl;have clk:W.cell? ⟨l,k,av⟩=aD (ptr pl[k]):=by
      have:=Own.lies u.ol k (ptr pl[k]) (by rw[show dH.cells pl=pl.map ptr from cV _ _ _,cD,aK Yv];rfl)
      rwa [bE] at this
     have flk:W.frozen? ⟨l,k,av⟩=false:=Own.frozen u.ol k;unfold ptr at clk;have q:=u.Hu k c;have G:aG (· =l) W (W.setCell ⟨l,k,av⟩ (ptr c)):=(aG.refl _ W).setCell _ _ (fun _=>rfl);unfold ptr at q G;have c2:(W.setCell ⟨l,k,av⟩ (e7 (aD ⟨c,0,av⟩))).cell? ⟨g,2,av⟩=aD vo:=q.blk.cell rfl;have hws:ws.length<=900000000:=(by rw[show d.iz.loose=d.loose from rfl] at D;rw[D,aT] at hn;exact hn);have X:=aa (And.intro a (And.intro Q (And.intro R (And.intro u (And.intro q (And.intro G (And.intro h (And.intro L (And.intro K (And.intro m (And.intro C (And.intro D (And.intro J (And.intro E U))))))))))))));clear a Q R u q G h L K m C D J E HF U;unfold ptr;go_wp2_with (at_builtin;refine Hid.o ?_);refine aa ?_;obtain⟨a,Q,R,u,q,G,h,L,K,m,C,D,J,E,U⟩:=X.o;clear X;obtain⟨V,hV⟩:∃V,V=W.setCell ⟨l,k,av⟩ (e7 (aD ⟨c,0,av⟩)):=⟨_,rfl⟩;rw[<-hV] at q G |-;have Y:W.heap.size=V.heap.size:=(by rw[hV];simp[iX]);refine cT Ys rfl _ _ rfl rfl (q.oo.alloc _) (aB _) W.heap.size 0 1 1 [(k,c)] rfl rfl (by rw[Y];exact Of V k c) (by omega) ?_;intro v' w4 gC z xV;obtain⟨a',cp',O,_⟩:=Own.slice gC;generalize (ws++[(k,c)]).length=N' at O;subst O;obtain⟨v',O⟩:∃v',v'=Value.slice a' N' cp':=⟨_,rfl⟩;rw[<-O] at gC xV;change (V.alloc (ey #[bf cu k,ptr c] 190)).grownBy w4 vo.ownBlock at z;change v'.ownBlock=vo.ownBlock\/_ at xV;have k4':=(q.alloc (ey #[bf cu k,ptr c] 190)).D3 z v' _ gC;have Qw:aG (fun x=>vo.ownBlock=aD x) (V.alloc (ey #[bf cu k,ptr c] 190)) w4:=⟨z.os,z.tape,z.output,z.size,fun x S hn=>z.block x S (fun e=>hn e.symm)⟩;have b4:=(q.alloc (ey #[bf cu k,ptr c] 190)).blk.but Qw q.og;have c2':w4.cell? ⟨g,2,av⟩=aD vo:=b4.cell rfl;have f2':w4.frozen? ⟨g,2,av⟩=false:=b4.frozen 2
     have dP:aG (fun x=>x=g\/x=l\/vo.ownBlock=aD x) W (w4.setCell ⟨g,2,av⟩ v'):=
      (((G.mono (T:=fun x=>x=g\/x=l\/vo.ownBlock=aD x) (fun x _ e=>dn (dc e))).alloc (ey #[bf cu k,ptr c] 190)).trans Qw (fun x _ e=>dn (dn e))).setCell ⟨g,2,av⟩ v' (fun _=>dc rfl)
     have H:=aa (pK.wrote (d:=d.iz) (t:=Dk.full s.data.toList) a hc Q (Dk.fu _ (by omega)) R u k4' dP (fun x S=>by
      rcases xV with e|e;·grind
      ·have v:=e x S;have y:=a.size;have h3:=G.size;simp at v;exact dn (by omega)) C D E J k6 k6' k7 k8 L M N P K m (by omega) U)
     rw[O] at H;clear O;clear a Q R u q G h L K m C D J E U hV Y gC z xV k4' Qw b4 dP;go_wp2;go_ret;obtain⟨F',v,y⟩:=H.o;exact⟨rfl,F',v,HM.o.trans y⟩
   ·have yF:(s.size:Int)>512:=(by omega);have j:d.write i s.data.toList=(5,d):=(by unfold Dk.cm.write;rw[if_neg B,hh,A,if_neg (by decide),if_pos (by omega)]);rw[j];clear j hd;go_enter Tryz.func98,Tryz.ntmps98;go_wp2_with fail;refine (eY _ _ _ _ p.o).mono ?_;rintro e w1 ⟨rfl,rfl⟩;rw[r];go_wp2_with fail;refine (oW _ _ _ _ _ p.o).mono ?_;rintro e w1 ⟨rfl,rfl⟩;rw[hh];go_wp2;go_ret;exact⟨rfl,_,p.o,bY.refl _ _⟩
  ·have Qv:d.has i=false:=(by simpa using hh);have j:d.write i s.data.toList=(2,d):=(by unfold Dk.cm.write;rw[if_neg B,Qv,if_pos (by decide)]);rw[j];clear j hd;go_enter Tryz.func98,Tryz.ntmps98;go_wp2_with fail;refine (eY _ _ _ _ p.o).mono ?_;rintro e w1 ⟨rfl,rfl⟩;rw[r];go_wp2_with fail;refine (oW _ _ _ _ _ p.o).mono ?_;rintro e w1 ⟨rfl,rfl⟩;rw[Qv];go_wp2;go_ret;exact⟨rfl,_,p.o,bY.refl _ _⟩
theorem Hw (w:World) (n:Nat) (hn:n<=1000000):(Instr.makeSlice 98 (.int cu n) (.int cu n)).run Tryz.prog w=.ok (.slice (aD ⟨w.heap.size,0,av⟩) n n) (w.alloc (ey (bB n (.pointer av)).toArray 138)):=by obtain⟨i,hi,h,hs,H⟩:=kY (P:=Tryz.prog) (E:=138) (size:=1) (bytes:=8) (z:=.pointer av) (by kernel_rfl);have:=run_make (P:=Tryz.prog) w 98 138 i (.pointer av) Tryz.underlying98 hi h cu cu n n (by omega) (by omega) (by rw[H];omega) (by omega);rw[this,hs,dF,Nat.mul_one,show (Value.pointer av).cells=#[.pointer av] from rfl,uY]
theorem vf {w:World} {r n:Nat} {l:List Nat} (h:aU w r 138 (l.map ptr)) (hn:l.length=n) (H:n<=1000000):Own dH 138 0 w (cx (aD ⟨r,0,av⟩) n n) l:=by
 have e:dH.cells l=l.map ptr:=cV _ _ _;refine⟨by rw[e,aT];exact (Nat.mul_one _).symm,dn ⟨r,n,(l.map ptr).toArray,by rw[hn],aB _,h,by omega,by unfold maxLen;omega, ?_, ?_⟩⟩;·rw[List.size_toArray,aT,hn];exact (Nat.mul_one _).symm
 ·rw[e];exact cg (by rw[aT];exact Nat.le_of_eq (Nat.mul_one _).symm)
theorem Kw (k n:Nat) (a b:Value) (H:k<n):(bB k a++bB (n-k) b).set k a=bB (k+1) a++bB (n-(k+1)) b:=by rw[List.set_append_right _ _ (by simp)];obtain⟨m,h⟩:∃m,n-k=m+1:=⟨n-k-1,by omega⟩;rw[h,show n-(k+1)=m by omega,dZ,Nat.sub_self,List.replicate_succ,ay,List.replicate_succ'];simp
theorem yG (n:Nat) (w:World) (hn:n<=65536):
  Calls Tryz.prog 39 #[bf cu n] w fun e w'=>∃r c,e=eb (cx (aD ⟨r,0,av⟩) n n)/\aU w' r 138 ((bB n c).map ptr)/\aU w' c 140 ((Dk.full []).map bV)/\w.heap.size<=r/\w.heap.size<=c/\Below w.heap.size w w':=by
 obtain⟨Z,g⟩:∃Z,Z=jt.toArray:=⟨_,rfl⟩;have s:=fun w=>qK w;rw[<-g] at s;have d:Z.size=512:=by rw[g];rfl
 have y:¬Z=#[]:=by intro e;rw[e] at d;cases d
 have t:=aa g;clear g;obtain⟨R,j⟩:∃R,R=(bB n (Value.pointer av)).toArray:=⟨_,rfl⟩;have b:=fun w=>Hw w n (by omega);rw[<-j] at b;obtain⟨c,hc⟩:∃c,w.heap.size=c:=⟨_,rfl⟩;have H:(w.alloc (ey Z 140)).heap.size=c+1:=by simp[hc]
 obtain⟨W,f⟩:∃W,W=(w.alloc (ey Z 140)).alloc (ey R 138):=⟨_,rfl⟩;have Y:=b (w.alloc (ey Z 140));rw[H,<-f] at Y;have l:Hid (aU W (c+1) 138 (bB n (e7 av))/\aU W c 140 ((Dk.full []).map bV)/\Below c w W):=by
  refine aa ⟨?_, ?_, ?_⟩;·have:=aU.new (w.alloc (ey Z 140)) R 138;rw[H,<-f,j] at this;exact this
  ·have:=(aU.new w Z 140).alloc (ey R 138);rw[hc,<-f,t.o] at this;exact this
  ·rw[f];exact ((Below.refl _ _).alloc (Nat.le_of_eq hc.symm) _).alloc (by rw[H];omega) _
 have v:=aa j;clear j b f H;go_enter Tryz.func39,Tryz.ntmps39;rw[hc];go_wp2
 go_loopw [12] (fun i wr=>∃k:Nat,k<=n/\i=bf cu k/\aU wr (c+1) 138 (bB k (ptr c)++bB (n-k) (e7 av))/\aU wr c 140 ((Dk.full []).map bV)/\Below c w wr) (fun i _=>n-(RowKit.intOf i).toNat)
 case atStart=>exact⟨0,aB _,rfl,l.o.1,l.o.2.1,l.o.2.2⟩
 case round=>
  obtain⟨k,z,rfl,h,a,q⟩:=hrel;by_cases m:k<n
  ·have A:(k:Int)<n:=(by omega);have hcell:wr.cell? ⟨c+1,k,av⟩=aD (e7 av):=h.cell (by rw[iy (by simp),dZ,Nat.sub_self,nT,if_pos (by omega)]);have u:wr.frozen? ⟨c+1,k,av⟩=false:=h.frozen k;have p:=aa (And.intro h (And.intro a q));clear h a q;go_wp2;go_roundw
   case rel=>
    obtain⟨h,a,q⟩:=p.o;refine⟨k+1,by omega,by go_num, ?_, ?_, ?_⟩;·rw[<-Kw k n _ _ m];exact h.set k (ptr c)
    ·exact a.other _ _ (by simp)
    ·exact q.setCell (by simp) _
   case measure=>simp[RowKit.intOf];omega
  ·have x:k=n:=(by omega);subst x;have p:=aa (And.intro h (And.intro a q));clear h a q;go_wp2;go_ret;obtain⟨h,a,q⟩:=p.o;refine⟨c+1,c,rfl, ?_,a,by omega,by omega,q⟩;rw[List.map_replicate];simpa using h
theorem Oh {W:World} {F:Nat->Prop} {n r1 r2 c1 c2 g:Nat} (H:1<=n) (a:n<=65536)
  (hg:aU W g 102 [cx (aD ⟨r1,0,av⟩) n n,cx (aD ⟨r2,0,av⟩) n n,cx av 0 0,bf cu (-1),eX false])
  (b:aU W r1 138 ((bB n c1).map ptr)) (B:aU W r2 138 ((bB n c2).map ptr)) (hr:r1≠r2)
  (t:aU W c1 140 ((Dk.full []).map bV)) (T:aU W c2 140 ((Dk.full []).map bV)) (hF:∀k,F k->k<W.heap.size) (f1:F g) (f2:F r1) (f3:F r2) (f:F c1) (c:F c2):pK W F g (Dk.fresh n):=by
 have e:(bB n c1).length=n:=dZ;have E:(bB n c2).length=n:=dZ;refine⟨r1,n,r2,n,cx av 0 0,-1,bB n c1,bB n c2,[],fun _=>Dk.full [],⟨?_, ?_, ?_,Own.nil _ _ _ _,hr⟩, ?_, ?_,rfl, ?_,rfl,by decide,by decide,by rw[e];exact H,by rw[e];exact a, ?_,f1,f2,f3, ?_,hF⟩;·rw[e,E];exact hg
 ·rw[e];exact vf b e (by omega)
 ·rw[E];exact vf B E (by omega)
 ·intro x h;simp only[List.map_nil,bA,aj,List.mem_replicate] at h;rcases h with⟨_,rfl⟩|⟨_,rfl⟩;·exact⟨t,f,Dk.fu [] (by decide)⟩
  ·exact⟨T,c,Dk.fu [] (by decide)⟩
 ·rw[List.map_replicate];rfl
 ·rw[List.map_replicate];rfl
 ·intro x h;cases h
 ·intro k d;simp[Value.ownBlock] at d
theorem Oi (n:Nat) (w:World) (i:1<=n) (h:n<=65536):
  Calls Tryz.prog 25 #[bf cu n] w fun e w'=>∃g F,e=eb (gu #[ptr g,bf cu 0])/\pK w' F g (Dk.fresh n)/\(∀k,F k->w.heap.size<=k)/\Below w.heap.size w w':=by
 have Q:¬(n:Int)<1:=by omega
 have u:¬(n:Int)>65536:=by omega
 go_enter Tryz.func25,Tryz.ntmps25;go_wp2_with fail;refine (yG n w h).mono ?_;rintro e w1 ⟨r1,c1,rfl,B,T,L,M,Y⟩;go_wp2_with fail;refine (yG n w1 h).mono ?_;rintro e W ⟨r2,c2,rfl,a,c,l2,r,U⟩;have H:=Y.size;have K:=U.size;have m:=B.lt;have s:=a.lt;have d:=T.lt;have j:=c.lt;have b:=B.below U m;have t:=T.below U d;have l:=aa (Oh (F:=fun k=>w.heap.size<=k/\k<W.heap.size+1) i h (aU.new W _ _) (b.alloc _) (a.alloc _) (by omega) (t.alloc _) (c.alloc _) (fun k f=>by simp;exact f.2) ⟨by omega,by omega⟩ ⟨by omega,by omega⟩ ⟨by omega,by omega⟩ ⟨by omega,by omega⟩ ⟨by omega,by omega⟩);have q:=(Y.trans (U.mono H)).alloc (by omega) (ey #[cx (aD ⟨r1,0,av⟩) n n,cx (aD ⟨r2,0,av⟩) n n,cx av 0 0,bf cu (-1),eX false] 102);have p:=aa q;clear B a T c b t Y U q;go_wp2
 go_ret2
 exact⟨_,_,rfl,l.o,fun k f=>f.1,p.o⟩
theorem Own.Yy {w:World} {o n c:Nat} {ws:List (Nat×Nat)} (h:Own p5 190 0 w (cx (aD ⟨o,0,av⟩) n c) ws) (k:Nat) (H:k<ws.length):
  w.cell? ⟨o,k*2,av⟩=aD (bf cu (ws[k]).1)/\w.cell? ⟨o,k*2+1,av⟩=aD (ptr (ws[k]).2):=by
 have a:=(Own.lies h).at k 0 (by decide) H _ rfl;have b:=(Own.lies h).at k 1 (by decide) H _ rfl;rw[bE] at a b;exact⟨a,b⟩
theorem Own.Uh {w:World} {f n cf:Nat} {pf:List Nat} (h:Own dH 138 0 w (cx (aD ⟨f,0,av⟩) n cf) pf) (j:Nat) (H:j<pf.length):w.cell? ⟨f,j,av⟩=aD (ptr pf[j]):=by
 have:=Own.lies h j (ptr pf[j]) (by rw[show dH.cells pf=pf.map ptr from cV _ _ _,cD,aK H];rfl)
 rwa [bE] at this
theorem Own.Oj {w:World} {f n cf:Nat} {pf:List Nat} (h:Own dH 138 0 w (cx (aD ⟨f,0,av⟩) n cf) pf) (j:Nat) (H:j<pf.length):∃y,w.cell? ⟨f,j,av⟩=aD (e7 (aD ⟨y,0,av⟩)):=⟨_,h.Uh j H⟩
theorem Own.Ky {α:Type} {K:Elem α} {E:TypeId} {B:Nat} {w:World} {v:Value} {l:List α} (h:Own K E B w v l):l.length<=9223372036854775807:=by
 rcases h.2 with⟨_,e⟩|⟨_,_,_,_,_,_,hc,H,_⟩;·omega
 ·unfold maxLen at H;omega
theorem Hx (w:World) (F:Nat->Prop) (g:Nat) (d:Dk.cm) (hd:pK w F g d):
  Calls Tryz.prog 69 #[ptr g] w fun e w'=>e=eb (bf cu d.flush.1)/\pK w' F g d.flush.2/\bY F w F w':=by
 have M:=aa hd;by_cases v:d.off=true
 ·have p:d.flush=(3,d):=by unfold Dk.cm.flush;rw[if_pos v]
  rw[p];clear p hd;go_enter Tryz.func69,Tryz.ntmps69;go_wp2_with fail;refine (eY _ _ _ _ M.o).mono ?_;rintro e w1 ⟨rfl,rfl⟩;rw[v];go_wp2;go_ret;exact⟨rfl,M.o,bY.refl _ _⟩
 ·have z:d.off=false:=by simpa using v
  by_cases hf:d.fuel=0;·have p:d.flush=(3,d.dead):=(by unfold Dk.cm.flush;rw[if_neg v,if_pos hf]);have H:=fun w' (Z:w'=w)=>qJ w' F g d (Z▸hd);rw[if_pos hf,show decide (d.fuel≠0)=false by simp[hf]] at H;have iq:=aa (H w rfl);rw[p];clear p hd H;go_enter Tryz.func69,Tryz.ntmps69;go_wp2_with fail;refine (eY _ _ _ _ M.o).mono ?_;rintro e w1 ⟨rfl,rfl⟩;rw[z];go_wp2_with fail;refine iq.o.mono ?_;rintro e w1 ⟨rfl,r,s⟩;have H12:=aa (And.intro r s);clear r s;go_wp2;go_ret;exact⟨rfl,H12.o⟩
  ·have p:d.flush=(0,{d.iz with fU:=d.now,loose:=[]}):=(by unfold Dk.cm.flush;rw[if_neg v,if_neg hf]);have H:=fun w' (Z:w'=w)=>qJ w' F g d (Z▸hd);rw[if_neg hf,show decide (d.fuel≠0)=true by simp[hf]] at H;have iq:=aa (H w rfl);rw[p];clear p hd H;go_enter Tryz.func69,Tryz.ntmps69;go_wp2_with fail;refine (eY _ _ _ _ M.o).mono ?_;rintro e w1 ⟨rfl,rfl⟩;rw[z];go_wp2_with fail;refine iq.o.mono ?_;rintro e w1 ⟨rfl,r,s⟩;have HM:=aa s;clear s;obtain⟨f,cf,l,cl,vo,n,pf,pl,ws,T,B,N,O,P,Q,R,k6,k6',k7,k8,k9,C,D,k12,t,K⟩:=r;have c2:w1.cell? ⟨g,2,av⟩=aD vo:=B.blk.cell rfl;obtain⟨a,co,rfl,Xq⟩:=Own.slice B.oo;have hwl:=Own.Ky B.oo;have HK:=aa (And.intro N (And.intro O (And.intro P (And.intro Q (And.intro R (And.intro t K))))));have H1:=aa B;have H9:=aa k9;clear B N O P Q R t K k9;unfold ptr;go_wp2
   go_loopw [17] (fun i wr=>∃k:Nat,k<=ws.length/\i=bf cu k/\eO wr g f cf l cl (cx a ws.length co) n d.iz.off (Dk.fO pf (ws.take k)) pl ws/\aG (· =f) w1 wr) (fun i _=>ws.length-(RowKit.intOf i).toNat)
   case atStart=>exact⟨0,aB _,rfl,H1.o,aG.refl _ _⟩
   case round=>
    obtain⟨k,hk,rfl,hs,S⟩:=hrel;by_cases u:k<ws.length
    ·have hI:(k:Int)<ws.length:=(by omega);obtain⟨o,co',e1,_,_,_⟩:=Own.form hs.oo (by omega);injection e1 with e1 _ e3;subst e1 e3;obtain⟨ca,cb⟩:=Own.Yy hs.oo k u;have m:(Dk.fO pf (ws.take k)).length=pf.length:=Dk.gY _ _;have hat:=H9.o ws[k] (bI u);have c0:wr.cell? ⟨g,0,av⟩=aD (cx (aD ⟨f,0,av⟩) (Dk.fO pf (ws.take k)).length cf):=hs.blk.cell rfl;have E:(ws[k]).1<(Dk.fO pf (ws.take k)).length:=(by omega);obtain⟨y,X⟩:=hs.of.Oj (ws[k]).1 E;have Yz:wr.frozen? ⟨f,(ws[k]).1,av⟩=false:=Own.frozen hs.of _;rw[m] at c0;have G:=aa (And.intro hs S);have HX:=aa (Dk.Ht pf ws k u);clear hs S m E;generalize ws[k]=x at*;obtain⟨A,c⟩:=x;have aaP:(A:Int)<pf.length:=(by have:=hat;simp only at this;omega);simp only at ca cb X Yz;unfold ptr at cb;go_wp2;obtain⟨q,hq⟩:∃q,wr.heap.size=q:=⟨_,rfl⟩;rw[hq];obtain⟨V,W⟩:∃V,V=wr.alloc (ey #[bf cu A,e7 (aD ⟨c,0,av⟩)] 190):=⟨_,rfl⟩;rw[<-W];have I:aG (fun _=>False) wr V:=(by rw[W];exact (aG.refl _ _).alloc _);have bq:aU V q 190 [bf cu A,e7 (aD ⟨c,0,av⟩)]:=(by rw[W,<-hq];exact aU.new wr _ _);have c0':V.cell? ⟨g,0,av⟩=aD (cx (aD ⟨f,0,av⟩) pf.length cf):=I.cell c0 id;have RA:V.cell? ⟨f,A,av⟩=aD (e7 (aD ⟨y,0,av⟩)):=I.cell X id;have Ui:V.frozen? ⟨f,A,av⟩=false:=(I.frozen (bD _ _ X) id).trans Yz;have q0:V.cell? ⟨q,0,av⟩=aD (bf cu A):=bq.cell rfl;have q1:V.cell? ⟨q,1,av⟩=aD (e7 (aD ⟨c,0,av⟩)):=bq.cell rfl;have J:=aa I;clear W I bq c0 X Yz ca cb hq
     go_still_tail 9,(by kernel_rfl)
     change wpList _ _ _ _ _ V.drew;obtain⟨U,hU⟩:∃U,U=V.drew:=⟨_,rfl⟩;rw[<-hU];have Y:aG (fun _=>False) V U:=(by rw[hU];exact (aG.refl _ _).drew);have cfu:U.cell? ⟨f,A,av⟩=aD (e7 (aD ⟨y,0,av⟩)):=Y.cell RA id;have ffu:U.frozen? ⟨f,A,av⟩=false:=(Y.frozen (bD _ _ RA) id).trans Ui;have L:=aa (J.o.trans Y (fun _ _ h=>h));clear hU Y c0' RA Ui q0 q1 J;go_wp2;go_roundw
     case rel=>
      refine⟨k+1,by omega,by go_num, ?_, ?_⟩;·rw[HX.o];exact (G.o.1.but L.o id id id (fun _ _=>id)).Oe A c
      ·exact (G.o.2.trans L.o (fun _ _ h=>h.elim)).setCell ⟨f,A,av⟩ _ (fun _=>rfl)
     case measure=>simp[RowKit.intOf];omega
    ·have xW:k=ws.length:=(by omega);subst xW;rw[List.take_length] at hs;have b2:wr.cell? ⟨g,2,av⟩=aD (cx a ws.length co):=hs.blk.cell rfl;have f2:wr.frozen? ⟨g,2,av⟩=false:=hs.blk.frozen 2;have m:(Dk.fO pf ws).length=pf.length:=Dk.gY _ _
     have G:=aa (show pK (wr.setCell ⟨g,2,av⟩ (cx av 0 0)) F g {d.iz with fU:=d.now,loose:=[]}/\bY F w1 F (wr.setCell ⟨g,2,av⟩ (cx av 0 0)) by
      obtain⟨N,O,P,Q,R,t,K⟩:=HK.o;have Qw:aG (fun x=>x=f\/x=g) w1 (wr.setCell ⟨g,2,av⟩ (cx av 0 0)):=(S.mono (fun x _ e=>dc e)).setCell _ _ (fun _=>dn rfl);have hs':=hs.Ku (cx av 0 0) [] (Own.nil _ _ _ _);refine⟨⟨f,cf,l,cl,_,n,Dk.fO pf ws,pl,[],T,hs', ?_, ?_,rfl, ?_,R,k6,k6',by omega,by omega, ?_,C,D,k12, ?_,fun x b=>dD (K x b) Qw.size⟩,Qw.mono (fun x _ e=>by rcases e with rfl|rfl;exact D;exact C),fun x b=>dc b⟩
      ·intro x b;have hx':x∈pf++(pl++ws.map (·.2)):=by
        simp only[List.map_nil,bA,aj] at b |-;rcases b with b|b
        ·rcases Dk.Ks ws pf _ b with h|⟨j,h⟩;·exact dc h
         ·grind
        ·exact dn (dc b)
       obtain⟨r,s,h3⟩:=N x hx';refine⟨r.but Qw ?_,s,h3⟩;rintro (e|e);·exact H1.o.of.dG r (by decide) (by rw[e];rfl)
       ·exact r.ne H1.o.blk (by decide) e
      ·show d.now=_;rw[Dk.Kr,<-O,<-P];rfl
      ·show Dk.fO d.now []=_;exact Q
      ·intro x b;cases b
      ·intro x b;simp[Value.ownBlock] at b)
     clear hs S HK m;go_wp2;go_ret;exact⟨rfl,G.o.1,HM.o.trans G.o.2⟩
end
end Go.Proofs.YtlpfhjbpknbndaaGreatDoor
