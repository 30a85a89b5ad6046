/- Elder texts, cut down and merged (18). -/
import Derived.WalkKit
import Derived.WalkSmall
import Derived.Deep.MidRow
import Derived.RegionTactic
import Derived.Test.YtgfdijemhanfkaaGreatDoorPTk
set_option maxRecDepth 100000
set_option maxHeartbeats 8000000
namespace Go.Proofs.YtgfdijemhanfkaaGreatDoor
open Obj renaming cells→dg
open Option renaming some→av,none→aK
open Value renaming pointer→dr,agg→eU,int→bf
open Nat renaming lt_or_ge->ep,le_refl->af,le_trans->aN,zero_add->bG
open List renaming getElem?_eq_getElem->aI,mem_map->bY
section
open Go.RowKit
def iW (w:World) (b:Nat) (t:TypeId) (xs:List Value):Prop:=w.heap[b]?=av (dg xs.toArray t (0,0))
theorem iW.lt {w:World} {b:Nat} {t:TypeId} {xs:List Value} (h:iW w b t xs):b<w.heap.size:=by
 rcases ep b w.heap.size with h'|h';·exact h'
 ·unfold iW at h;rw[Array.getElem?_eq_none h'] at h;cases h
theorem iW.cell {w:World} {b:Nat} {t:TypeId} {xs:List Value} (h:iW w b t xs) {j:Nat} {v:Value} (H:xs[j]?=av v):w.cell? ⟨b,j,aK⟩=av v:=by rw[cell_of_row w b j _ t (0,0) h];simpa using H
theorem iW.free {w:World} {b:Nat} {t:TypeId} {xs:List Value} (h:iW w b t xs) (j:Nat):w.frozen? ⟨b,j,aK⟩=false:=frozen_of_row w b j _ t h
theorem iW.new (w:World) (t:TypeId) (cs:Array Value):iW (w.alloc (dg cs t)) w.heap.size t cs.toList:=by unfold iW;rw[Array.toArray_toList];exact heap_alloc_new w _
theorem iW.alloc {w:World} {b:Nat} {t:TypeId} {xs:List Value} (h:iW w b t xs) (o:Obj):iW (w.alloc o) b t xs:=by unfold iW;rw[heap_alloc_old w o h.lt];exact h
theorem iW.drew {w:World} {b:Nat} {t:TypeId} {xs:List Value} (h:iW w b t xs):iW w.drew b t xs:=h
theorem iW.below {w w':World} {B b:Nat} {t:TypeId} {xs:List Value} (h:iW w b t xs) (H:Below B w w') (a:b<B):iW w' b t xs:=(H.block b a).trans h
theorem iW.set {w:World} {b:Nat} {t:TypeId} {xs:List Value} (h:iW w b t xs) (j:Nat) (v:Value):iW (w.setCell ⟨b,j,aK⟩ v) b t (xs.set j v):=by have:=heap_setCell_same w b j _ t v h;unfold iW;rw[this];simp
theorem iW.FY {w:World} {b:Nat} {t:TypeId} {xs:List Value} (h:iW w b t xs) (a:Addr) (v:Value) (H:b≠a.block):iW (w.setCell a v) b t xs:=by unfold iW;rw[heap_setCell_other w a b v H];exact h
theorem iW.grown {w w':World} {b:Nat} {t:TypeId} {xs:List Value} {row:Option Nat} (h:iW w b t xs) (hg:w.grownBy w' row) (H:av b≠row):iW w' b t xs:=(hg.block b h.lt H).trans h
theorem iW.setCells {b:Nat} {t:TypeId}:∀(ys pre post O:List Value) (w:World),O.length=ys.length->iW w b t (pre++O++post)->iW (w.setCells b pre.length ys) b t (pre++ys++post)
 |[],pre,post,O,w,hl,h=>by obtain rfl:O=[]:=List.eq_nil_of_length_eq_zero hl;exact h
 |y::ys,pre,post,[],w,hl,h=>by simp at hl
 |y::ys,pre,post,o::O,w,hl,h=>by
  have H:=h.set pre.length y;have e:(pre++(o::O)++post).set pre.length y=(pre++[y])++O++post:=ν
  rw[e] at H;have a:=iW.setCells ys (pre++[y]) post O _ (by simpa using hl) H;have E:pre++[y]++ys++post=pre++(y::ys)++post:=ν
  rw[E] at a;simpa[World.setCells] using a
theorem nx {b:Nat}:∀(ys:List Value) (o:Nat) (w:World),w.grownBy (w.setCells b o ys) (av b)
 |[],_,w=>⟨rfl,rfl,rfl,af _,fun _ _ _=>rfl⟩
 |y::ys,o,w=>by
  have h:=nx (b:=b) ys (o+1) (w.setCell ⟨b,o,aK⟩ y);refine⟨h.os,h.tape,h.output,aN (by simp[World.setCell]) h.size,fun k a H=> ?_⟩;have c:=h.block k (by simpa[World.setCell] using a) H;have h3:=heap_setCell_other w ⟨b,o,aK⟩ k y (fun e=>H (by simp[e]));exact c.trans h3
theorem kN {w:World} {b i j:Nat} {v u:Value} (h:w.cell? ⟨b,j,aK⟩=av u) (H:¬j=i):(w.setCell ⟨b,i,aK⟩ v).cell? ⟨b,j,aK⟩=av u:=
 (World.cell?_setCell_other w _ _ v (fun e=>H (by injection e with _ e2 _;exact e2.symm))).trans h
theorem sr {b:Nat}:∀(ys:List Value) (o:Nat) (w:World),(w.setCells b o ys).heap.size=w.heap.size
 |[],_,_=>rfl
 |y::ys,o,w=>(sr ys (o+1) _).trans (by simp[World.setCell])
section
variable {P:Program}
theorem uH {op:Oper} {a:Act} {w:World} {K:Act->Ψ} {Q:Exit->Act->Ψ} (ty:TypeId) (x y:Operand) (c:op.op=.store ty x y)
  (b:Nat) (t:TypeId) (o:List Value) (cells:Array Value) (d:a.eval x=dr (av ⟨b,0,aK⟩)) (hy:a.eval y=eU cells)
  (H:iW w b t o) (hl:o.length=cells.size) (hi:(P.info? ty).map (·.size)=av cells.size) (e:cells.all (·.oneCell')=true)
  (h:∀w',iW w' b t cells.toList->w.grownBy w' (av b)->w'.heap.size=w.heap.size->K (a.put op.dst undef) w'):op.wp P a w K Q:=by
 refine wp_store_mid ty x y c b 0 cells d hy (fun j g=> ?_) hi e (h _ ?_ (nx _ _ _) (sr _ _ _));·obtain⟨v,f⟩:∃v,o[j]?=av v:=⟨_,aI κ⟩;rw[bG];exact⟨by rw[H.cell f];rfl,H.free j⟩
 ·have:=iW.setCells (b:=b) (t:=t) cells.toList [] [] o w (by simpa using hl) zaY;simpa using this
theorem qm {ops:Array Oper} {op:Oper} {a:Act} {w:World} {K:Act->Ψ} {Q:Exit->Act->Ψ} {E:Prop} (c:op.guard=aK) (ty:TypeId) (x y:Operand) (d:op.op=.store ty x y)
  (b:Nat) (t:TypeId) (o:List Value) (cells:Array Value) (e:a.eval x=dr (av ⟨b,0,aK⟩)) (hy:a.eval y=eU cells)
  (H:iW w b t o) (hl:o.length=cells.size) (hi:(P.info? ty).map (·.size)=av cells.size) (f:cells.all (·.oneCell')=true)
  (h:∀w',iW w' b t cells.toList->w.grownBy w' (av b)->w'.heap.size=w.heap.size->K (a.put op.dst undef) w'):
  if Region.wanted op (yielded ops a.tmps)=true then Oper.wp P op a w K Q else E:=by
 have g:Region.wanted op (yielded ops a.tmps)=true:=by simp[Region.wanted,c]
 rw[if_pos g];exact uH ty x y d b t o cells e hy H hl hi f h
theorem jN {ops:Array Oper} {rest:List Oper} {op:Oper} {a:Act} {w:World} {Q:Exit->Act->Ψ} (c:op.guard=aK) (ty:TypeId) (x y:Operand) (d:op.op=.store ty x y)
  (b:Nat) (t:TypeId) (o:List Value) (cells:Array Value) (e:a.eval x=dr (av ⟨b,0,aK⟩)) (hy:a.eval y=eU cells)
  (H:iW w b t o) (hl:o.length=cells.size) (hi:(P.info? ty).map (·.size)=av cells.size) (f:cells.all (·.oneCell')=true)
  (h:∀w',iW w' b t cells.toList->w.grownBy w' (av b)->w'.heap.size=w.heap.size->wpList P ops Q rest (a.put op.dst undef) w'):wpList P ops Q (op::rest) a w:=
 wpList_plain c fun _ g=>uH ty x y d b t o cells e hy H hl hi f fun w' i h3 h4=>g _ _ (h w' i h3 h4)
end
def ji (l:Δ):List Value:=l.map fun (n:Nat)=>Value.int .u32 (n:Int)
theorem xy (l:Δ):(ji l).length=l.length:=by simp[ji]
theorem uI (l:Δ) (j:Nat) (h:j<l.length):(ji l)[j]?=av (bf .u32 ((l.getD j 0:Nat):Int)):=by simp[ji,h]
theorem FZ (l:Δ):(ji l).toArray.all (·.oneCell')=true:=all_oneCell_toArray fun v h=>by simp only[ji,bY] at h;obtain⟨n,_,rfl⟩:=h;rfl
theorem F0 (l:Δ) (j:Nat) (n:Nat):(ji l).set j (bf .u32 (n:Int))=ji (l.set j n):=by simp[ji,List.map_set]
end
end Go.Proofs.YtgfdijemhanfkaaGreatDoor
