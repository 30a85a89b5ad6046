/- A part of the law. -/
import Derived.Test.YtgfdijemhanfkaaGreatDoorP36
import Derived.Test.YtgfdijemhanfkaaGreatDoorPTk
set_option linter.unusedSimpArgs false
set_option linter.unusedVariables false
set_option maxRecDepth 100000
set_option maxHeartbeats 8000000
namespace Go.Proofs.YtgfdijemhanfkaaGreatDoor
open _root_.Go.Proofs.Tryz
open Value renaming int→bf,string→cu,slice→cx,tuple→ec
open IntKind renaming i64→ct
open Obj renaming cells→dg
open Option renaming none→aK,some→av
open Ending renaming returned→c8
open List renaming mem_cons->aM,replicate->aV,set_cons_zero->ay,set_append_right->iP,set_cons_succ->aB
open Int renaming toNat_natCast->cK
open Nat renaming zero_add->bG,le_refl->af,zero_le->aA
open World renaming alloc->dH
section
open Go.RowKit Lib
def fo:Elem Ch.C:=⟨fun c=>[cu (bs c.id),bf ct c.text.length,bf ct c.count],3,ξ,fun _=>rfl,fun c u hu=>by
 simp only[aM,List.not_mem_nil,or_false] at hu
 rcases hu with rfl|rfl|rfl<;>rfl⟩
theorem S_ (w:World) (n:Nat) (hn:n<=100000):(Instr.makeSlice 50 (.int ct n) (.int ct n)).run prog w=.ok (.slice (av ⟨w.heap.size,0,aK⟩) n n) (w.alloc (dg (fo.cells (aV n Ch.c0)).toArray 89)):=by obtain⟨i,hi,h,hs,H⟩:=iL (P:=prog) (E:=89) (size:=3) (bytes:=32) (z:=.agg #[.string .empty,.int ct 0,.int ct 0]) η;have:=run_make (P:=prog) w 50 89 i (.agg #[.string .empty,.int ct 0,.int ct 0]) underlying50 hi h ct ct n n κ κ zaT κ;have e:=wW #[.string .empty,.int ct 0,.int ct 0] ξ n;rw[this,hs,cK,show (Value.agg #[.string .empty,.int ct 0,.int ct 0]).cells=#[.string .empty,.int ct 0,.int ct 0] from rfl];rw[show (#[Value.string .empty,.int ct 0,.int ct 0]:Array Value).size=3 from rfl] at e;rw[e,show (#[Value.string .empty,.int ct 0,.int ct 0]:Array Value).toList=fo.enc Ch.c0 from rfl,rH]
theorem A5 (c:Ch.C):∀(l:List Ch.C) (j:Nat),j<l.length->
  (((fo.cells l).set (j*3) (cu (bs c.id))).set (j*3+1) (bf ct c.text.length)).set (j*3+2) (bf ct c.count)=fo.cells (l.set j c)
 |[],j,h=>absurd h (Nat.not_lt_zero j)
 |a::l,0,_=>by rw[ay,fo.bS,fo.bS];rfl
 |a::l,j+1,h=>by
  have i:=A5 c l j zax;have hl:(fo.enc a).length=3:=rfl;have hs:∀(ys:List Value) (m:Nat) (v:Value),(fo.enc a++ys).set ((j+1)*3+m) v=fo.enc a++ys.set (j*3+m) v:=fun ys m v=>by rw[iP _ _ (by rw[hl];omega),hl,show (j+1)*3+m-3=j*3+m by omega]
  have H:∀(ys:List Value) (v:Value),(fo.enc a++ys).set ((j+1)*3) v=fo.enc a++ys.set (j*3) v:=fun ys v=>hs ys 0 v;rw[aB,fo.bS,fo.bS,H,hs,hs,i]
theorem Ta {w:World} {g:Nat} {l:List Ch.C} (h:aW w g 89 (fo.cells l)) (j:Nat) (H:j<l.length) (c:Ch.C):
  aW (((w.setCell ⟨g,j*3,aK⟩ (cu (bs c.id))).setCell ⟨g,j*3+1,aK⟩ (bf ct c.text.length)).setCell ⟨g,j*3+2,aK⟩ (bf ct c.count)) g 89 (fo.cells (l.set j c))/\
  aE (fun k=>k=g) w (((w.setCell ⟨g,j*3,aK⟩ (cu (bs c.id))).setCell ⟨g,j*3+1,aK⟩ (bf ct c.text.length)).setCell ⟨g,j*3+2,aK⟩ (bf ct c.count)):=by
 have c':∀(X:World) (j:Nat) (v:Value),aE (fun k=>k=g) w X->aE (fun k=>k=g) w (X.setCell ⟨g,j,aK⟩ v):=fun X j v a=>a.setCell _ _ fun _=>rfl;refine⟨?_,c' _ _ _ (c' _ _ _ (c' _ _ _ (aE.refl _ w)))⟩;rw[<-A5 c l j H];exact ((h.set _ _).set _ _).set _ _
theorem Kz {w:World} {g:Nat} {l:List Ch.C} (h:aW w g 89 (fo.cells l)) (j:Nat) (H:j<l.length):
  w.cell? ⟨g,j*3,aK⟩=av (cu (bs l[j].id))/\w.cell? ⟨g,j*3+1,aK⟩=av (bf ct l[j].text.length)/\w.cell? ⟨g,j*3+2,aK⟩=av (bf ct l[j].count):=by
 have hl:bg fo w g 0 l:=bg.dZ h rfl;have a:=hl.at j 0 ξ H (cu (bs l[j].id)) rfl;have b:=hl.at j 1 ξ H (bf ct l[j].text.length) rfl;have c:=hl.at j 2 ξ H (bf ct l[j].count) rfl;rw[show fo.size=3 from rfl,bG] at a b c;exact⟨a,b,c⟩
structure Z6 (w1:World) (l:List Ch.C) (g k:Nat) (X:World):Prop where
 below:Below w1.heap.size w1 X
 row:aW X w1.heap.size 89 (fo.cells (mC l k))
 src:aW X g 73 (dV.cells l)
 lt:g<w1.heap.size
theorem Z6.later {w1 X X':World} {l:List Ch.C} {g k:Nat} (h:Z6 w1 l g k X) (H:Below X.heap.size X X'):Z6 w1 l g k X':=
 ⟨h.below.trans (H.mono h.below.size),h.row.below H h.row.lt,h.src.below H h.src.lt,h.lt⟩
section
variable {w X:World} {fv:Value} {sb rb n B last:Nat} {K:Φ} {Q:Ψ} {cs:List Ch.C} {rs:List Ch.Rc}
theorem Zg (h:KS w fv sb rb n cs rs last B K Q X) (H:∀c∈cs,Ch.One c) (hn:cs.length<=100000):
  Calls prog 15 #[ptr sb] X fun e X'=>∃g b,e=c8 (ec #[cx (av ⟨g,0,aK⟩) cs.length cs.length,bf ct 0])/\g<b/\KS w fv sb rb n cs rs last B (LU K g b) (Ic K Q fun Y=>aW Y g 89 (fo.cells cs)) X':=by
 have T:=aa h.kb;have a:=aa (L2 h [] [] (l:=cs) (Ch.SN κ) H hn);have E:=aa hn;have d:=fun W=>S_ W cs.length hn;clear h H;obtain⟨L,V⟩:=ξx cs.length;have zJ:(L:Int)<=100000:=κ
 have J:=aa V;rw[<-V] at d a |-;rw[show bs []=ByteArray.empty from rfl] at a;clear hn;unfold ptr at a |-;go_enter func15,ntmps15;go_wp2_with fail;refine a.o.mono ?_;rintro e w1 ⟨g,b,rfl,u,m⟩;have G:=aa (m.unbox T.o);obtain⟨Z,x⟩:=ξx ((fo.cells (aV L Ch.c0)).toArray)
 have D:=aa (show Z6 w1 cs g 0 (w1.alloc (dg Z 89)) from⟨(Below.refl _ w1).alloc (af _) _,by
  have:=aW.new w1 Z 89;rw[AV,<-V];rw[x] at this |-;exact this,m.q.2.below ((Below.refl _ w1).alloc (af _) _) m.q.2.lt,m.q.2.lt⟩)
 simp only[<-x] at d;clear m V x a u;go_wp2_with fail;generalize dH w1 _=w2 at*
 go_loopw [22] (fun I wr=>∃k:Nat,k<=L/\I=bf ct k/\Hid (Z6 w1 cs g k wr)) (fun I _=>L-(RowKit.intOf I).toNat)
 case atStart=>exact⟨0,aA _,rfl,D⟩
 case round=>
  clear D d;obtain⟨k,hk,rfl,s⟩:=hrel;by_cases p:k<L
  ·have M:(k:Int)<L:=κ;have t:=aa p;have f:k<cs.length:=(by rw[<-J.o];exact p);obtain⟨N,O,R,S⟩:=nK s.o.src k f;have a:=aa (CR cs k f);generalize cs[k]=c at*;have v:=aa (s.o.later ((Below.refl _ wr).alloc (af _) (dg #[cu (bs c.id),bf ct c.page,bf ct c.text.length,bf ct c.count] 73)));have F:=aa (aW.new wr #[cu (bs c.id),bf ct c.page,bf ct c.text.length,bf ct c.count] 73);clear f
   go_upto_region 8 with fail
   generalize dH wr _=w4 at*;generalize wr.heap.size=gb at*;obtain⟨x0,x1,x2,x3,_,_,_,_⟩:=four F.o;have j:k<(mC cs k).length:=(by rw[CQ cs k (by rw[<-J.o];exact Nat.le_of_lt t.o),<-J.o];exact t.o);obtain⟨y0,y1,y2⟩:=Kz v.o.row k j;have z0:=v.o.row.frozen (k*3);have z1:=v.o.row.frozen (k*3+1);have z2:=v.o.row.frozen (k*3+2);obtain⟨y,z⟩:=Ta v.o.row k j c;rw[a.o] at y;have U:=aa (show Z6 w1 cs g (k+1) _ from⟨v.o.below.trans (z.below v.o.below.size fun i hi e=>κ),y,v.o.src.but z fun e=>by have:=v.o.lt;omega,v.o.lt⟩);generalize (mC cs k)[k]=u0 at*;clear j F y z N O R S;go_wp2_with fail;go_roundw
   case rel=>exact⟨k+1,t.o,ς,U⟩
   case measure=>have:=t.o;simp[RowKit.intOf];omega
  ·obtain rfl:k=L:=by omega
   have M:¬(k:Int)<k:=κ;have r:=s.o.row;rw[J.o,AW] at r;have A:=aa (G.o.box (P:=fun Y=>aW Y w1.heap.size 89 (fo.cells cs)) s.o.below (fun X2 aQ=>r.but aQ fun hn=>hn ⟨af _,r.lt⟩));have C:=aa r.lt;clear r;go_wp2
   go_ret2
   exact⟨w1.heap.size,rfl,_,C.o,A.o⟩
end
end
end Go.Proofs.YtgfdijemhanfkaaGreatDoor
