/- Elder texts, cut down and merged (13). -/
import Derived.Test.YtgfdijemhanfkaaGreatDoorP6
import Derived.Test.YtgfdijemhanfkaaGreatDoorP12
import Derived.Lib.Hide
import Derived.Test.YtgfdijemhanfkaaGreatDoorPTk
set_option maxRecDepth 100000
set_option maxHeartbeats 8000000
namespace Go.Proofs.YtgfdijemhanfkaaGreatDoor
open _root_.Go.Proofs.Tryz
open Option renaming some→av,none→aK
open Ending renaming returned→c8
open Value renaming tuple→ec
open IntKind renaming i64→ct,u8→eD
open Obj renaming cells→dg
open Or renaming inr→dc
open _root_.Array renaming getElem?_eq_some_iff->fY,length_toList->aU
open List renaming map_append->bM,length_append->aq,length_map->aL
section
open Go.RowKit Lib
abbrev Bd (B:Nat) (w:World) (b:Nat) (l:List UInt8):Prop:=Lib.IsBuilderF 255 5 B b (Lib.byteCells l) w
abbrev Oth (b:Nat) (w w':World):Prop:=Lib.OthersKept 5 (av b) w w'
theorem uA:∃j,prog.info? 255=av j/\j.size=2:=
 Option.map_eq_some_iff.1 (show (prog.info? 255).map (·.size)=av 2 by kernel_rfl)
theorem zB (b:Nat) (w:World) (a:w.cell? ⟨b,0,aK⟩=av (ptr b)):
  Calls prog 224 #[ptr b] w fun e w'=>e=c8 (.tuple #[])/\w'=w:=by
 obtain⟨j,h,H⟩:=uA;unfold ptr at*;go_enter func224,ntmps224;go_wp2;rw[Lib.run_neq_ptr_same w _ underlying253 h];go_wp2;refine bodyPost_end (results_none rfl _ _ _) rfl ?_;exact⟨rfl,rfl⟩
theorem xO (b:Nat) (w:World) (d:w.cell? ⟨b,0,aK⟩=av (.pointer aK)) (h:w.shape? b=av (255,2)) (c:w.frozen? ⟨b,0,aK⟩=false):
  Calls prog 224 #[ptr b] w fun e w'=>e=c8 (.tuple #[])/\w'=w.setCell ⟨b,0,aK⟩ (ptr b):=by
 obtain⟨j,a,H⟩:=uA;unfold ptr at*;go_enter func224,ntmps224;go_wp2;rw[Lib.run_to_unsafe w ⟨b,0,aK⟩ underlying253 underlying314 a (by rw[H];decide) h (Nat.zero_lt_succ 1)];simp only[Result.andThen];rw[Oper.upon_value];go_wp2;rw[run_callFunc_extern func257 η η η (e:=Extern.AbiNoEscape.same) η,Lib.run_noEscape];simp only[Result.andThen];rw[Oper.upon_value];go_wp2;rw[Lib.run_from_unsafe w ⟨b,0,aK⟩ underlying314 underlying253 a h η];simp only[Result.andThen];rw[Oper.upon_value];go_wp2;refine bodyPost_end (results_none rfl _ _ _) rfl ?_;exact⟨rfl,rfl⟩
theorem Bo {B b:Nat} {l:List UInt8} {w:World} (h:Bd B w b l):
  Calls prog 224 #[ptr b] w fun e w'=>e=c8 (ec #[])/\Lib.BuilderAtF 255 5 B b (ptr b) (Lib.byteCells l) w'/\Below B w w'/\Oth b w w':=by
 rcases h with h|h;·refine (xO b w h.cell0 h.shape h.frozen0).mono ?_;rintro e w' ⟨rfl,rfl⟩;exact⟨rfl,h.used _,(Below.refl B w).setCell (p:=⟨b,0,aK⟩) h.1 _,(Lib.OthersKept.refl _ _ w).setCell ⟨b,0,aK⟩ rfl _⟩
 ·refine (zB b w h.cell0).mono ?_;rintro e w' ⟨rfl,rfl⟩;exact⟨rfl,h,Below.refl B _,Lib.OthersKept.refl _ _ _⟩
theorem pG {B b:Nat} {l:List UInt8} {w:World} (h:Bd B w b l) (s:ByteArray) (hs:l.length+s.size<=1000000) (u:B<=w.heap.size):
  Calls prog 170 #[ptr b,.string s] w fun e w'=>e=c8 (.tuple #[.int ct s.size,.nilIface])/\Bd B w' b (l++s.data.toList)/\Below B w w'/\Oth b w w':=by
 obtain⟨I,hi,x,y,O⟩:=iL (P:=prog) (E:=5) (size:=1) (bytes:=1) (z:=.int eD 0) η;have C:=aa (Bo h);have i:=aa (And.intro hs u);have G:(s.size:Int)<=1000000:=κ
 clear h hs u;unfold ptr at*;go_enter func170,ntmps170;go_wp2_with fail;refine C.o.mono ?_;rintro e w1 ⟨rfl,⟨d,v,c,hown,m⟩,j,f⟩;have c0:w1.cell? ⟨b,0,aK⟩=av (.pointer (av ⟨b,0,aK⟩)):=by rw[Lib.cell_of_heap c];rfl
 have c1:w1.cell? ⟨b,1,aK⟩=av v:=by rw[Lib.cell_of_heap c];rfl
 have n:(Lib.byteCells l).length=l.length:=Lib.byteCells_length _;go_wp2_with (at_builtin;refine Lib.wpList_append_own_stringF _ rfl _ _ 151 9 rfl B 5 I underlying151 underlying9 hi x y O _ _ _ rfl hown s rfl ?c3 ?c4 ?c5 ?_)
 case c3=>have:=i.o.1;unfold maxLen;omega
 case c4=>have:=i.o.1;omega
 case c5=>have:=i.o.2;have:=j.size;omega
 intro v' W a H _;have q:b<w1.heap.size:=(fY.1 c).1;have r:W.heap[b]?=av (dg #[.pointer (av ⟨b,0,aK⟩),v] 255 (0,0)):=by rw[H.block b q (fun e=>m e.symm)];exact c
 have J:W.cell? ⟨b,1,aK⟩=av v:=by rw[Lib.cell_of_heap r];rfl
 have f1:W.frozen? ⟨b,1,aK⟩=false:=Lib.frozen_of_heap r 1;obtain⟨A,n',cap,rfl⟩:∃A n' cap,v'=.slice A n' cap:=by
  rcases a.2 with⟨t,_⟩|⟨g,cap,cur,K,t,_⟩;·exact⟨_,_,_,t⟩
  ·exact⟨_,_,_,t⟩
 have D:=aa (show Bd B (W.setCell ⟨b,1,aK⟩ (.slice A n' cap)) b (l++s.data.toList)/\Below B w (W.setCell ⟨b,1,aK⟩ (.slice A n' cap))/\Oth b w (W.setCell ⟨b,1,aK⟩ (.slice A n' cap)) by
  refine⟨dc ?_, ?_, ?_⟩;·refine Lib.BuilderAtF.put d r ?_ ξ;have e:Lib.byteCells (l++s.data.toList)=Lib.byteCells l++Lib.strCells s:=bM;have F:(Lib.byteCells l++Lib.strCells s).length=(Lib.byteCells l).length+s.size:=(by rw[aq];congr 1;show (List.map _ s.data.toList).length=_;rw[aL];exact aU);rw[e,F,n];exact a
  ·exact (j.trans ⟨H.os,H.tape,H.output,H.size,fun k L=>H.block k (by have:=i.o.2;have:=j.size;omega) (fun e=>by have:=(hown.lt k e.symm).1;omega)⟩).setCell (p:=⟨b,1,aK⟩) d _
  ·exact (f.grown H (Lib.ownsRowF_kind hown)).setCell ⟨b,1,aK⟩ rfl _)
 clear a H hown f j;go_wp2
 go_ret2
 exact⟨rfl,D.o⟩
end
end Go.Proofs.YtgfdijemhanfkaaGreatDoor
