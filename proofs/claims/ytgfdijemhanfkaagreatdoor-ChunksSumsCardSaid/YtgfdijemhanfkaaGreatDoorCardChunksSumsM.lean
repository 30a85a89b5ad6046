/- The law ChunksSums of layer 11 returns true, and leaves what was handed in as it was, for every text and every row of steps, where the table of the fingerprints and the two of unicode/utf8 hold what their text lays; nothing else is asked. -/
import Derived.Test.YtgfdijemhanfkaaGreatDoorP8
import Derived.Test.YtgfdijemhanfkaaGreatDoorLawChunksSumsM
import Derived.Test.YtgfdijemhanfkaaGreatDoorChInM
import Derived.Test.YtgfdijemhanfkaaGreatDoorPTk
import Derived.Test.YtgfdijemhanfkaaGreatDoorClosedSumsM
set_option maxRecDepth 100000
set_option maxHeartbeats 400000000
namespace Go.Proofs.YtgfdijemhanfkaaGreatDoor
open Ending renaming returned→c8
open Option renaming some→av,none→aK
open Value renaming string→cu,slice→cx
open Bool renaming and_eq_true->fk
section
open Go.ChangeShapes Go.WideShapes Go.ChangeAt Go.RowKit
open Go.ChangeMaps (open_string shut_string)
namespace lawChunksSums
set_option maxRecDepth 100000
theorem contract (H:Type) (enc:TypeId×Value->H) (W:World) (base:Nat) (args:Array Value) (D gs:List (DataW H)) (before:List MemPlace)
  (hval:∀(j:Nat) t v,Tryz.f3.params[j]?=av t->args[j]?=av v->Value.okWide Tryz.prog W .any base t v)
  (g:DataW.Whole enc Tryz.prog Tryz.f3.params.toList Rows.chunksSumsSpec.vars false W args.toList D gs before) (k:laidMetH Tryz.prog Rows.chunksSumsRow.laid W):
  Calls Tryz.prog 3 args W fun e W'=>∃v,e=c8 v/\Rows.chunksSumsSpec.post enc Tryz.prog Tryz.f3 false true false false W args v W':=by
 have h:=g;obtain⟨p,q,a,m,rfl,n,o⟩:=g;have hA:DataW.TrodAll enc Tryz.prog W 0 (fun _=>true) true Tryz.f3.params.toList args.toList D p:=a;have c:=hA;rw[Tryz.params3] at hA hval;obtain⟨v0,V,B,r,P,Q,d,rfl,rfl,s,R⟩:=trodAll_cons hA;obtain⟨v1,u,C,w,E,F,rfl,rfl,rfl,y,r1⟩:=trodAll_cons R;obtain⟨rfl,rfl,rfl⟩:=trodAll_nil r1;obtain rfl:args=#[v0,v1]:=by cases args;simp_all
 obtain⟨rfl,rfl⟩:=trodVars_none m;obtain⟨x0,rfl,rfl,rfl,G⟩:=open_string Tryz.underlying9 (hval 0 9 v0 rfl rfl) s;obtain⟨L,M⟩:=Zd (hval 1 22 v1 rfl rfl) y;have lt:=fun x b=>h.lt x b;clear a;have z:jC W:=Fv (l:=Rows.chunksSumsRow.laid) k (.tail _ (.head _));refine (A2 W z x0 v1 L M).mono fun e W' ⟨A,i⟩=> ?_;subst A
 exact⟨_,rfl,yu (pv:=[]) h i rfl (fun _ _ _=>trodAll_cons_mk (shut_bool Tryz.underlying4 _) trodAll_mk0) (fun sp f=>rU _ (by rw[Tryz.params3];decide+kernel) c (fun x b=>i.same (lt x (by simpa using b))) (fun x b=>f x (by simpa using b))) (fun _ _=>rfl)
  (ok_one η rfl (okWide_bool_mk Tryz.underlying4 _))⟩
theorem A6 (os:Os):laidMet Tryz.prog Rows.chunksSumsRow.laid ((laidWorld11 os).forCall (fun _ _=>0) ⟨#[],#[cu .empty,cx aK 0 0],[]⟩).memory:=
 laidMet_of_run' 8 η η
theorem reads (os:Os) {H:Type} (enc:TypeId×Value->H):∃places,DataW.whole enc Tryz.prog ((laidWorld11 os).forCall (fun _ _=>0) ⟨#[],#[.string .empty,.slice aK 0 0],[]⟩).memory Tryz.f3.params.toList Rows.chunksSumsSpec.vars false #[Value.string .empty,.slice aK 0 0].toList 8=av ([.lit (.string []),.nil],[],places):=
 ⟨[],η⟩
theorem lifted (os:Os) (started:os.Started) (H:Type) (enc:TypeId×Value->H) (F:Stop.Interp):
  ReturnsInHanded {} Tryz.checked os 3 .any ((OpenSpec.ofChange Rows.chunksSumsSpec).preRow enc Tryz.prog Tryz.f3 Rows.chunksSumsRow.domain false Rows.chunksSumsRow.laid) (((OpenSpec.ofChange Rows.chunksSumsSpec).at F).post enc Tryz.prog Tryz.f3 false true false false):=by
 obtain⟨places,h⟩:=reads os enc
 refine returnsInHanded_of_row (C:=Tryz.checked) (s:=OpenSpec.ofChange Rows.chunksSumsSpec) own started η Tryz.func3
  (witness_row_at (enc:=enc) (C:=Tryz.checked) false (laidWorld11 os) #[cu .empty,cx aK 0 0] rfl η η η
   (OpenSpec.preRow_of_cond 8 h η (fun k a=>by cases a) η (A6 os))) ?_
 intro W base args d gs before hval b _ _ _ c _ _;exact contract H enc W base args d gs before hval b c
theorem said:Rows.ChunksSumsSaid:=
 OpenClaim.holds_of_cond 3 Tryz.f3 rfl rfl rfl rfl rfl rfl rfl ⟨rfl,rfl,rfl,rfl,rfl⟩ rfl rfl rfl rfl rfl η Tryz.func3 closed
  (of_decide_eq_true η) (by unfold Func.isWrapper;first|(rw[if_pos zba];kernel_rfl)|(rw[if_neg zba];exact⟨rfl,rfl⟩))
  (fun os started H enc _ F=>by rw[OpenClaim.pre_eq_preRow];exact lifted os started H enc F)
theorem plain (f:FuncId) (fn:Func) (hf:Tryz.pinned.checked.prog.funcNamed "cooperage/cooperagelaw11.ChunksSums" =some f) (h:Tryz.pinned.checked.prog.funcs[f]?=some fn):
  false=Tryz.pinned.checked.prog.looks []/\∀(j:Nat) t,fn.params[j]?=some t->Tryz.pinned.checked.prog.wantsStandIn t=false:=by
 obtain rfl:f=3:=Option.some.inj ((show Tryz.prog.funcNamed "cooperage/cooperagelaw11.ChunksSums" =some 3 by kernel_rfl).symm.trans hf)|>.symm
 obtain rfl:fn=Tryz.f3:=(Option.some.inj (Tryz.func3.symm.trans h)).symm;refine⟨η,fun j t H=> ?_⟩;rw[Tryz.params3] at H;have a:t=9\/t=22:=by simpa using Array.mem_of_getElem? H
 rcases a with rfl|rfl;·exact (show Tryz.prog.wantsStandIn 9=false by kernel_rfl)
 ·exact (show Tryz.prog.wantsStandIn 22=false by kernel_rfl)
theorem card:Rows.ChunksSumsCardSaid:=
 Claim7.holds_tied_plain_at .later [] _ _ _ _ said (fun _ h=>χ) η (fun _ h=>χ) chunksSums_row_tie rfl ⟨rfl,rfl⟩ η rfl plain η
end lawChunksSums
end
end Go.Proofs.YtgfdijemhanfkaaGreatDoor
