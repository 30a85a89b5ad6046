/- The law ChunksTexts of layer 11 returns true, and leaves what was handed in as it was, for every row of texts, where the table of the fingerprints and the two of unicode/utf8 hold what their text lays; nothing else is asked. -/
import Derived.Test.YtgfdijemhanfkaaGreatDoorP8
import Derived.Test.YtgfdijemhanfkaaGreatDoorLawChunksTextsM
import Derived.Test.YtgfdijemhanfkaaGreatDoorTextsInM
import Derived.Test.YtgfdijemhanfkaaGreatDoorPTk
import Derived.Test.YtgfdijemhanfkaaGreatDoorClosedTextsM
set_option maxRecDepth 100000
set_option maxHeartbeats 400000000
namespace Go.Proofs.YtgfdijemhanfkaaGreatDoor
open Ending renaming returned→c8
open Option renaming some→av,none→aK
open Value renaming slice→cx
open Bool renaming and_eq_true->fk
section
open Go.ChangeShapes Go.WideShapes Go.ChangeAt Go.RowKit
open Go.ChangeMaps (open_string shut_string)
namespace lawChunksTexts
set_option maxRecDepth 100000
theorem contract (H:Type) (enc:TypeId×Value->H) (W:World) (base:Nat) (args:Array Value) (D gs:List (DataW H)) (before:List MemPlace)
  (hval:∀(j:Nat) t v,Tryz.f4.params[j]?=av t->args[j]?=av v->Value.okWide Tryz.prog W .any base t v)
  (g:DataW.Whole enc Tryz.prog Tryz.f4.params.toList Rows.chunksTextsSpec.vars false W args.toList D gs before) (k:laidMetH Tryz.prog Rows.chunksTextsRow.laid W):
  Calls Tryz.prog 4 args W fun e W'=>∃v,e=c8 v/\Rows.chunksTextsSpec.post enc Tryz.prog Tryz.f4 false true false false W args v W':=by
 have h:=g;obtain⟨p,q,a,m,rfl,n,o⟩:=g;have hA:DataW.TrodAll enc Tryz.prog W 0 (fun _=>true) true Tryz.f4.params.toList args.toList D p:=a;have c:=hA;rw[Tryz.params4] at hA hval;obtain⟨v0,V,y,r,P,Q,d,rfl,rfl,s,R⟩:=trodAll_cons hA;obtain⟨rfl,rfl,rfl⟩:=trodAll_nil R;obtain rfl:args=#[v0]:=by cases args;simp_all
 obtain⟨rfl,rfl⟩:=trodVars_none m;obtain⟨l0,Z⟩:=S9 (hval 0 44 v0 rfl rfl) s;have lt:=fun x b=>h.lt x b;clear a;have u:jC W:=Fv (l:=Rows.chunksTextsRow.laid) k (.tail _ (.head _));refine (xW W u v0 l0 Z).mono fun e W' ⟨w,i⟩=> ?_;subst w
 exact⟨_,rfl,yu (pv:=[]) h i rfl (fun _ _ _=>trodAll_cons_mk (shut_bool Tryz.underlying4 _) trodAll_mk0) (fun sp f=>rU _ (by rw[Tryz.params4];decide+kernel) c (fun x b=>i.same (lt x (by simpa using b))) (fun x b=>f x (by simpa using b))) (fun _ _=>rfl)
  (ok_one η rfl (okWide_bool_mk Tryz.underlying4 _))⟩
theorem A6 (os:Os):laidMet Tryz.prog Rows.chunksTextsRow.laid ((laidWorld11 os).forCall (fun _ _=>0) ⟨#[],#[cx aK 0 0],[]⟩).memory:=
 laidMet_of_run' 8 η η
theorem reads (os:Os) {H:Type} (enc:TypeId×Value->H):∃places,DataW.whole enc Tryz.prog ((laidWorld11 os).forCall (fun _ _=>0) ⟨#[],#[.slice aK 0 0],[]⟩).memory Tryz.f4.params.toList Rows.chunksTextsSpec.vars false #[Value.slice aK 0 0].toList 8=av ([.nil],[],places):=
 ⟨[],η⟩
theorem lifted (os:Os) (started:os.Started) (H:Type) (enc:TypeId×Value->H) (F:Stop.Interp):
  ReturnsInHanded {} Tryz.checked os 4 .any ((OpenSpec.ofChange Rows.chunksTextsSpec).preRow enc Tryz.prog Tryz.f4 Rows.chunksTextsRow.domain false Rows.chunksTextsRow.laid) (((OpenSpec.ofChange Rows.chunksTextsSpec).at F).post enc Tryz.prog Tryz.f4 false true false false):=by
 obtain⟨places,h⟩:=reads os enc
 refine returnsInHanded_of_row (C:=Tryz.checked) (s:=OpenSpec.ofChange Rows.chunksTextsSpec) own started η Tryz.func4
  (witness_row_at (enc:=enc) (C:=Tryz.checked) false (laidWorld11 os) #[cx aK 0 0] rfl η η η
   (OpenSpec.preRow_of_cond 8 h η (fun k a=>by cases a) η (A6 os))) ?_
 intro W base args d gs before hval b _ _ _ c _ _;exact contract H enc W base args d gs before hval b c
theorem said:Rows.ChunksTextsSaid:=
 OpenClaim.holds_of_cond 4 Tryz.f4 rfl rfl rfl rfl rfl rfl rfl ⟨rfl,rfl,rfl,rfl,rfl⟩ rfl rfl rfl rfl rfl η Tryz.func4 closed
  (of_decide_eq_true η) (by unfold Func.isWrapper;first|(rw[if_pos zba];kernel_rfl)|(rw[if_neg zba];exact⟨rfl,rfl⟩))
  (fun os started H enc _ F=>by rw[OpenClaim.pre_eq_preRow];exact lifted os started H enc F)
theorem plain (f:FuncId) (fn:Func) (hf:Tryz.pinned.checked.prog.funcNamed "cooperage/cooperagelaw11.ChunksTexts" =some f) (h:Tryz.pinned.checked.prog.funcs[f]?=some fn):
  false=Tryz.pinned.checked.prog.looks []/\∀(j:Nat) t,fn.params[j]?=some t->Tryz.pinned.checked.prog.wantsStandIn t=false:=by
 obtain rfl:f=4:=Option.some.inj ((show Tryz.prog.funcNamed "cooperage/cooperagelaw11.ChunksTexts" =some 4 by kernel_rfl).symm.trans hf)|>.symm
 obtain rfl:fn=Tryz.f4:=(Option.some.inj (Tryz.func4.symm.trans h)).symm;refine⟨η,fun j t H=> ?_⟩;rw[Tryz.params4] at H;have a:t=44:=by simpa using Array.mem_of_getElem? H
 subst a;exact (show Tryz.prog.wantsStandIn 44=false by kernel_rfl)
theorem card:Rows.ChunksTextsCardSaid:=
 Claim7.holds_tied_plain_at .later [] _ _ _ _ said (fun _ h=>χ) η (fun _ h=>χ) chunksTexts_row_tie rfl ⟨rfl,rfl⟩ η rfl plain η
end lawChunksTexts
end
end Go.Proofs.YtgfdijemhanfkaaGreatDoor
