/- The law BucketRuns of layer 14 returns true, and leaves what was handed in as it was, for every list of acts, whatever the two tables of unicode/utf8 hold that their text lays; nothing else is asked. -/
import Derived.Test.YtlpfhjbpknbndaaGreatDoorP2
import Derived.Test.YtlpfhjbpknbndaaGreatDoorP23
import Derived.Test.YtlpfhjbpknbndaaGreatDoorP21
import Derived.Test.YtlpfhjbpknbndaaGreatDoorPTk
set_option maxRecDepth 100000
set_option maxHeartbeats 8000000
namespace Go.Proofs.YtlpfhjbpknbndaaGreatDoor
open Ending renaming returned→eb
open Option renaming some→aD,none→av
open Value renaming slice→cx
section
open Go.ChangeShapes Go.WideShapes Go.ChangeAt Go.RowKit
open Go.ChangeMaps (open_string shut_string)
namespace lawBucketRuns
set_option maxRecDepth 100000
theorem contract (H:Type) (enc:TypeId×Value->H) (W:World) (base:Nat) (args:Array Value) (D gs:List (DataW H)) (before:List MemPlace)
  (hval:∀(j:Nat) t v,Tryz.f3.params[j]?=aD t->args[j]?=aD v->Value.okWide Tryz.prog W .any base t v)
  (g:DataW.Whole enc Tryz.prog Tryz.f3.params.toList Rows.bucketRunsSpec.vars false W args.toList D gs before):
  Calls Tryz.prog 3 args W fun e W'=>∃v,e=eb v/\Rows.bucketRunsSpec.post enc Tryz.prog Tryz.f3 false true false false W args v W':=by
 have h:=g;obtain⟨p,q,a,k,rfl,l,m⟩:=g;have hA:DataW.TrodAll enc Tryz.prog W 0 (fun _=>true) true Tryz.f3.params.toList args.toList D p:=a;have c:=hA;rw[Tryz.params3] at hA hval;obtain⟨v0,V,w,n,P,Q,d,rfl,rfl,o,r⟩:=trodAll_cons hA;obtain⟨rfl,rfl,rfl⟩:=trodAll_nil r;obtain rfl:args=#[v0]:=by cases args;simp_all
 obtain⟨rfl,rfl⟩:=trodVars_none k;obtain⟨l0,s⟩:=J_ (hval 0 22 v0 rfl rfl) o;have lt:=fun x b=>h.lt x b;clear a;refine (xL W v0 l0 s).mono fun e W' ⟨u,i⟩=> ?_;subst u
 exact⟨_,rfl,DX (pv:=[]) h i rfl (fun _ _ _=>trodAll_cons_mk (shut_bool Tryz.underlying4 _) trodAll_mk0) (fun sp f=>xU _ (by rw[Tryz.params3];decide+kernel) c (fun x b=>i.same (lt x (by simpa using b))) (fun x b=>f x (by simpa using b))) (fun _ _=>rfl)
  (ok_one (by kernel_rfl) rfl (okWide_bool_mk Tryz.underlying4 _))⟩
theorem NP (os:Os):laidMet Tryz.prog Rows.bucketRunsRow.laid ((laidWorld os).forCall (fun _ _=>0) ⟨#[],#[cx av 0 0],[]⟩).memory:=
 laidMet_of_run' 8 (by kernel_rfl) (by kernel_rfl)
theorem reads (os:Os) {H:Type} (enc:TypeId×Value->H):∃places,DataW.whole enc Tryz.prog ((laidWorld os).forCall (fun _ _=>0) ⟨#[],#[.slice av 0 0],[]⟩).memory Tryz.f3.params.toList Rows.bucketRunsSpec.vars false #[Value.slice av 0 0].toList 8=aD ([.nil],[],places):=
 ⟨[],by kernel_rfl⟩
theorem lifted (os:Os) (started:os.Started) (H:Type) (enc:TypeId×Value->H) (F:Stop.Interp):
  ReturnsInHanded {} Tryz.checked os 3 .any ((OpenSpec.ofChange Rows.bucketRunsSpec).preRow enc Tryz.prog Tryz.f3 Rows.bucketRunsRow.domain false Rows.bucketRunsRow.laid) (((OpenSpec.ofChange Rows.bucketRunsSpec).at F).post enc Tryz.prog Tryz.f3 false true false false):=by
 obtain⟨places,h⟩:=reads os enc
 refine returnsInHanded_of_row (C:=Tryz.checked) (s:=OpenSpec.ofChange Rows.bucketRunsSpec) own started (by kernel_rfl) Tryz.func3
  (witness_row_at (enc:=enc) (C:=Tryz.checked) false (laidWorld os) #[cx av 0 0] rfl (by kernel_rfl) (by kernel_rfl) (by kernel_rfl)
   (OpenSpec.preRow_of_cond 8 h (by kernel_rfl) (fun k a=>by cases a) (by kernel_rfl) (NP os))) ?_
 intro W base args d gs before hval b _ _ _ c _ _;exact contract H enc W base args d gs before hval b
theorem said:Rows.BucketRunsSaid:=
 OpenClaim.holds_of_cond 3 Tryz.f3 rfl rfl rfl rfl rfl rfl rfl ⟨rfl,rfl,rfl,rfl,rfl⟩ rfl rfl rfl rfl rfl (by kernel_rfl) Tryz.func3 (by kernel_rfl)
  (of_decide_eq_true (by kernel_rfl)) (by unfold Func.isWrapper;first|(rw[if_pos (by decide+kernel)];kernel_rfl)|(rw[if_neg (by decide+kernel)];exact⟨rfl,rfl⟩))
  (fun os started H enc _ F=>by rw[OpenClaim.pre_eq_preRow];exact lifted os started H enc F)
theorem plain (f:FuncId) (fn:Func) (hf:Tryz.pinned.checked.prog.funcNamed "cooperage/cooperagelaw14.BucketRuns" =some f) (h:Tryz.pinned.checked.prog.funcs[f]?=some fn):
  false=Tryz.pinned.checked.prog.looks []/\∀(j:Nat) t,fn.params[j]?=some t->Tryz.pinned.checked.prog.wantsStandIn t=false:=by
 obtain rfl:f=3:=Option.some.inj ((show Tryz.prog.funcNamed "cooperage/cooperagelaw14.BucketRuns" =some 3 by kernel_rfl).symm.trans hf)|>.symm
 obtain rfl:fn=Tryz.f3:=(Option.some.inj (Tryz.func3.symm.trans h)).symm;refine⟨by kernel_rfl,fun j t H=> ?_⟩;rw[Tryz.params3] at H;have a:t=22:=by simpa using Array.mem_of_getElem? H
 subst a;exact (show Tryz.prog.wantsStandIn 22=false by kernel_rfl)
theorem card:Rows.BucketRunsCardSaid:=
 Claim7.holds_tied_plain_at .later [] _ _ _ _ said (fun _ h=>by cases h) (by kernel_rfl) (fun _ h=>by cases h) bucketRuns_row_tie rfl ⟨rfl,rfl⟩ (by kernel_rfl) rfl plain (by kernel_rfl)
end lawBucketRuns
end
end Go.Proofs.YtlpfhjbpknbndaaGreatDoor
