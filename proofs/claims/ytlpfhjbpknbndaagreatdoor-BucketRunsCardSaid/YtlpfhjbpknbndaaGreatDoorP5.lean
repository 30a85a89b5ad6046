/- Elder texts, cut down and merged (5). -/
import Derived.Test.YtlpfhjbpknbndaaGreatDoorP4
import Derived.Test.YtlpfhjbpknbndaaGreatDoorP2
import Derived.Test.YtlpfhjbpknbndaaGreatDoorP1
import Derived.Laws.ResultCell
import Derived.BigQuiet
import Derived.OrdersHeld
import Derived.Deep.RegionHeld3
import Derived.Lib.SlBytesConst
import Derived.RangeFuncBox
import Derived.RangeFuncLeaves
import Derived.Shelf.Abstract
import Derived.OwnWalkIn
import Derived.TacticsInMore
import Derived.LoopNIn
import Derived.LoopIn
import Derived.Maps.AppendAt
import Derived.Lib.Hide
import Derived.Test.YtlpfhjbpknbndaaGreatDoorIter
import Derived.Laws.CopyOwn
import Derived.StillTailTactics
import Derived.BigRegion
import Derived.Test.YtlpfhjbpknbndaaGreatDoorPTk
set_option maxRecDepth 100000
set_option maxHeartbeats 8000000
namespace Go.Proofs.YtlpfhjbpknbndaaGreatDoor
open Obj renaming cells→ey
open Option renaming none→av,some→aD
open Value renaming int→bf,string→bR,tuple→gu,agg→iK,bool→eX,pointer→e7,slice→cx
open IntKind renaming i64→cu,u64→dg,u8→gx
open Ending renaming returned→eb
open Or renaming inr→dn,inl→dc
open UInt8 renaming ofNat->bz,toNat_ofNat'->eF
open _root_.Array renaming length_toList->bk
open List renaming length_append->au,append_assoc->aF,take_left->fX,setIfInBounds_toArray->aA,set_cons_succ->az,set_cons_zero->ay,length_pos_iff->eL,getElem_mem->bI,pairwise_iff_getElem->ga,length_take->aO,take_succ_eq_append_getElem->cC,length_cons->a_,mem_cons->aX,append_nil->bA,getElem?_map->cD,getElem?_eq_getElem->aK,getD_eq_getElem?_getD->bZ,length_nil->ef,take_of_length_le->cg,drop_eq_getElem_cons->cw,map_cons->bM,replicate->bB,length_replicate->dZ,length_eq_zero_iff->eG,take_append_drop->cP,getElem?_append_right->iy,map_append->bQ,mem_append->aj,mem_cons_of_mem->aI,mem_cons_self->aE,filter_cons->cW
open Nat renaming mod_eq_of_lt->lH,le_refl->ah,add_zero->d_,zero_le->aB,le_trans->aH,min_eq_left->ct
open World renaming drew->bJ,block_lt_of_cell?->bD,size_alloc->aS
open Bool renaming eq_iff_iff->jf
open Int renaming toNat_natCast->dF
section
open Go.RowKit Lib
theorem Is {fn:Func} {p u:Tmp} (h:fn.results=#[.cell p 89,.tmp u]) (tmps:Array Value) (w:World) (g:Nat) (x y:Value) (fr:Nat×Nat)
  (hp:tmps.getD p undef=.pointer (aD ⟨g,0,av⟩)) (hg:w.heap[g]?=aD (ey #[x,y] 89 fr)):
  (results fn tmps).run Tryz.prog w=.ok (.tuple #[.agg #[x,y],tmps.getD u undef]) w:=by
 rw[results_cell_tmp h,hp];simp[asAddr,run_loadVar_row w g _ 89 _ fr _ hg Tryz.underlying89 rfl (by kernel_rfl),Result.andThen]
def iC (k v:List UInt8):List UInt8:=bz k.length::bz v.length::(k++v)
theorem gT (k v:List UInt8):(iC k v).length=2+k.length+v.length:=by simp[iC];omega
section
variable {w w':World} {p q:Nat} {n m:NV}
theorem El (w:World) (s:ByteArray) (k v rest:List UInt8) (hs:s.data.toList=iC k v++rest) (g:k.length<=200) (i:v.length<=200) (n:s.size<=1000000):
  Calls Tryz.prog 202 #[bR s] w fun e w'=>e=eb (gu #[iK #[bR (bs k),bR (bs v)],bf cu (2+k.length+v.length:Nat)])/\Below w.heap.size w w':=by
 have c:s.size=2+k.length+v.length+rest.length:=by have:s.data.toList.length=s.size:=bk;rw[<-this,hs,au,gT]
 have j:0<s.size:=by omega
 have l:1<s.size:=by omega
 have U:¬(s.size:Int)<2:=by omega
 have h:k.length<256:=by omega
 have O:v.length<256:=by omega
 have p:((s[0].toNat:Nat):Int)=k.length:=by rw[<-lp s 0 j,hs];show (((bz k.length).toNat:Nat):Int)=_;rw[eF,lH (by simpa using h)]
 have q:((s[1].toNat:Nat):Int)=v.length:=by rw[<-lp s 1 l,hs];show (((bz v.length).toNat:Nat):Int)=_;rw[eF,lH (by simpa using O)]
 have E:s.extract 2 (2+k.length)=bs k:=by apply ByteArray.ext;apply Array.ext';rw[ByteArray.data_extract,Array.toList_extract,List.extract_eq_take_drop,hs];show List.take (2+k.length-2) (k++v++rest)=k;rw[Nat.add_sub_cancel_left,aF,fX]
 have m:s.extract (2+k.length) (2+k.length+v.length)=bs v:=by apply ByteArray.ext;apply Array.ext';rw[ByteArray.data_extract,Array.toList_extract,List.extract_eq_take_drop,hs];show List.take _ (List.drop (2+k.length) (bz k.length::bz v.length::(k++v++rest)))=v;rw[show 2+k.length=k.length+1+1 by omega,List.drop_succ_cons,List.drop_succ_cons,aF,List.drop_left,show k.length+1+1+v.length-(k.length+1+1)=v.length by omega,fX]
 have hle:¬(s.size:Int)<2+k.length+v.length:=by omega
 have A:(2:Int)+k.length<=s.size:=by omega
 have d:(2:Int)+k.length+v.length<=s.size:=by omega
 have u:(k.length:Int)<=200:=by omega
 have r:(v.length:Int)<=200:=by omega
 obtain⟨K,H⟩:∃K,K=bs k:=⟨_,rfl⟩;obtain⟨V,f⟩:∃V,V=bs v:=⟨_,rfl⟩;rw[<-H] at E |-;rw[<-f] at m |-;generalize k.length=a at*;generalize v.length=b at*;clear hs c H f g i h O;go_enter Tryz.func202,Tryz.ntmps202;go_wp2_with (refine wp_region_any (by kernel_rfl) ?_;refine Hid.o ?_);refine aa ?_;try (change wpAny _ _ _ _ _ _ _ (bJ _))
 have t:(0:Int)<=2+a:=by omega
 have T:(2:Int)<=2+a:=by omega
 have x:(0:Int)<=2+a+b:=by omega
 have y:(2:Int)+a<=2+a+b:=by omega
 have n1:((2:Int)+a).toNat=2+a:=by omega
 have N:((2:Int)+a+b).toNat=2+a+b:=by omega
 refine tk 0 ?_;refine tk 1 ?_;refine tk 2 ?_;refine tk 3 ?_;refine tk 4 ?_;refine tk 5 ?_;refine tk 6 ?_;refine tk 7 ?_;refine tk 8 ?_;try simp only[Act.put,aA,az,ay]
 refine rd [9] (rn fun K H=> ?_);go_simp;refine H _ _ ?_;clear H K;refine tk 10 ?_;refine wpAny_done (by kernel_rfl) ?_ _;go_wp2;refine bodyPost_ret (Is rfl _ _ w.heap.size _ _ _ rfl (heap_alloc_new _ _)) rfl ?_;refine⟨?_,((Below.refl _ w).alloc (ah _) _).drew⟩;show Ending.returned (gu #[iK #[bR K,bR V],bf cu ((2:Int)+a+b)])=_;go_num
structure Sound (n:NV):Prop where
 level:n.level<=15
 ne:n.its≠[]
 first:0<n.level->∀h:0<n.its.length,n.its[0].key=[]
 srt:KS n.its
 each:∀i∈n.its,i.key.length<=96/\i.val.length<=56/\(0<n.level->i.val.length=2)
theorem Ab (h:Nd w p n) (hs:Sound n):
  Calls Tryz.prog 203 #[ptr p] w fun e w'=>e=eb (eX true)/\Below w.heap.size w w':=by
 have c0:=h.c0;have c1:=h.c1;have E:=h.blk.lt;have p_:(n.level:Int)<=15:=by have:=hs.level;omega
 have Z:¬(n.level:Int)<0:=by omega
 have hpos:0<n.its.length:=eL.2 hs.ne;have K3:((n.its.length:Int)==0)=false:=by rw[beq_eq_false_iff_ne];omega
 have Uy:(0:Int)<n.its.length:=by omega
 have aaU:decide ((15:Int)<n.level)=false:=by rw[decide_eq_false_iff_not];omega
 have YM:decide ((n.level:Int)<0)=false:=by rw[decide_eq_false_iff_not];omega
 have hl:=h.small.len;have jD:(n.its.length:Int)<=400:=by omega
 obtain⟨D,k0,q⟩:∃D,w.cell? ⟨n.rg,n.ro,av⟩=aD (bR D)/\(0<n.level->D=⟨#[]⟩):=by obtain⟨k0,_,_⟩:=bh h.row 0 hpos;rw[Nat.zero_mul,d_] at k0;exact⟨_,k0,fun e=>by rw[hs.first e hpos];rfl⟩
 have HN:=aa h;have G:=aa hs;have J:=aa (fun (W:World) (hb:Below w.heap.size w W) (j:Nat) (g:j<n.its.length)=>bh (ez h.row hb) j g);obtain⟨L,K⟩:∃L,L=n.its.length:=⟨_,rfl⟩;rw[<-K] at c1 K3 Uy jD;have X:=aa K;clear h hs hl hpos K;by_cases l:n.level=0
 ·have BW:¬(0:Int)<n.level:=by omega
  have M:=aa l;clear l q;go_enter Tryz.func203,Tryz.ntmps203;unfold ptr;go_wp2
  go_loopw [46] (fun I wr=>∃j:Nat,j<=L/\I=bf cu j/\Hid (Below w.heap.size w wr)) (fun I _=>L-(RowKit.intOf I).toNat)
  case atStart=>exact⟨0,aB _,rfl,aa (Below.refl _ _)⟩
  case round=>
   obtain⟨j,g,rfl,f⟩:=hrel;by_cases a:j<L
   ·have N:(j:Int)<L:=(by omega);have b:j<n.its.length:=(by rw[<-X.o];exact a);obtain⟨A,a1,r⟩:=J.o wr f.o j b;have c:=(f.o.cell (p:=⟨p,0,av⟩) E).trans c0;have C:=(f.o.cell (p:=⟨p,1,av⟩) E).trans c1;have s:=G.o.each _ (bI b);have YN:decide ((96:Int)<(bs n.its[j].key).size)=false:=(by rw[aP,decide_eq_false_iff_not];omega);have YO:decide ((56:Int)<(bs n.its[j].val).size)=false:=(by rw[aP,decide_eq_false_iff_not];omega);have O:=aa (show 0<n.level->((bs n.its[j].val).size:Int)=2 from fun e=>by rw[aP];have:=s.2.2 e;omega);have t:((bs n.its[j].key).size:Int)<=96/\((bs n.its[j].val).size:Int)<=56:=(by rw[aP,aP];omega);obtain⟨Uz,OI⟩:=t;have m:=aa (show j<L from a);cases j with
    |zero=>
     generalize bs n.its[0].key=k at*;generalize bs n.its[0].val=v at*;generalize pa n.its[0].node=Q at*;rw[Nat.zero_mul,d_] at A a1 r;clear s a g b;go_wp2_with fail;obtain⟨W,d⟩:∃W,W=wr.alloc (ey #[bR k,bR v,e7 Q] 122):=⟨_,rfl⟩;have P:W.cell? ⟨wr.heap.size,0,av⟩=aD (bR k):=(by rw[d];exact (aU.new wr _ _).cell rfl);have R:W.cell? ⟨wr.heap.size,1,av⟩=aD (bR v):=(by rw[d];exact (aU.new wr _ _).cell rfl);have H:Below wr.heap.size wr W:=(by rw[d];exact (Below.refl _ wr).alloc (ah _) _);have S:=(H.cell (p:=⟨p,0,av⟩) (bD _ _ c)).trans c;have T:=(H.cell (p:=⟨p,1,av⟩) (bD _ _ C)).trans C;have u:=aa (f.o.trans (H.mono f.o.size));rw[<-d];clear d H c C A a1 r c0 c1 k0
     go_quiet (fail)
     have F:=aa (u.o.trans (show Below w.heap.size W (W.drewN nq) from⟨rfl,rfl,rfl,ah _,fun _ _=>rfl⟩));go_wp2;go_roundw
     case rel=>exact⟨_,m.o,by go_num,F⟩
     case measure=>have:=m.o;simp[RowKit.intOf];try omega
    |succ i=>
     obtain⟨B,x,y⟩:=J.o wr f.o i (by omega);have Y:=ga.1 G.o.srt i (i+1) (by omega) b (by omega);have U:Op.bytesLess (bs n.its[i+1].key).toList (bs n.its[i].key).toList=false:=(by rw[bt,bt,Tr.lt_eq];exact Tr.lt_asymm Y);have Gp:((bs n.its[i+1].key).toList==(bs n.its[i].key).toList)=false:=(by rw[bt,bt,beq_eq_false_iff_ne];exact fun e=>Tr.ne_of_lt Y e.symm);generalize bs n.its[i+1].key=k at*;generalize bs n.its[i+1].val=v at*;generalize pa n.its[i+1].node=Q at*;generalize bs n.its[i].key=pp at*;clear s a g b Y x y;go_wp2_with fail;obtain⟨W,d⟩:∃W,W=wr.alloc (ey #[bR k,bR v,e7 Q] 122):=⟨_,rfl⟩;have P:W.cell? ⟨wr.heap.size,0,av⟩=aD (bR k):=(by rw[d];exact (aU.new wr _ _).cell rfl);have R:W.cell? ⟨wr.heap.size,1,av⟩=aD (bR v):=(by rw[d];exact (aU.new wr _ _).cell rfl);have H:Below wr.heap.size wr W:=(by rw[d];exact (Below.refl _ wr).alloc (ah _) _);have S:=(H.cell (p:=⟨p,0,av⟩) (bD _ _ c)).trans c;have T:=(H.cell (p:=⟨p,1,av⟩) (bD _ _ C)).trans C;have f0:=(H.cell (p:=⟨n.rg,n.ro+i*3,av⟩) (bD _ _ B)).trans B;have u:=aa (f.o.trans (H.mono f.o.size));rw[<-d];clear d H c C A a1 r c0 c1 k0 B
     go_quiet (fail)
     have F:=aa (u.o.trans (show Below w.heap.size W (W.drewN nq) from⟨rfl,rfl,rfl,ah _,fun _ _=>rfl⟩));go_wp2;go_roundw
     case rel=>exact⟨_,m.o,by go_num,F⟩
     case measure=>have:=m.o;simp[RowKit.intOf];try omega
   ·have N:¬(j:Int)<L:=(by omega);clear a g;go_wp2;go_ret;exact⟨rfl,f.o⟩
 ·have BW:(0:Int)<n.level:=by omega
  have M:=aa l;have V:=q (by omega);have aV:D.toList.isEmpty=true:=by rw[V];exact (congrArg List.isEmpty (bt []))
  have bN:D.toList=[]:=by rw[V];exact bt []
  clear l q V;go_enter Tryz.func203,Tryz.ntmps203;unfold ptr;go_wp2
  go_loopw [46] (fun I wr=>∃j:Nat,j<=L/\I=bf cu j/\Hid (Below w.heap.size w wr)) (fun I _=>L-(RowKit.intOf I).toNat)
  case atStart=>exact⟨0,aB _,rfl,aa (Below.refl _ _)⟩
  case round=>
   obtain⟨j,g,rfl,f⟩:=hrel;by_cases a:j<L
   ·have N:(j:Int)<L:=(by omega);have b:j<n.its.length:=(by rw[<-X.o];exact a);obtain⟨A,a1,r⟩:=J.o wr f.o j b;have c:=(f.o.cell (p:=⟨p,0,av⟩) E).trans c0;have C:=(f.o.cell (p:=⟨p,1,av⟩) E).trans c1;have s:=G.o.each _ (bI b);have YN:decide ((96:Int)<(bs n.its[j].key).size)=false:=(by rw[aP,decide_eq_false_iff_not];omega);have YO:decide ((56:Int)<(bs n.its[j].val).size)=false:=(by rw[aP,decide_eq_false_iff_not];omega);have O:=aa (show 0<n.level->((bs n.its[j].val).size:Int)=2 from fun e=>by rw[aP];have:=s.2.2 e;omega);have t:((bs n.its[j].key).size:Int)<=96/\((bs n.its[j].val).size:Int)<=56:=(by rw[aP,aP];omega);obtain⟨Uz,OI⟩:=t;have m:=aa (show j<L from a);cases j with
    |zero=>
     generalize bs n.its[0].key=k at*;generalize bs n.its[0].val=v at*;generalize pa n.its[0].node=Q at*;rw[Nat.zero_mul,d_] at A a1 r;have z:=O.o (by have:=M.o;omega);have YP:((v.size:Int)==2)=true:=(by rw[z];rfl);clear s a g b;go_wp2_with fail;obtain⟨W,d⟩:∃W,W=wr.alloc (ey #[bR k,bR v,e7 Q] 122):=⟨_,rfl⟩;have P:W.cell? ⟨wr.heap.size,0,av⟩=aD (bR k):=(by rw[d];exact (aU.new wr _ _).cell rfl);have R:W.cell? ⟨wr.heap.size,1,av⟩=aD (bR v):=(by rw[d];exact (aU.new wr _ _).cell rfl);have H:Below wr.heap.size wr W:=(by rw[d];exact (Below.refl _ wr).alloc (ah _) _);have S:=(H.cell (p:=⟨p,0,av⟩) (bD _ _ c)).trans c;have T:=(H.cell (p:=⟨p,1,av⟩) (bD _ _ C)).trans C;have u:=aa (f.o.trans (H.mono f.o.size));rw[<-d];clear d H c C A a1 r c0 c1 k0
     go_quiet (fail)
     have F:=aa (u.o.trans (show Below w.heap.size W (W.drewN nq) from⟨rfl,rfl,rfl,ah _,fun _ _=>rfl⟩));go_wp2;go_roundw
     case rel=>exact⟨_,m.o,by go_num,F⟩
     case measure=>have:=m.o;simp[RowKit.intOf];try omega
    |succ i=>
     obtain⟨B,x,y⟩:=J.o wr f.o i (by omega);have Y:=ga.1 G.o.srt i (i+1) (by omega) b (by omega);have U:Op.bytesLess (bs n.its[i+1].key).toList (bs n.its[i].key).toList=false:=(by rw[bt,bt,Tr.lt_eq];exact Tr.lt_asymm Y);have Gp:((bs n.its[i+1].key).toList==(bs n.its[i].key).toList)=false:=(by rw[bt,bt,beq_eq_false_iff_ne];exact fun e=>Tr.ne_of_lt Y e.symm);generalize bs n.its[i+1].key=k at*;generalize bs n.its[i+1].val=v at*;generalize pa n.its[i+1].node=Q at*;generalize bs n.its[i].key=pp at*;have z:=O.o (by have:=M.o;omega);have YP:((v.size:Int)==2)=true:=(by rw[z];rfl);clear s a g b Y x y;go_wp2_with fail;obtain⟨W,d⟩:∃W,W=wr.alloc (ey #[bR k,bR v,e7 Q] 122):=⟨_,rfl⟩;have P:W.cell? ⟨wr.heap.size,0,av⟩=aD (bR k):=(by rw[d];exact (aU.new wr _ _).cell rfl);have R:W.cell? ⟨wr.heap.size,1,av⟩=aD (bR v):=(by rw[d];exact (aU.new wr _ _).cell rfl);have H:Below wr.heap.size wr W:=(by rw[d];exact (Below.refl _ wr).alloc (ah _) _);have S:=(H.cell (p:=⟨p,0,av⟩) (bD _ _ c)).trans c;have T:=(H.cell (p:=⟨p,1,av⟩) (bD _ _ C)).trans C;have f0:=(H.cell (p:=⟨n.rg,n.ro+i*3,av⟩) (bD _ _ B)).trans B;have u:=aa (f.o.trans (H.mono f.o.size));rw[<-d];clear d H c C A a1 r c0 c1 k0 B
     go_quiet (fail)
     have F:=aa (u.o.trans (show Below w.heap.size W (W.drewN nq) from⟨rfl,rfl,rfl,ah _,fun _ _=>rfl⟩));go_wp2;go_roundw
     case rel=>exact⟨_,m.o,by go_num,F⟩
     case measure=>have:=m.o;simp[RowKit.intOf];try omega
   ·have N:¬(j:Int)<L:=(by omega);clear a g;go_wp2;go_ret;exact⟨rfl,f.o⟩
end
def hasB (lo hi key:List UInt8):Bool:= !Tr.lt key lo&& !(!hi.isEmpty&& !Tr.lt key hi)
section
variable {w w':World} {p q:Nat} {n m:NV}
theorem x7 (h:Nd w p n) (lo hi:List UInt8) (q:n.level=0) (H:n.its≠[]) (ha:∀i∈n.its,hasB lo hi i.key=true):
  Calls Tryz.prog 168 #[ptr p,iK #[bR (bs lo),bR (bs hi)]] w fun e w'=>e=eb (eX true)/\Below w.heap.size w w':=by
 have c0:=h.c0;have c1:=h.c1;have hpos:0<n.its.length:=eL.2 H;have r:((n.its.length:Int)==0)=false:=by rw[beq_eq_false_iff_ne];omega
 have E:¬(0:Int)<n.level:=by omega
 have hl:=h.small.len;have J:(n.its.length:Int)<=400:=by omega
 have y:(0:Int)<n.its.length:=by omega
 have A:=(bh h.row 0 hpos).1;have a1:=(bh h.row (n.its.length-1) (by omega)).1;rw[Nat.zero_mul,d_] at A;have s:=ha _ (bI hpos);have t:=ha _ (bI (show n.its.length-1<n.its.length by omega));generalize n.its[0].key=k0 at*;generalize n.its[n.its.length-1].key=c at*;have u:=bD _ _ A;have F:=h.blk.lt
 have d:=aa (show ∀(W:World) (k:List UInt8),hasB lo hi k=true->Calls Tryz.prog 95 #[iK #[bR (bs lo),bR (bs hi)],bR (bs k)] W fun e w'=>e=eb (eX true)/\Below W.heap.size W w' from fun W k f=>by
  have:=nZ W lo hi k;unfold hasB at f
  rwa [f] at this)
 generalize bs lo=l at*;generalize bs hi=hh at*;obtain⟨L,g⟩:∃L,L=n.its.length:=⟨_,rfl⟩;rw[<-g] at c1 r J y a1 hpos;clear h ha H hl g;obtain⟨M,rfl⟩:∃M,L=M+1:=⟨L-1,by omega⟩;rw[Nat.add_sub_cancel] at a1;have v:(M:Int)<M+1:=by omega
 have x:IntKind.i64.wrap (M:Int)=M:=cX M (by omega);have z:((M:Int)+1==0)=false:=by rw[beq_eq_false_iff_ne];omega
 go_enter Tryz.func168,Tryz.ntmps168;unfold ptr;go_wp2_with (refine wp_region_held_drew (S:=(fun X=>X.cell? ⟨w.heap.size,0,av⟩=aD (bR l)/\X.cell? ⟨w.heap.size,1,av⟩=aD (bR hh)/\X.cell? ⟨n.rg,n.ro,av⟩=aD (bR (bs k0))/\X.cell? ⟨n.rg,n.ro+M*3,av⟩=aD (bR (bs c)))) (by kernel_rfl) ?_ (fun a=> ?_);focus skip;rotate_left;refine Hid.o ?_);refine aa ?_;·trivial
 have B:=aa ((Below.refl w.heap.size w).alloc (ah _) (ey #[bR l,bR hh] 125));refine bF 0 a ?_;refine bF 1 a ?_;refine bF 2 a ?_;refine bF 3 a ?_;try simp only[Act.put,aA,az,ay]
 refine bF 4 a ?_;refine bF 5 a ?_;refine bF 6 a ?_;refine bF 7 a ?_;refine bF 8 a ?_;refine bF 9 a ?_;try simp only[Act.put,aA,az,ay]
 refine iV [10] (iW fun K b=> ?_);go_simp;refine (d.o _ k0 s).mono ?_;rintro e G ⟨rfl,N⟩;have m:=aa N;refine b.out _ _ ⟨(N.cell (bD _ _ a.1)).trans a.1,(N.cell (bD _ _ a.2.1)).trans a.2.1,(N.cell (bD _ _ a.2.2.1)).trans a.2.2.1,(N.cell (bD _ _ a.2.2.2)).trans a.2.2.2⟩ (fun a=> ?_);clear b K N;try simp only[Act.put,aA,az,ay]
 refine bF 11 a ?_;try simp only[Act.put,aA,az,ay]
 refine bF 12 a ?_;refine bF 13 a ?_;refine bF 14 a ?_;refine bF 15 a ?_;try simp only[Act.put,aA,az,ay]
 refine bF 16 a ?_;refine bF 17 a ?_;try simp only[Act.put,aA,az,ay]
 refine bF 18 a ?_;refine bF 19 a ?_;refine bF 20 a ?_;try simp only[Act.put,aA,az,ay]
 refine iV [21] (iW fun K b=> ?_);go_simp;refine (d.o _ c t).mono ?_;rintro e I ⟨rfl,j⟩;have C:=aa j;refine b.out _ _ ⟨(j.cell (bD _ _ a.1)).trans a.1,(j.cell (bD _ _ a.2.1)).trans a.2.1,(j.cell (bD _ _ a.2.2.1)).trans a.2.2.1,(j.cell (bD _ _ a.2.2.2)).trans a.2.2.2⟩ (fun a=> ?_);clear b K j;try simp only[Act.put,aA,az,ay]
 refine bF 22 a ?_;refine bF 23 a ?_;refine bF 24 a ?_;refine wpAnyH_done (by kernel_rfl) ?_ _;have D:=aa ((B.o.drew.trans (m.o.mono (by simp only[World.size_drew,aS];omega))).trans (C.o.mono (aH (by simp only[World.size_drew,aS];omega) m.o.size)));go_wp2;go_ret;exact⟨rfl,D.o⟩
theorem vJ (h:Nd w p n) (lo hi:List UInt8) (c:0<n.level) (b:n.its≠[]) (ha:∀i∈n.its.tail,hasB lo hi i.key=true):
  Calls Tryz.prog 168 #[ptr p,iK #[bR (bs lo),bR (bs hi)]] w fun e w'=>e=eb (eX true)/\Below w.heap.size w w':=by
 have c0:=h.c0;have c1:=h.c1;have hpos:0<n.its.length:=eL.2 b;have I:(0:Int)<n.level:=by omega
 have hl:=h.small.len;have H:=h.small.cap.1;have J:(n.its.length:Int)<=400:=by omega
 by_cases q:2<=n.its.length
 ·have A:=(bh h.row 1 (by omega)).1;have a1:=(bh h.row (n.its.length-1) (by omega)).1
  have x:=ha n.its[1] (by
   rw[List.mem_iff_getElem];exact⟨0,by rw[List.length_tail];omega,by rw[List.getElem_tail]⟩)
  have g:=ha n.its[n.its.length-1] (by
   rw[List.mem_iff_getElem];exact⟨n.its.length-2,by rw[List.length_tail];omega,by rw[List.getElem_tail];congr 1;omega⟩)
  rw[Nat.one_mul] at A;generalize n.its[1].key=k0 at*;generalize n.its[n.its.length-1].key=r at*
  have s:=aa (show ∀(W:World) (k:List UInt8),hasB lo hi k=true->Calls Tryz.prog 95 #[iK #[bR (bs lo),bR (bs hi)],bR (bs k)] W fun e w'=>e=eb (eX true)/\Below W.heap.size W w' from fun W k t=>by
   have:=nZ W lo hi k;unfold hasB at t
   rwa [t] at this)
  generalize bs lo=l at*;generalize bs hi=hh at*;obtain⟨M,u⟩:∃M,n.its.length=M+2:=⟨n.its.length-2,by omega⟩;rw[u] at c1 J H a1;rw[show M+2-1=M+1 by omega,show n.ro+(M+1)*3=n.ro+3+M*3 by omega] at a1;have y:(M:Int)<M+1:=by omega
  have z:IntKind.i64.wrap (M:Int)=M:=cX M (by omega);have B:((M:Int)+1==0)=false:=by rw[beq_eq_false_iff_ne];omega
  have d:¬n.cap=1:=by omega
  have C:=bD _ _ A;have D:=h.blk.lt;clear h ha b hl u hpos q c;go_enter Tryz.func168,Tryz.ntmps168;unfold ptr;go_wp2_with (refine wp_region_held_drew (S:=(fun X=>X.cell? ⟨w.heap.size,0,av⟩=aD (bR l)/\X.cell? ⟨w.heap.size,1,av⟩=aD (bR hh)/\X.cell? ⟨n.rg,n.ro+3,av⟩=aD (bR (bs k0))/\X.cell? ⟨n.rg,n.ro+3+M*3,av⟩=aD (bR (bs r)))) (by kernel_rfl) ?_ (fun a=> ?_);focus skip;rotate_left;refine Hid.o ?_);refine aa ?_;·trivial
  have E:=aa ((Below.refl w.heap.size w).alloc (ah _) (ey #[bR l,bR hh] 125));refine bF 0 a ?_;refine bF 1 a ?_;refine bF 2 a ?_;refine bF 3 a ?_;try simp only[Act.put,aA,az,ay]
  refine bF 4 a ?_;refine bF 5 a ?_;refine bF 6 a ?_;refine bF 7 a ?_;refine bF 8 a ?_;refine bF 9 a ?_;try simp only[Act.put,aA,az,ay]
  refine iV [10] (iW fun K f=> ?_);go_simp;refine (s.o _ k0 x).mono ?_;rintro e L ⟨rfl,N⟩;have v:=aa N;refine f.out _ _ ⟨(N.cell (bD _ _ a.1)).trans a.1,(N.cell (bD _ _ a.2.1)).trans a.2.1,(N.cell (bD _ _ a.2.2.1)).trans a.2.2.1,(N.cell (bD _ _ a.2.2.2)).trans a.2.2.2⟩ (fun a=> ?_);clear f K N;try simp only[Act.put,aA,az,ay]
  refine bF 11 a ?_;try simp only[Act.put,aA,az,ay]
  refine bF 12 a ?_;refine bF 13 a ?_;refine bF 14 a ?_;refine bF 15 a ?_;try simp only[Act.put,aA,az,ay]
  refine bF 16 a ?_;refine bF 17 a ?_;try simp only[Act.put,aA,az,ay]
  refine bF 18 a ?_;refine bF 19 a ?_;refine bF 20 a ?_;try simp only[Act.put,aA,az,ay]
  refine iV [21] (iW fun K f=> ?_);go_simp;refine (s.o _ r g).mono ?_;rintro e O ⟨rfl,j⟩;have G:=aa j;refine f.out _ _ ⟨(j.cell (bD _ _ a.1)).trans a.1,(j.cell (bD _ _ a.2.1)).trans a.2.1,(j.cell (bD _ _ a.2.2.1)).trans a.2.2.1,(j.cell (bD _ _ a.2.2.2)).trans a.2.2.2⟩ (fun a=> ?_);clear f K j;try simp only[Act.put,aA,az,ay]
  refine bF 22 a ?_;refine bF 23 a ?_;refine bF 24 a ?_;refine wpAnyH_done (by kernel_rfl) ?_ _;have m:=aa ((E.o.drew.trans (v.o.mono (by simp only[World.size_drew,aS];omega))).trans (G.o.mono (aH (by simp only[World.size_drew,aS];omega) v.o.size)));go_wp2;go_ret;exact⟨rfl,m.o⟩
 ·have g:n.its.length=1:=by omega
  rw[g] at c1 H;generalize bs lo=l at*;generalize bs hi=hh at*;have m:=aa ((Below.refl w.heap.size w).alloc (ah _) (ey #[bR l,bR hh] 125));have P:(1:Int)<=n.cap:=by omega
  have D:=h.blk.lt;clear h ha b hl g hpos q c J;by_cases d:n.cap=1
  ·rw[d] at c1;go_enter Tryz.func168,Tryz.ntmps168;unfold ptr;go_wp2_with fail
   go_quiet (fail)
   have F:=aa (m.o.trans (show Below w.heap.size _ ((w.alloc (ey #[bR l,bR hh] 125)).drewN nq) from⟨rfl,rfl,rfl,ah _,fun _ _=>rfl⟩));go_wp2;go_ret;exact⟨rfl,F.o⟩
  ·go_enter Tryz.func168,Tryz.ntmps168;unfold ptr;go_wp2_with fail
   go_quiet (fail)
   have F:=aa (m.o.trans (show Below w.heap.size _ ((w.alloc (ey #[bR l,bR hh] 125)).drewN nq) from⟨rfl,rfl,rfl,ah _,fun _ _=>rfl⟩));go_wp2;go_ret;exact⟨rfl,F.o⟩
end
theorem Ox.le {l t:List UInt8} {c:UInt8} (h:Ox l c t):t.length<=l.length:=by obtain⟨m,_,rfl,_⟩:=h;rw[aO];exact Nat.min_le_right _ _
theorem BX (s:ByteArray) (w:World) (hs:s.size<=9223372036854775807):
  Calls Tryz.prog 96 #[bR s,bR ⟨#[0]⟩] w fun e w'=>(∃t:ByteArray,e=eb (bR t)/\(t.data.toList=[]↔Wl.blank s.data.toList=true))/\∃n,w'=w.drewN n:=by
 by_cases a:s.size=0
 ·have hd:s.data.toList=[]:=List.eq_nil_of_length_eq_zero (by rw[bk];exact a);have H:s.toList.isEmpty=true:=by rw[ByteArray.toList_eq,hd];rfl
  have k:s.toList=[]:=by rw[ByteArray.toList_eq,hd]
  have c:=aa hd;clear hd a;go_enter Tryz.func96,Tryz.ntmps96;go_wp2;go_ret;refine⟨⟨s,rfl, ?_⟩,0,rfl⟩;rw[c.o];exact⟨fun _=>rfl,fun _=>rfl⟩
 ·have H:s.toList.isEmpty=false:=by rw[ByteArray.toList_eq,List.isEmpty_eq_false_iff];intro h;apply a;have:=congrArg List.length h;rw[bk] at this;exact this
  have k:(!s.toList.isEmpty)=true:=by rw[H];rfl
  go_enter Tryz.func96,Tryz.ntmps96;go_wp2
  go_region_held3 (fun _=>True) (exact trivial)
   (first
    |(go_at_call 146;refine (xX s 0 _ hs).mono ?_;rintro e w1 ⟨⟨t,rfl,b⟩,rfl⟩)
    |(go_at_call 145;refine (z7 t 0 _ ?_).mono ?_;(have:=b.le;rw[bk,bk] at this;exact aH this hs);rintro e W ⟨⟨u,rfl,hu⟩,rfl⟩))
  all_goals (go_wp2;go_ret;exact⟨⟨u,rfl,KO b hu⟩,1,rfl⟩)
theorem Em (s:ByteArray) (w:World) (hs:s.size<=9223372036854775807):
  Calls Tryz.prog 60 #[bR s] w fun e w'=>e=eb (eX (Wl.blank s.data.toList))/\∃n,w'=w.drewN n:=by
 go_enter Tryz.func60,Tryz.ntmps60;go_wp2_with fail;refine (BX s w hs).mono ?_;rintro e w1 ⟨⟨t,rfl,h⟩,n,rfl⟩
 have H:=aa (show t.toList.isEmpty=Wl.blank s.data.toList by
  rw[ByteArray.toList_eq,jf,List.isEmpty_iff];exact h)
 clear h;go_wp2;go_ret;refine⟨iZ ?_,n,rfl⟩;rw[<-H.o]
theorem aG.K4 {w w' W:World} {v:Value} (h:Below w.heap.size w w') (H:aG (fun k=>v.ownBlock=aD k) w' W) (a:∀k,v.ownBlock=aD k->w.heap.size<=k):Below w.heap.size w W:=
 h.trans (H.below h.size (fun k b e=>by have:=a k e;omega))
theorem En (size ring at_ num:Nat):Wl.title++(([size,ring,at_,num]:List Nat).take 4).flatMap (Wl.enc 8)=Wl.first size ring at_ num:=by simp[Wl.first]
theorem Iu (l:List Nat) (k:Nat) (h:k<l.length):(l.take (k+1)).flatMap (Wl.enc 8)=(l.take k).flatMap (Wl.enc 8)++Wl.enc 8 l[k]:=by rw[cC h,List.flatMap_append];simp
theorem K5 (l:List Nat):(l.flatMap (Wl.enc 8)).length=8*l.length:=by
 induction l with
 |nil=>rfl
 |cons a l i=>rw[List.flatMap_cons,au,i,Wl.cE,a_];omega
theorem x8 (size ring at_ num:Nat) (w:World) (j:size<=1000000) (l:ring<=1000000) (h3:at_<=1000000) (h4:num<2^64):
  Calls Tryz.prog 63 #[.int cu size,.int cu ring,.agg #[.int cu at_,.int dg num]] w fun e w'=>e=eb (.string (bs (Wl.first size ring at_ num)))/\Below w.heap.size w w':=by
 have t:=aa (And.intro j (And.intro l (And.intro h3 h4)));have I:(size:Int)<=1000000:=by omega
 have E:(ring:Int)<=1000000:=by omega
 have F:(at_:Int)<=1000000:=by omega
 clear j l h3 h4;have kc:(convert 94 94 (.slice (aD ⟨w.heap.size+1,0,av⟩) 14 14)).run Tryz.prog ((w.alloc (ey #[.int cu at_,.int dg num] 106)).alloc (ey #[.int gx 99,.int gx 111,.int gx 111,.int gx 112,.int gx 101,.int gx 114,.int gx 97,.int gx 103,.int gx 101,.int gx 32,.int gx 108,.int gx 111,.int gx 103,.int gx 10] 5))=.ok (.slice (aD ⟨w.heap.size+1,0,av⟩) 14 14) ((w.alloc (ey #[.int cu at_,.int dg num] 106)).alloc (ey #[.int gx 99,.int gx 111,.int gx 111,.int gx 112,.int gx 101,.int gx 114,.int gx 97,.int gx 103,.int gx 101,.int gx 32,.int gx 108,.int gx 111,.int gx 103,.int gx 10] 5 (14,15))):=by have:=Lib.run_convert_bytes_const (P:=Tryz.prog) (w.alloc (ey #[.int cu at_,.int dg num] 106)) 94 5 #[.int gx 99,.int gx 111,.int gx 111,.int gx 112,.int gx 101,.int gx 114,.int gx 97,.int gx 103,.int gx 101,.int gx 32,.int gx 108,.int gx 111,.int gx 103,.int gx 10] 14 14 Tryz.underlying94 Tryz.underlying5;rw[aS] at this;exact this
 go_enter Tryz.func63,Tryz.ntmps63;go_wp2;obtain⟨V,b⟩:∃V,V=(((w.alloc (ey #[.int cu at_,.int dg num] 106)).alloc (ey #[.int gx 99,.int gx 111,.int gx 111,.int gx 112,.int gx 101,.int gx 114,.int gx 97,.int gx 103,.int gx 101,.int gx 32,.int gx 108,.int gx 111,.int gx 103,.int gx 10] 5 (14,15))).alloc (ey #[.int dg size,.int dg ring,.int dg at_,.int dg num] 33)):=⟨_,rfl⟩;rw[<-b];have v:=aa (show Below w.heap.size w V by rw[b];exact (((Below.refl _ _).alloc (ah _) _).alloc (by simp) _).alloc (by simp;omega) _)
 have y:=aa (show fk false 0 V (.slice (aD ⟨w.heap.size+1,0,av⟩) 14 14) Wl.title by
  have:=(fk.const (w.alloc (ey #[.int cu at_,.int dg num] 106)) Wl.title (by decide)).alloc (ey #[.int dg size,.int dg ring,.int dg at_,.int dg num] 33);rw[aS] at this;rw[b];exact this)
 have z:=aa (show aU V (w.heap.size+1+1) 33 ([size,ring,at_,num].map fun (n:Nat)=>Value.int dg (n:Int)) by
  have:=aU.new ((w.alloc (ey #[.int cu at_,.int dg num] 106)).alloc (ey #[.int gx 99,.int gx 111,.int gx 111,.int gx 112,.int gx 101,.int gx 114,.int gx 97,.int gx 103,.int gx 101,.int gx 32,.int gx 108,.int gx 111,.int gx 103,.int gx 10] 5 (14,15))) #[.int dg size,.int dg ring,.int dg at_,.int dg num] 33;rw[aS,aS] at this;rw[b];exact this)
 have A:=aa (show ∀n∈[size,ring,at_,num],n<2^64 by
  intro n hn;obtain⟨j,l,h3,h4⟩:=t.o;simp only[aX,List.not_mem_nil,or_false] at hn;rcases hn with rfl|rfl|rfl|rfl<;>omega)
 have B:=aa (show V.heap.size=w.heap.size+3 by rw[b];simp);clear b kc
 go_loopw [7,23] (fun u i wr=>∃k:Nat,k<=4/\i=.int cu k/\Hid (fk false 0 wr u (Wl.title++([size,ring,at_,num].take k).flatMap (Wl.enc 8)))/\Hid (∀x,u.ownBlock=aD x->w.heap.size<=x)/\Hid (Below w.heap.size w wr)/\Hid (aU wr (w.heap.size+1+1) 33 ([size,ring,at_,num].map fun (n:Nat)=>Value.int dg (n:Int)))/\Hid (w.heap.size+3<=wr.heap.size)) (fun _ i _=>4-(RowKit.intOf i).toNat)
 case atStart=>exact⟨0,by decide,rfl,aa (by rw[List.take_zero,List.flatMap_nil,bA];exact y.o),aa (fun x g=>by simp[Value.ownBlock] at g;omega),v,z,aa (by have:=B.o;omega)⟩
 case round=>
  obtain⟨k,G,rfl,m,g,s,p,d⟩:=hrel;by_cases H:k<4
  ·have J:(k:Int)<4:=(by omega);have hcell:wr.cell? ⟨w.heap.size+1+1,k,av⟩=aD (.int dg (([size,ring,at_,num]:List Nat)[k]:Int)):=p.o.cell (by rw[cD,aK H];rfl);have q:=aa (A.o _ (bI H));have C:=aa (Iu [size,ring,at_,num] k H);have X:=aa (K5 (([size,ring,at_,num]:List Nat).take k));generalize ([size,ring,at_,num]:List Nat)[k]=n at*;go_wp2_with fail;refine (sC false 0 wr _ _ n 8 m.o (aB _) (by rw[au,X.o,aO];have:Wl.title.length=14:=rfl;omega) q.o (by decide)).mono ?_;rintro e w1 ⟨v1,rfl,R,O,U⟩
   have f:=aa (show fk false 0 w1 v1 (Wl.title++([size,ring,at_,num].take (k+1)).flatMap (Wl.enc 8))/\(∀x,v1.ownBlock=aD x->w.heap.size<=x)/\Below w.heap.size w w1/\aU w1 (w.heap.size+1+1) 33 ([size,ring,at_,num].map fun (n:Nat)=>Value.int dg (n:Int))/\w.heap.size+3<=w1.heap.size from⟨by rw[C.o,<-aF];exact R,fun x a=>by
     rcases U with h|h;·rw[h] at a;exact g.o x a
     ·have:=h x a;have:=d.o;omega,aG.K4 s.o O g.o,p.o.but O (fun e=>by
      obtain⟨cur,K,c⟩:=m.o.typed e;have:=p.o;unfold aU at this;rw[this] at c;injection c with c;injection c with _ c;cases c),aH d.o O.size⟩)
   clear R O U hcell;go_wp2;go_roundw
   case rel=>exact⟨k+1,by omega,by go_num,aa f.o.1,aa f.o.2.1,aa f.o.2.2.1,aa f.o.2.2.2.1,aa f.o.2.2.2.2⟩
   case measure=>simp[RowKit.intOf];omega
  ·have D:k=4:=(by omega);subst D;have r:=m.o.back;rw[En] at r;go_wp2;go_ret;exact⟨rfl,s.o⟩
theorem yP (w:World) (F:Nat->Prop) (b g:Nat) (s:Wl.Lg) (hl:Log w F b g s):
  Calls Tryz.prog 218 #[ptr b] w fun e w'=>e=eb (eX s.off)/\w'=w:=by
 obtain⟨mb,FD,h⟩:=hl;have c0:=h.c0;have c7:=h.c7;have H:=aa h.sec;clear h;unfold Wl.Lg.off;cases hd:s.down;·rw[hd] at c7;go_enter Tryz.func218,Tryz.ntmps218;unfold ptr;go_wp2_with fail;refine (eY _ _ _ _ H.o).mono ?_;rintro e w1 ⟨rfl,rfl⟩;go_wp2;go_ret;exact⟨rfl,rfl⟩
 ·rw[hd] at c7;go_enter Tryz.func218,Tryz.ntmps218;unfold ptr;go_wp2;go_ret;exact⟨rfl,rfl⟩
theorem o7 (w:World) (F:Nat->Prop) (b g:Nat) (s:Wl.Lg) (hl:Log w F b g s):
  Calls Tryz.prog 200 #[ptr b] w fun e w'=>e=eb (bf cu s.homes)/\w'=w:=by
 obtain⟨mb,FD,h⟩:=hl;have c2:=h.c2;clear h;go_enter Tryz.func200,Tryz.ntmps200;unfold ptr;go_wp2;go_ret;exact⟨rfl,rfl⟩
def Wl.Lg.has (s:Wl.Lg) (i:Int):Bool:=decide (0<=i)&&decide (i<s.homes)
theorem K6 (w:World) (F:Nat->Prop) (b g:Nat) (s:Wl.Lg) (i:Int) (hl:Log w F b g s):
  Calls Tryz.prog 219 #[ptr b,bf cu i] w fun e w'=>e=eb (eX (s.has i))/\w'=w:=by
 obtain⟨mb,FD,h⟩:=hl;have c2:=h.c2;clear h;unfold Wl.Lg.has;by_cases hi:0<=i;·go_enter Tryz.func219,Tryz.ntmps219;unfold ptr;go_wp2;go_ret;refine⟨iZ ?_,rfl⟩;simp[hi]
 ·go_enter Tryz.func219,Tryz.ntmps219;unfold ptr;go_wp2;go_ret;refine⟨iZ ?_,rfl⟩;simp only[Bool.false_eq,Bool.and_eq_false_iff,decide_eq_false_iff_not];omega
theorem Ad (w:World) (F:Nat->Prop) (b g:Nat) (s:Wl.Lg) (i:Nat) (hl:Log w F b g s) (hr:s.ring<=4096) (hi:i<=1000000):
  Calls Tryz.prog 220 #[ptr b,bf cu i] w fun e w'=>e=eb (bf cu ((1+s.ring+i:Nat):Int))/\w'=w:=by
 obtain⟨mb,FD,h⟩:=hl;have c1:=h.c1;clear h;have H:(s.ring:Int)<=4096:=by omega
 have a:(i:Int)<=1000000:=by omega
 go_enter Tryz.func220,Tryz.ntmps220;unfold ptr;go_wp2;go_ret;exact⟨Kt (by omega),rfl⟩
end
section
open Go.RowKit Go.Shelf Lib
attribute [local go_sem] Oper.semAt_some
def K7 (l:List UInt8) (pre:List Nat):List (List UInt8):=pre.map fun k=>112::((l.drop (511*k)).take 511)
def LI (w:World) (p:Nat) (g:Wl.eV) (d D:Nat) (cur:Array Value) (pre:List Nat) (W:World):Prop:=
 ((∃v,Boxed W p 64 v/\W.ownsRow p 9 1 v pre.length ((K7 (Wl.pack g) pre).map fun t=>Value.string (bs t))/\True)/\
  (Boxed W (p+1) 94 (cx (aD ⟨d,0,av⟩) (Wl.pack g).length D)/\Boxed W (p+1+1) 3 (bf cu 511)/\W.heap[d]?=aD (ey cur 5 (0,0))))/\Below w.heap.size w W
end
section
open Go.RowKit Lib
theorem Wl.Lg.yQ (s:Wl.Lg):s.with (s.down,s.d)=s:=by cases s;rfl
theorem Eo (w:World) (F:Nat->Prop) (b g:Nat) (s:Wl.Lg) (i:Nat) (t:ByteArray) (hl:Log w F b g s) (hn:s.d.loose.length<=900000000):
  Calls Tryz.prog 62 #[ptr b,bf cu i,bR t] w fun e w'=>e=eb (gu #[])/\∃l,Log w' l b g (s.with (Wl.wr (s.down,s.d) (i,t.data.toList)))/\bY F w l w':=by
 obtain⟨mb,FD,h⟩:=hl;have c0:=h.c0;have c7:=h.c7;have k:=aa h;clear h;by_cases hd:s.down=true
 ·have H:s.with (Wl.wr (s.down,s.d) (i,t.data.toList))=s:=by rw[hd,Wl.Om,<-hd,Wl.Lg.yQ]
  rw[H];clear H;rw[hd] at c7;clear hd;go_enter Tryz.func62,Tryz.ntmps62;unfold ptr;go_wp2;refine bodyPost_end (results_none rfl _ _ _) rfl ?_;exact⟨rfl,F,k.o.log,bY.refl _ _⟩
 ·have O:s.down=false:=by simpa using hd
  have H:s.with (Wl.wr (s.down,s.d) (i,t.data.toList))={s with down:=decide ((s.d.write i t.data.toList).1≠0),d:=(s.d.write i t.data.toList).2}:=by unfold Wl.wr Wl.Lg.with;rw[O];rfl
  rw[H];rw[O] at c7;have m:=aa (aa O);clear H hd O;go_enter Tryz.func62,Tryz.ntmps62;unfold ptr;go_wp2_with fail;refine (Hv w FD g s.d i t k.o.sec hn).mono ?_;rintro e w1 ⟨rfl,Kc,a,f⟩;obtain⟨hp,n⟩:=k.o.turned a f;have K:=hp.c7;have y:=hp.blk.frozen 7;have E:({s with d:=(s.d.write i t.data.toList).2}:Wl.Lg).down=false:=m.o.o;rw[E] at K;have j:=aa (And.intro hp n);clear a f hp n E;generalize p:s.d.write i t.data.toList=q at*;obtain⟨c,d'⟩:=q;simp only at j |-;have r:=aa p;clear p c0 c7;by_cases hc:c=0;·subst hc;go_wp2;refine bodyPost_end (results_none rfl _ _ _) rfl ?_;refine⟨rfl,_, ?_,j.o.2⟩;rw[r.o];have e:({s with down:=decide ((0:Int)≠0),d:=d'}:Wl.Lg)={s with d:=d'}:=(by have:=m.o.o;cases s;simp only at this;subst this;rfl);rw[e];exact j.o.1.log
  ·have u:(c !=0)=true:=(by rw[bne_iff_ne];exact hc);have v:(c==0)=false:=beq_eq_false_iff_ne.2 hc;have x:=aa hc;clear hc;go_wp2;refine bodyPost_end (results_none rfl _ _ _) rfl ?_;rw[r.o];have hs:=j.o.1.set 7 (eX true) {s with down:=decide (c≠0),d:=d'} (by rw[decide_eq_true x.o];rfl) rfl rfl;exact⟨rfl,_,hs.1.log,j.o.2.trans hs.2⟩
theorem Ep (w:World) (F:Nat->Prop) (b g:Nat) (s:Wl.Lg) (hl:Log w F b g s):
  Calls Tryz.prog 44 #[ptr b] w fun e w'=>e=eb (gu #[])/\∃k,Log w' k b g (s.with (Wl.fl (s.down,s.d)))/\bY F w k w':=by
 obtain⟨mb,FD,h⟩:=hl;have c0:=h.c0;have c7:=h.c7;have j:=aa h;clear h;by_cases hd:s.down=true
 ·have H:s.with (Wl.fl (s.down,s.d))=s:=by rw[hd,Wl.On,<-hd,Wl.Lg.yQ]
  rw[H];clear H;rw[hd] at c7;clear hd;go_enter Tryz.func44,Tryz.ntmps44;unfold ptr;go_wp2;refine bodyPost_end (results_none rfl _ _ _) rfl ?_;exact⟨rfl,F,j.o.log,bY.refl _ _⟩
 ·have O:s.down=false:=by simpa using hd
  have H:s.with (Wl.fl (s.down,s.d))={s with down:=decide (s.d.flush.1≠0),d:=s.d.flush.2}:=by unfold Wl.fl Wl.Lg.with;rw[O];rfl
  rw[H];rw[O] at c7;have l:=aa (aa O);clear H hd O;go_enter Tryz.func44,Tryz.ntmps44;unfold ptr;go_wp2_with fail;refine (Hx w FD g s.d j.o.sec).mono ?_;rintro e w1 ⟨rfl,a,f⟩;obtain⟨hp,m⟩:=j.o.turned a f;have K:=hp.c7;have v:=hp.blk.frozen 7;have E:({s with d:=s.d.flush.2}:Wl.Lg).down=false:=l.o.o;rw[E] at K;have i:=aa (And.intro hp m);clear a f hp m E;generalize n:s.d.flush=q at*;obtain⟨c,d'⟩:=q;simp only at i |-;have p:=aa n;clear n c0 c7;by_cases hc:c=0;·subst hc;go_wp2;refine bodyPost_end (results_none rfl _ _ _) rfl ?_;refine⟨rfl,_, ?_,i.o.2⟩;rw[p.o];have e:({s with down:=decide ((0:Int)≠0),d:=d'}:Wl.Lg)={s with d:=d'}:=(by have:=l.o.o;cases s;simp only at this;subst this;rfl);rw[e];exact i.o.1.log
  ·have r:(c !=0)=true:=(by rw[bne_iff_ne];exact hc);have t:(c==0)=false:=beq_eq_false_iff_ne.2 hc;have u:=aa hc;clear hc;go_wp2;refine bodyPost_end (results_none rfl _ _ _) rfl ?_;rw[p.o];have hs:=i.o.1.set 7 (eX true) {s with down:=decide (c≠0),d:=d'} (by rw[decide_eq_true u.o];rfl) rfl rfl;exact⟨rfl,_,hs.1.log,i.o.2.trans hs.2⟩
theorem K8 (w:World) (F:Nat->Prop) (b g:Nat) (s:Wl.Lg) (i:Int) (hl:Log w F b g s):
  Calls Tryz.prog 61 #[ptr b,bf cu i] w fun e w'=>e=eb (bR (bs (s.d.read i).1))/\w'=w:=by
 obtain⟨mb,FD,h⟩:=hl;have c0:=h.c0;have H:=aa h.sec;clear h;go_enter Tryz.func61,Tryz.ntmps61;unfold ptr;go_wp2_with fail;refine (BA w FD g s.d i H.o).mono ?_;rintro e w1 ⟨rfl,rfl⟩;go_wp2;go_ret;exact⟨rfl,rfl⟩
theorem Dk.OL {d:Dk.cm} (H:d.off=false) {i:Nat} (h:i<d.fU.length):d.read i=(d.now.getD i [],0):=by unfold Dk.cm.read;rw[H,if_neg (by decide),if_pos (by simp[Dk.cm.has,h])];rfl
theorem Dk.Gr {d:Dk.cm} (H:d.off=false) {i:Nat} {t:List UInt8} (h:d.now[i]?=aD t):d.read i=(t,0):=by
 have hl:i<d.fU.length:=by have:=(List.getElem?_eq_some_iff.1 h).1;rw[Dk.cm.now,Dk.gY] at this;exact this
 rw[Dk.OL H hl,bZ,h];rfl
theorem Log.c3 {w:World} {F:Nat->Prop} {b g:Nat} {s:Wl.Lg} (h:Log w F b g s):w.cell? ⟨b,3,av⟩=aD (bf cu s.place):=by obtain⟨_,_,h⟩:=h;exact h.c3
theorem Log.c4 {w:World} {F:Nat->Prop} {b g:Nat} {s:Wl.Lg} (h:Log w F b g s):w.cell? ⟨b,4,av⟩=aD (bf dg s.num):=by obtain⟨_,_,h⟩:=h;exact h.c4
theorem Log.c7 {w:World} {F:Nat->Prop} {b g:Nat} {s:Wl.Lg} (h:Log w F b g s):w.cell? ⟨b,7,av⟩=aD (eX s.down):=by obtain⟨_,_,h⟩:=h;exact h.c7
theorem nI {B:Nat} {w:World} {v:Value} {l:List UInt8} {ops:Array Oper} {rest:List Oper} {o:Oper} {a:Act} {Q:Exit->Act->World->Prop} (H:o.guard=av) (s x:Operand)
  (e:o.op=.call {callee:=.builtin .append,args:=#[s,x],argTypes:=#[94,9]})
  (hs:a.eval s=v) (hown:gI B w v l) (f:B<=w.heap.size) (t:ByteArray) (g:a.eval x=.string t) (d:l.length+t.size<=900000000)
  (h:∀v' w',gI B w' v' (l++t.data.toList)->w.grownBy w' v.ownBlock->wpList Tryz.prog ops Q rest (a.put o.dst v') w'):wpList Tryz.prog ops Q (o::rest) a w:=by
 obtain⟨i,hi,j,b,c⟩:=kY (P:=Tryz.prog) (E:=5) (size:=1) (bytes:=1) (z:=.int gx 0) (by kernel_rfl);refine wpList_append_own_string w H s x 94 9 e B 5 i Tryz.underlying94 Tryz.underlying9 hi j b c v l.length (ec.cells l) hs hown t g (by unfold maxLen;omega) (by omega) f ?_;intro v' w' k m _;refine h v' w' ?_ m;unfold gI Own;rw[ec.b9,au,show ec.cells t.data.toList=strCells t from cV _ _ _,bk];exact k
theorem K9 (W:World) (g o c:Nat) (l:List UInt8) (hc:∀x (H:x<l.length),W.cell? ⟨g,o+x,av⟩=aD (bV l[x])):
  (convert 94 9 (cx (aD ⟨g,o,av⟩) l.length c)).run Tryz.prog W=.ok (bR (bs l)) W:=
 run_convert_bytes_back (P:=Tryz.prog) W 94 9 5 ⟨g,o,av⟩ c l (by kernel_rfl) (by kernel_rfl) (by kernel_rfl) (by
  intro j h;rw[show (⟨g,o,av⟩:Addr).add j=⟨g,o+j,av⟩ by unfold Addr.add;split<;>simp_all];exact hc j h)
def ed (i:It):List UInt8:=iC i.key i.val
def cJ (level:Nat) (l:List It):List UInt8:=bz (192+level)::bz l.length::l.flatMap ed
theorem gK:∀l:List It,(l.flatMap ed).length=cz l
 |[]=>rfl
 |i::l=>by rw[List.flatMap_cons,au,gK l];show (iC i.key i.val).length+_=jw i+_;rw[gT];rfl
theorem lM (level:Nat) (l:List It):(cJ level l).length=2+cz l:=by show (l.flatMap ed).length+1+1=_;rw[gK];omega
section
variable {w w':World} {p q:Nat} {n m:NV}
theorem x9 (h:Nd w p n) (p_:n.level<=15) (H:n.its.length<=255) (BQ:∀i∈n.its,i.key.length<=96/\i.val.length<=56):
  Calls Tryz.prog 182 #[ptr p] w fun e w'=>e=eb (bR (bs (cJ n.level n.its)))/\Below w.heap.size w w':=by
 have c0:=h.c0;have c1:=h.c1;have dV:=h.blk.lt;have jD:(n.its.length:Int)<=255:=by omega
 have OH:(n.level:Int)<=15:=by omega
 have hw1:IntKind.u8.wrap (n.level:Int)=n.level:=by have e:(n.level:Int)%2^8=n.level:=Int.emod_eq_of_lt (by omega) (by omega);simp only[IntKind.wrap,IntKind.bits,IntKind.signed,e];simp
 have jN:IntKind.u8.wrap (192+(n.level:Int))=192+n.level:=by have e:(192+(n.level:Int))%2^8=192+n.level:=Int.emod_eq_of_lt (by omega) (by omega);simp only[IntKind.wrap,IntKind.bits,IntKind.signed,e];simp
 have jL:IntKind.u8.wrap (n.its.length:Int)=n.its.length:=by have e:(n.its.length:Int)%2^8=n.its.length:=Int.emod_eq_of_lt (by omega) (by omega);simp only[IntKind.wrap,IntKind.bits,IntKind.signed,e];simp
 have HN:=aa h;have HS:=aa BQ;have qa:=aa H;have HV:=aa p_;obtain⟨L,M⟩:∃L,L=n.its.length:=⟨_,rfl⟩;rw[<-M] at c1 jD jL;have D:=aa M;clear h BQ H p_ M;go_enter Tryz.func182,Tryz.ntmps182;unfold ptr;go_wp2_with fail
 go_region
 obtain⟨W,E⟩:∃W,W=(w.alloc (ey #[bf gx (192+(n.level:Int)),bf gx (L:Int)] 5)).drew:=⟨_,rfl⟩;have a:Below w.heap.size w W:=by rw[E];exact ((Below.refl _ w).alloc (ah _) _).drew
 have QF:(2:Nat)<=maxLen:=by decide
 have P:=aa (show gI w.heap.size W (cx (aD ⟨w.heap.size,0,av⟩) 2 2) [bz (192+n.level),bz L]/\Below w.heap.size w W by
  refine⟨?_,a⟩;refine⟨rfl,dn ⟨w.heap.size,2,#[bf gx (192+(n.level:Int)),bf gx (L:Int)],rfl,ah _,by rw[E];exact heap_alloc_new w _,ah _,QF,rfl, ?_⟩⟩;show [Value.int gx (192+(n.level:Int)),bf gx (L:Int)]=[bV _,bV _];unfold bV;rw[eF,eF,lH (by have:=HV.o;omega),lH (by have:=qa.o;have:=D.o;omega)];simp)
 have d0:=(a.cell (p:=⟨p,0,av⟩) dV).trans c0;have d1:=(a.cell (p:=⟨p,1,av⟩) dV).trans c1;rw[<-E];obtain⟨U,Q⟩:∃U,U=w.heap.size:=⟨_,rfl⟩;rw[<-Q] at P |-;have l:=aa Q;clear E a c0 c1 Q QF;go_wp2
 go_loopw [3,24] (fun u S wr=>∃j:Nat,j<=L/\S=bf cu j/\Hid (gI U wr u (bz (192+n.level)::bz L::(n.its.take j).flatMap ed))/\Hid (Below U w wr)) (fun _ S _=>L-(RowKit.intOf S).toNat)
 case atStart=>exact⟨0,aB _,rfl,aa P.o.1,aa P.o.2⟩
 case round=>
  obtain⟨j,hj,rfl,r,s⟩:=hrel;by_cases b:j<L
  ·have lJ:(j:Int)<L:=(by omega);have c:j<n.its.length:=(by rw[<-D.o];exact b);obtain⟨a0,a1,a2⟩:=bh (ez HN.o.row (by rw[<-l.o];exact s.o)) j c;have he:=HS.o _ (bI c);have I:=aa (show j<L/\(n.its.take (j+1)).flatMap ed=(n.its.take j).flatMap ed++ed n.its[j]/\((n.its.take j).flatMap ed).length<=160800 from⟨b,by rw[cC c,List.flatMap_append];simp,by rw[gK];exact HN.o.small.part j⟩);generalize n.its[j]=it at*;clear b hj c;obtain⟨G,J,t,y,z,T⟩:=Own.form r.o (by simp);obtain⟨N,m⟩:∃N,N=(bz (192+n.level)::bz L::(n.its.take j).flatMap ed).length:=⟨_,rfl⟩;rw[<-m] at t;have HNN:=aa m;clear m;subst t;obtain⟨W1,d⟩:∃W1,W1=(wr.alloc (ey #[bR (bs it.key),bR (bs it.val),e7 (pa it.node)] 122)).alloc (ey #[bf gx (((bs it.key).size:Int)%256),bf gx (((bs it.val).size:Int)%256)] 5):=⟨_,rfl⟩;obtain⟨g,hg⟩:∃g,g=wr.heap.size:=⟨_,rfl⟩;have q:aU W1 g 122 [bR (bs it.key),bR (bs it.val),e7 (pa it.node)]:=(by rw[d,hg];exact (aU.new wr _ _).alloc _);have k1:W1.cell? ⟨g,0,av⟩=aD (bR (bs it.key)):=(by rw[d,hg];exact ((aU.new wr _ _).alloc _).cell rfl);have k2:W1.cell? ⟨g,1,av⟩=aD (bR (bs it.val)):=(by rw[d,hg];exact ((aU.new wr _ _).alloc _).cell rfl);have yO:bu ec W1 (g+1) 0 [bz it.key.length,bz it.val.length]:=(by rw[d,hg];have:=aU.new (wr.alloc (ey #[bR (bs it.key),bR (bs it.val),e7 (pa it.node)] 122)) #[bf gx (((bs it.key).size:Int)%256),bf gx (((bs it.val).size:Int)%256)] 5;rw[aS] at this;refine bu.fN this ?_;show [_,_]=[bV _,bV _];unfold bV;rw[eF,eF,aP,aP];simp);have A:W1.heap.size=g+2:=by rw[d,hg];simp[aS]
   have v:=aa (show gI U W1 (cx (aD ⟨G,0,av⟩) N J) (bz (192+n.level)::bz L::(n.its.take j).flatMap ed)/\Below U w W1/\bu ec W1 (g+1) 0 [bz it.key.length,bz it.val.length]/\G<g/\W1.heap.size=g+2/\U<=g from⟨by rw[d];exact (r.o.alloc _).alloc _,by
    rw[d];have:=s.o.size;have h0:=(l.o▸s.o.size:U<=wr.heap.size);exact (s.o.alloc h0 _).alloc (by simp only[aS];omega) _,yO,by rw[hg];exact z,A,by rw[hg];exact l.o▸s.o.size⟩)
   have vK:=aa (And.intro d hg);have kO:=aa q;have lK:(bs it.key).size<=96/\(bs it.val).size<=56:=(by rw[aP,aP];exact he);have HE:=aa lK;clear d hg yO A he lK q;go_wp2_with (at_builtin;refine Hid.o ?_);refine aa ?_;rw[<-vK.o.2,<-vK.o.1];clear a0 a1 a2;have H:(bz (192+n.level)::bz L::(n.its.take j).flatMap ed).length<=200000:=(by have:=I.o.2.2;simp only[a_];omega);refine mR (K:=ec) KM rfl _ _ rfl rfl v.o.1 (by have:=v.o.2.2.2.2;omega) (g+1) 0 2 2 [bz it.key.length,bz it.val.length] rfl rfl v.o.2.2.1 (by omega) ?_;intro v2 B F fR;have V:W1.grownBy B (aD G):=fR;have aV:aG (fun k=>k=G) W1 B:=(aG.refl _ W1).grown V fun k e _=>(Option.some.inj e).symm;have O:=aa (kO.o.but aV (by have:=v.o;omega));have X:=aa (v.o.2.1.grown V (by have:=v.o;omega) fun k e=>by cases e;exact y);obtain⟨l2,f⟩:∃l2,l2=(bz (192+n.level)::bz L::(n.its.take j).flatMap ed)++[bz it.key.length,bz it.val.length]:=⟨_,rfl⟩;rw[<-f] at F;have BZ:=aa f;have K_:l2.length<=200002:=(by rw[f,au];simp only[a_,ef] at H |-;omega);have lN:=Own.dG F O.o (by decide);have kZ:=Own.block F;have k3:=O.o.cell (j:=0) rfl;have k4:=O.o.cell (j:=1) rfl;have Y:=aa (And.intro F (And.intro lN kZ));clear f F lN kZ fR V aV k1 k2;go_wp2_with (at_builtin;refine Hid.o ?_);refine aa ?_;refine nI rfl _ _ rfl rfl Y.o.1 (by have:=X.o.size;have:=l.o;omega) (bs it.key) rfl (by have:=HE.o;omega) ?_;intro v3 w3 C yR;have Z:B.grownBy w3 v2.ownBlock:=yR;have bN:aG (fun k=>v2.ownBlock=aD k) B w3:=(aG.refl _ B).grown Z fun k e _=>e;have RO:=aa (O.o.but bN (fun e=>Y.o.2.1 e));have q7:=aa (X.o.grown Z (by have:=X.o.size;have:=l.o;omega) fun k e=>(Y.o.2.2 k e).1);rw[bS] at C;have UB:=Own.dG C RO.o (by decide);have OO:=Own.block C;have k5:=RO.o.cell (j:=0) rfl;have k6:=RO.o.cell (j:=1) rfl;have H3:=aa (And.intro C (And.intro UB OO));clear C UB OO yR Z bN k3 k4;go_wp2_with (at_builtin;refine Hid.o ?_);refine aa ?_;refine nI rfl _ _ rfl rfl H3.o.1 (by have:=q7.o.size;have:=l.o;omega) (bs it.val) rfl (by rw[au];have:=HE.o;rw[aP,aP] at this;rw[aP];omega) ?_;intro v4 w4 xO kJ;have UC:w3.grownBy w4 v3.ownBlock:=kJ;have uw:=aa (q7.o.grown UC (by have:=q7.o.size;have:=l.o;omega) fun k e=>(H3.o.2.2 k e).1);rw[bS] at xO
   have H4:=aa (show gI U w4 v4 (bz (192+n.level)::bz L::(n.its.take (j+1)).flatMap ed) by
    rw[I.o.2.1];have:=xO;rw[BZ.o] at this;simpa[ed,iC] using this)
   clear xO kJ UC k5 k6;go_wp2;go_roundw
   case rel=>exact⟨j+1,I.o.1,by go_num,H4,uw⟩
   case measure=>have:=I.o.1;simp[RowKit.intOf];omega
  ·have lJ:¬(j:Int)<L:=(by omega);obtain⟨G,J,t,y,z,T⟩:=Own.form r.o (by simp);have UD:(bz (192+n.level)::bz L::(n.its.take j).flatMap ed)=cJ n.level n.its:=(by rw[cg (by rw[<-D.o];omega),D.o];rfl);rw[UD] at r t;obtain⟨N,m⟩:∃N,N=(cJ n.level n.its).length:=⟨_,rfl⟩;rw[<-m] at t;subst t;have QG:(convert 94 9 (cx (aD ⟨G,0,av⟩) N J)).run Tryz.prog wr=.ok (bR (bs (cJ n.level n.its))) wr:=(by rw[m];refine K9 wr G 0 J _ fun x hx=> ?_;rw[m] at r;have:=Own.lies r.o x (bV (cJ n.level n.its)[x]) (by rw[show ec.cells (cJ n.level n.its)=(cJ n.level n.its).map bV from cV _ _ _,cD,aK hx];rfl);exact this);obtain⟨R,hR⟩:∃R,R=bs (cJ n.level n.its):=⟨_,rfl⟩;rw[<-hR] at QG;have HR:=aa hR;clear b hj UD m hR;go_wp2;go_ret;exact⟨by rw[<-HR.o];rfl,l.o▸s.o⟩
end
section
variable {w w':World} {p q:Nat} {n m:NV}
abbrev aY (B:Nat) (w:World) (v:Value) (l:List It):Prop:=Own ak 122 B w v l
def NV.read (level:Nat) (its:List It) (rg cap:Nat):NV:=⟨level,its,rg,0,cap,0,[],[],0,0,false,true⟩
theorem Er (w:World) (s:ByteArray) (level:Nat) (its:List It) (rest:List UInt8) (hs:s.data.toList=cJ level its++rest) (hr:Wl.blank rest=true) (l:s.size<=100000)
  (hS:∀rg cap,Sound (NV.read level its rg cap)) (hl:its.length<=255) (hn:∀i∈its,i.node=av):
  Calls Tryz.prog 167 #[bR s] w fun e w'=>∃p rg cap,e=eb (gu #[ptr p,eX true])/\w.heap.size<=p/\Nd w' p (NV.read level its rg cap)/\aY w.heap.size w' (cx (aD ⟨rg,0,av⟩) its.length cap) its/\Below w.heap.size w w':=by
 have Z:s.size=2+cz its+rest.length:=by have:s.data.toList.length=s.size:=bk;rw[<-this,hs,au,lM]
 have h0:0<s.size:=by omega
 have h1:1<s.size:=by omega
 have p_:=(hS 0 0).level;have aaJ:level<=15:=p_;have e0:((s[0].toNat:Nat):Int)=192+level:=by rw[<-lp s 0 h0,hs];show (((bz (192+level)).toNat:Nat):Int)=_;rw[eF,lH (by simp;omega)];omega
 have e1:((s[1].toNat:Nat):Int)=its.length:=by rw[<-lp s 1 h1,hs];show (((bz its.length).toNat:Nat):Int)=_;rw[eF,lH (by simp;omega)]
 have e2:(s.extract 2 s.size).data.toList=its.flatMap ed++rest:=by rw[l8,hs];rfl
 obtain⟨I,UE⟩:∃I,s.extract 2 s.size=I:=⟨_,rfl⟩;rw[UE] at e2;have hw1:IntKind.i64.wrap ((192:Int)+level)=192+level:=by
  have:=cX (192+level) (by omega)
  rwa [show ((192+level:Nat):Int)=192+(level:Int) by omega] at this
 have jN:IntKind.i64.wrap (its.length:Int)=its.length:=cX _ (by omega);have h2s:(2:Int)<=s.size:=by omega
 have h3:(192:Int)+level-192=level:=by omega
 obtain⟨L,hL⟩:∃L,L=its.length:=⟨_,rfl⟩;rw[<-hL] at e1 jN hl |-;have jD:(L:Int)<=255:=by omega
 have H:=aa (And.intro hL (And.intro e2 (And.intro hr (And.intro hS hn))))
 have Kh:=aa (show I.size<=100000 by
  rw[<-UE,ByteArray.size_extract];omega)
 clear hs hS hr hn hL e2 Z p_ hl l;go_enter Tryz.func167,Tryz.ntmps167;go_wp2_with fail
 go_region
 obtain⟨W,hW⟩:∃W,W=(w.alloc (ey #[bf cu (level:Int),cx av 0 0,bf cu 0,bR ⟨#[]⟩,bR ⟨#[]⟩,bf cu 0,bf cu 0,eX false] 127)).drew:=⟨_,rfl⟩;obtain⟨p,hp⟩:∃p,p=w.heap.size:=⟨_,rfl⟩
 have HW:=aa (show aU W p 127 [bf cu (level:Int),cx av 0 0,bf cu 0,bR ⟨#[]⟩,bR ⟨#[]⟩,bf cu 0,bf cu 0,eX false]/\Below p w W/\W.heap.size=p+1 by
  rw[hW,hp];exact⟨aU.new w _ _,((Below.refl _ w).alloc (ah _) _).drew,by simp[aS]⟩)
 have M:=aa hp;rw[<-hW,<-hp];clear hW hp;have aaV:=jN;go_wp2
 go_loopw [5,19] (fun sv iv wr=>∃j:Nat,j<=L/\iv=bf cu j/\∃t:ByteArray,sv=bR t/\Hid (t.data.toList=(its.drop j).flatMap ed++rest/\t.size<=100000)/\∃v,Hid (aU wr p 127 [bf cu (level:Int),v,bf cu 0,bR ⟨#[]⟩,bR ⟨#[]⟩,bf cu 0,bf cu 0,eX false])/\Hid (aY p wr v (its.take j))/\Hid (Below p w wr)) (fun _ iv _=>L-(RowKit.intOf iv).toNat)
 case atStart=>exact⟨0,aB _,rfl,I,rfl,aa ⟨H.o.2.1,Kh.o⟩,_,aa HW.o.1,aa (Own.nil _ _ _ _),aa HW.o.2.1⟩
 case round=>
  obtain⟨j,hj,rfl,t,rfl,n,v,P,hO,hB⟩:=hrel;by_cases b:j<L
  ·have lJ:(j:Int)<L:=(by omega);have a:j<its.length:=(by rw[<-H.o.1];exact b);have U:t.data.toList=iC its[j].key its[j].val++((its.drop (j+1)).flatMap ed++rest):=(by rw[n.o.1,cw a,List.flatMap_cons,aF];rfl);have he:=(H.o.2.2.2.1 0 0).each its[j] (bI a);have QH:=H.o.2.2.2.2 its[j] (bI a);have Q:=aa (El wr t _ _ _ U (by omega) (by omega) (by have:=n.o.2;omega));have q:=aa (show j<L/\its.take (j+1)=its.take j++[its[j]]/\its[j].node=av/\t.data.toList=iC its[j].key its[j].val++((its.drop (j+1)).flatMap ed++rest)/\its[j].key.length<=96/\its[j].val.length<=56 from⟨b,cC a,QH,U,he.1,he.2.1⟩);generalize its[j]=it at*;have r:t.size=2+it.key.length+it.val.length+((its.drop (j+1)).flatMap ed++rest).length:=(by have:t.data.toList.length=t.size:=bk;rw[<-this,U,au,gT]);obtain⟨z,l⟩:∃z,z=2+it.key.length+it.val.length:=⟨_,rfl⟩;rw[<-l] at Q r;have hzI:¬(t.size:Int)<z:=(by omega);have aaW:(z:Int)<=t.size:=(by omega);have HZ:=aa l;have UG:=aa (l8 t z);obtain⟨T,x⟩:∃T,t.extract z t.size=T:=⟨_,rfl⟩;rw[x] at UG
   have Gs:=aa (show T.data.toList=(its.drop (j+1)).flatMap ed++rest/\T.size<=100000 by
    refine⟨?_, ?_⟩;·rw[UG.o,U];rw[show z=(iC it.key it.val).length by rw[gT,l],List.drop_left]
    ·rw[<-x,ByteArray.size_extract];have:=n.o.2;omega)
   clear b hj a U he QH r l;go_wp2_with fail;refine Q.o.mono ?_;rintro e w1 ⟨rfl,B⟩;have dV:=P.o.lt;have UH:=aa (P.o.below B dV);have hO1:=aa (Own.below hO.o B (ah _));have Ke:=aa (hB.o.trans (B.mono (by omega)));clear B;go_wp2_with fail;obtain⟨W2,S⟩:∃W2,W2=w1.alloc (ey #[bR (bs it.key),bR (bs it.val)] 89):=⟨_,rfl⟩;obtain⟨g,hg⟩:∃g,g=w1.heap.size:=⟨_,rfl⟩;rw[<-S,<-hg];have V:aU W2 p 127 [bf cu (level:Int),v,bf cu 0,bR ⟨#[]⟩,bR ⟨#[]⟩,bf cu 0,bf cu 0,eX false]:=(by rw[S];exact UH.o.alloc _);have TC:aY p W2 v (its.take j):=(by rw[S];exact Own.alloc hO1.o _);have fR:aU W2 g 89 [bR (bs it.key),bR (bs it.val)]:=(by rw[S,hg];exact aU.new w1 _ _);have kZ:W2.heap.size=g+1:=(by rw[S,hg];simp[aS]);have q8:Below p w W2:=(by rw[S];have:=UH.o.lt;exact Ke.o.alloc (by omega) _);have c1:=V.cell (j:=1) rfl;have g0:=fR.cell (j:=0) rfl;have g1:=fR.cell (j:=1) rfl;have d:=aa (show aU W2 p 127 [bf cu (level:Int),v,bf cu 0,bR ⟨#[]⟩,bR ⟨#[]⟩,bf cu 0,bf cu 0,eX false]/\aY p W2 v (its.take j)/\Below p w W2/\p<W2.heap.size from⟨V,TC,q8,V.lt⟩);have Es:p<W2.heap.size:=d.o.2.2.2;clear S hg V TC fR kZ q8;refine wp_region_any (by kernel_rfl) ?_;try (change wpAny _ _ _ _ _ _ _ (bJ _))
   refine tk 0 ?_;refine tk 1 ?_;refine tk 2 ?_;refine tk 3 ?_;refine tk 9 ?_;refine tk 10 ?_;refine tk 11 ?_;try simp only[Act.put,aA,az,ay]
   refine rd [4,5] (AllReady.cons rfl (fun K h=> ?_) (rn fun K h=> ?_))
   focus
    go_simp
    refine h _ _ ?_;clear h K
    refine rd [5] (rn fun K h=> ?_)
    go_simp
    refine h _ _ ?_;clear h K
    refine rd [6] (rn fun K h=> ?_)
    go_simp
    refine h _ _ ?_;clear h K
    refine rd [7] (rn fun K h=> ?_)
    go_simp
    refine h _ _ ?_;clear h K
   rotate_left
   focus
    go_simp
    refine h _ _ ?_;clear h K
    refine rd [4,6] (AllReady.cons rfl (fun K h=> ?_) (rn fun K h=> ?_))
    focus
     go_simp
     refine h _ _ ?_;clear h K
     refine rd [6] (rn fun K h=> ?_)
     go_simp
     refine h _ _ ?_;clear h K
     refine rd [7] (rn fun K h=> ?_)
     go_simp
     refine h _ _ ?_;clear h K
    rotate_left
    focus
     go_simp
     refine h _ _ ?_;clear h K
     refine rd [4,7] (AllReady.cons rfl (fun K h=> ?_) (rn fun K h=> ?_))
     focus
      go_simp
      refine h _ _ ?_;clear h K
      refine rd [7] (rn fun K h=> ?_)
      go_simp
      refine h _ _ ?_;clear h K
     rotate_left
     focus
      go_simp
      refine h _ _ ?_;clear h K
      refine rd [4] (rn fun K h=> ?_)
      go_simp
      refine h _ _ ?_;clear h K
   all_goals
    try simp only[Act.put,aA,az,ay]
    have UI:aY p (W2.drew.alloc (ey #[bR (bs it.key),bR (bs it.val),e7 av] 122)) v (its.take j):=Own.alloc (show aY p W2.drew v (its.take j) from d.o.2.1) _
    have Bn:bu ak (W2.drew.alloc (ey #[bR (bs it.key),bR (bs it.val),e7 av] 122)) W2.drew.heap.size 0 [it]:=bu.fN (aU.new W2.drew _ _) (by show [_,_,_]=[Value.string (bs it.key),bR (bs it.val),e7 (pa it.node)];rw[q.o.2.2.1];rfl)
    have UJ:aU (W2.drew.alloc (ey #[bR (bs it.key),bR (bs it.val),e7 av] 122)) p 127 [bf cu (level:Int),v,bf cu 0,bR ⟨#[]⟩,bR ⟨#[]⟩,bf cu 0,bf cu 0,eX false]:=aU.alloc (show aU W2.drew p _ _ from d.o.1) _
    have Ae:Below p w (W2.drew.alloc (ey #[bR (bs it.key),bR (bs it.val),e7 av] 122)):=(d.o.2.2.1.drew).alloc (by show p<=W2.heap.size;omega) _
    have Lb:p<=(W2.drew.alloc (ey #[bR (bs it.key),bR (bs it.val),e7 av] 122)).heap.size:=by rw[aS];show p<=W2.heap.size+1;omega
    have c:=aa (And.intro UI (And.intro UJ (And.intro Ae (And.intro Bn Lb))))
    clear UI Bn UJ Ae Lb
    refine rd [8] (rn fun K h=> ?_)
    refine DZ (K:=ak) vD _ _ rfl rfl c.o.1 c.o.2.2.2.2 W2.drew.heap.size 0 1 1 [it] rfl rfl c.o.2.2.2.1 (by rw[aO];have:=H.o.1;have:=q.o.1;omega) ?_;intro v5 y J fT
    refine h _ _ ?_;clear h K
    have Iv:World.grownBy _ y v.ownBlock:=fT
    have Lc:=Own.dG c.o.1 c.o.2.1 (by decide)
    have A:=c.o.2.1.but ((aG.refl (fun k=>v.ownBlock=aD k) _).grown Iv fun k e _=>e) Lc
    have C:=c.o.2.2.1.grown Iv c.o.2.2.2.2 fun k e=>(Own.block c.o.1 k e).1
    obtain⟨D,O,yS,vL⟩:=Own.slice J
    rw[<-q.o.2.1] at J
    have QI:=Own.dG J A (by decide)
    generalize (its.take j++[it]).length=N at yS vL
    subst yS
    have c5:=A.cell (j:=1) rfl
    have f5:=A.frozen 1
    have X:=aa (And.intro J (And.intro A (And.intro C QI)))
    clear J A C fT Iv Lc QI
    try simp only[Act.put,aA]
    refine tk 12 ?_
    refine tk 13 ?_
    try simp only[Act.put]
    refine rd [14] (rn fun K h=> ?_)
    go_simp
    refine h _ _ ?_;clear h K
    refine tk 15 ?_
    refine wpAny_done (by kernel_rfl) ?_ _
    have H6:=aa (show aU (y.setCell ⟨p,1,av⟩ (cx D N O)) p 127 [bf cu (level:Int),cx D N O,bf cu 0,bR ⟨#[]⟩,bR ⟨#[]⟩,bf cu 0,bf cu 0,eX false]/\aY p (y.setCell ⟨p,1,av⟩ (cx D N O)) (cx D N O) (its.take (j+1))/\Below p w (y.setCell ⟨p,1,av⟩ (cx D N O)) from⟨X.o.2.1.set 1 _,Own.but X.o.1 ((aG.refl (fun k=>k=p) y).setCell _ _ fun _=>rfl) (fun k hk e=>X.o.2.2.2 (by rw[hk,e])),X.o.2.2.1.setCell (ah _) _⟩)
    go_wp2
    go_roundw
    case rel=>exact⟨j+1,q.o.1,by go_num,T,rfl,Gs,_,aa H6.o.1,aa H6.o.2.1,aa H6.o.2.2⟩
    case measure=>have:=q.o.1;simp[RowKit.intOf];omega
  ·have lJ:¬(j:Int)<L:=(by omega);obtain rfl:j=L:=by omega
   have E:its.take j=its:=cg (by rw[H.o.1];exact ah _);have R:=hO.o;rw[E] at R;have hpos:0<its.length:=eL.2 (H.o.2.2.2.1 0 0).ne;obtain⟨rg,cap,F,xP,hrs,f⟩:=Own.form R hpos;have G:cap<=maxLen:=(iB (F▸R)).2.2;have QJ:t.data.toList=rest:=by have:=n.o.1;rw[List.drop_eq_nil_of_le (by rw[H.o.1];exact ah _)] at this;exact this
   have Gt:=aa (show Nd wr p (NV.read level its rg cap) from⟨by
    have:=P.o;rw[F] at this;exact this,by
    rw[F] at R;exact Own.lies R,⟨by show its.length<=400;have:=H.o.1;omega,fun i hi=>by have:=(H.o.2.2.2.1 0 0).each i hi;omega,f,G⟩⟩)
   have HO:=aa (show aY p wr (cx (aD ⟨rg,0,av⟩) its.length cap) its by rw[<-F];exact R);have Q:=aa (Ab Gt.o (H.o.2.2.2.1 rg cap));have HR:=aa QJ;clear b hj E R F xP hrs f G QJ hpos;go_wp2_with fail;refine Q.o.mono ?_;rintro e w1 ⟨rfl,B⟩;have Y:=aa (show Nd w1 p (NV.read level its rg cap)/\aY p w1 (cx (aD ⟨rg,0,av⟩) its.length cap) its/\Below p w w1 from⟨Gt.o.still B,Own.below HO.o B (ah _),hB.o.trans (B.mono (by have:=P.o.lt;omega))⟩);clear B;go_wp2_with fail;refine (BX t w1 (by have:=n.o.2;omega)).mono ?_;rintro e w2 ⟨⟨u,rfl,hu⟩,m,rfl⟩;have hu2:u.toList=[]:=(by rw[ByteArray.toList_eq];exact hu.2 (by rw[HR.o];exact H.o.2.2.1));have d:=aa (show Nd (w1.drewN m) p (NV.read level its rg cap)/\aY p (w1.drewN m) (cx (aD ⟨rg,0,av⟩) its.length cap) its/\Below p w (w1.drewN m) from⟨Y.o.1.still (eN _ _),Own.below Y.o.2.1 (eN _ _) (ah _),Y.o.2.2.trans ((eN w1 m).mono (by have:=Y.o.2.2.size;have:=M.o;omega))⟩);clear hu;go_wp2
   go_ret2
   refine⟨p,rg,cap,rfl,Nat.le_of_eq M.o.symm,d.o.1,M.o▸H.o.1▸d.o.2.1,M.o▸d.o.2.2⟩
end
end
section
open Go.RowKit Lib Go.Maps Go.ChangeMaps
open Wl (eV ins cA)
section
variable {P:Program} {T E K:TypeId} {w:World} {b:Nat} {m:eV}
theorem gy.Le {M:ME} (h:gy P K M w b m) (a:P.underlying K=aD (.int cu)) (d:P.underlying T=aD (.map K E)) (hn:m.length<=200000000) {k:Nat} (N:k<=1000000) {t:List UInt8} (hf:M.fits t):
  ∃w',(Instr.mapUpdate T (.map (aD b)) (.int cu k) (M.enc t)).run P w=.ok () w'/\gy P K M w' b (ins k t m)/\w.grownBy w' (aD b):=by
 obtain⟨w',e,c,h3⟩:=h.1.update (int_keyed a) d (by unfold maxLen;omega) (keyOf_int_mk a (vi N)) (M.read t hf);rw[Ol k t m h.2.1] at c
 exact⟨w',e,⟨tO M c,Wl.fZ k t h.2.1,fun x H=>by
  rcases Wl.mX H with rfl|H;·exact N
  ·exact h.2.2 x H⟩,h3⟩
end
end
namespace Wl
open Dk (fO full)
def raw (g:eV) (ps:List (Int×Text)):eV:=ps.foldl (fun g p=>ins p.1.toNat p.2 g) g
theorem vM (g:eV) (a b:List (Int×Text)):raw g (a++b)=raw (raw g a) b:=by simp[raw]
theorem Gu (g:eV) (p:Int×Text):raw g [p]=ins p.1.toNat p.2 g:=rfl
theorem Gv (f:Text->Text) (k:Nat) (t:Text):∀m:eV,ins k (f t) (m.map fun x=>(x.1,f x.2))=(ins k t m).map fun x=>(x.1,f x.2)
 |[]=>rfl
 |x::m=>by
  rw[bM];unfold ins;by_cases h:k<x.1;·rw[if_pos h,if_pos h];rfl
  ·rw[if_neg h,if_neg h];by_cases e:k=x.1;·grind
   ·simp_all[Gv]
theorem B1 (f:Text->Text) (k:Nat):∀m:eV,look k (m.map fun x=>(x.1,f x.2))=(look k m).map f
 |[]=>rfl
 |x::m=>by
  rw[bM];unfold look;by_cases h:x.1=k;·rw[if_pos h,if_pos h];rfl
  ·simp_all[B1]
theorem Gw:∀(ps:List (Int×Text)) (g:eV),Up (g.map fun x=>(x.1,full x.2)) ps=(raw g ps).map fun x=>(x.1,full x.2)
 |[],_=>rfl
 |p::ps,g=>by
  show Up (ins p.1.toNat (full p.2) _) ps=(raw (ins p.1.toNat p.2 g) ps).map _;rw[Gv full,Gw ps]
theorem Iw (H:List Text) (ps:List (Int×Text)) {j:Nat} (b:j<H.length):(along H ps)[j]?=((look j (raw [] ps)).map full).or H[j]?:=by have h:=BM ps H vq;rw[Dk.nR] at h;have a:=Gw ps [];rw[List.map_nil] at a;rw[<-h,oX (vm ps vq),if_pos b,a,B1]
end Wl
namespace Tx
open Wl (eV Text ins cA)
def un (k:Nat):Text:=bB k 0
theorem gz (k:Nat):(un k).length=k:=dZ
def g_ (m:eV) (i:Nat):Int:=match Wl.look i m with|some t=>(t.length:Int)|none=>-1
structure St where
 m:eV
 b:List Int
 n:Nat
def step (s:St) (p:Nat×Text):St:=⟨ins p.1 (un s.n) s.m,s.b++[g_ s.m p.1],s.n+1⟩
def st (ps:List (Nat×Text)):St:=ps.foldl step ⟨[],[],0⟩
def dr (ps:List (Nat×Text)):eV:=(st ps).m
def iD (ps:List (Nat×Text)):List Int:=(st ps).b
theorem q9 (ps:List (Nat×Text)) (p:Nat×Text):st (ps++[p])=step (st ps) p:=by unfold st;rw[List.foldl_append];rfl
theorem mo {P:List (Nat×Text)->Prop} (h:P []) (H:∀ps p,P ps->P (ps++[p])):∀ps,P ps:=by
 intro ps;have key:∀n (l:List (Nat×Text)),l.length=n->P l:=by
  intro n;induction n with
  |zero=>intro l hl;rw[eG.1 hl];exact h
  |succ n i=>
   intro l hl;rcases List.eq_nil_or_concat l with rfl|⟨m,b,rfl⟩;·cases hl
   ·grind
 exact key _ ps rfl
theorem YQ:∀ps,(st ps).n=ps.length:=mo rfl fun ps p h=>by rw[q9];show (st ps).n+1=_;rw[h,au];rfl
theorem cK:∀ps,(iD ps).length=ps.length:=mo rfl fun ps p h=>by unfold iD at h |-;rw[q9];show ((st ps).b++_).length=_;rw[au,h,au];rfl
theorem iE:∀ps,cA (dr ps):=mo List.Pairwise.nil fun ps p h=>by unfold dr at h |-;rw[q9];exact Wl.fZ _ _ h
theorem gV (ps:List (Nat×Text)) (p:Nat×Text):dr (ps++[p])=ins p.1 (un ps.length) (dr ps):=by unfold dr;rw[q9];show ins p.1 (un (st ps).n) _=_;rw[YQ]
theorem sK (ps:List (Nat×Text)) (p:Nat×Text):iD (ps++[p])=iD ps++[g_ (dr ps) p.1]:=by unfold iD dr;rw[q9];rfl
theorem Lf (ps:List (Nat×Text)):∀Q,(iD (ps++Q)).take ps.length=iD ps:=mo (P:=fun Q=>(iD (ps++Q)).take ps.length=iD ps)
 (by show (iD (ps++[])).take _=_;rw[bA,<-cK,List.take_length])
 (fun Q q h=>by
  show (iD (ps++(Q++[q]))).take _=_;rw[<-aF,sK,List.take_append_of_le_length (by rw[cK,au];omega),h])
theorem yT (ps:List (Nat×Text)) (k:Nat) (h:k<=ps.length):(iD ps).take k=iD (ps.take k):=by grind [Lf,cP,aO,ct]
theorem mh (ps:List (Nat×Text)) {k:Nat} (h:k<ps.length):ps.take (k+1)=ps.take k++[ps[k]]:=cC h
theorem OQ (ps:List (Nat×Text)) {k:Nat} (h:k<ps.length):(iD ps)[k]'(by rw[cK];exact h)=g_ (dr (ps.take k)) (ps[k]).1:=by
 have H:=yT ps (k+1) (by omega);rw[mh ps h,sK] at H;have a:((iD ps).take (k+1))[k]?=aD (g_ (dr (ps.take k)) (ps[k]).1):=by rw[H,iy (by rw[cK,aO];omega),cK,aO,ct (by omega),Nat.sub_self];rfl
 rw[List.getElem?_take_of_lt (by omega),aK (by rw[cK];exact h)] at a;injection a
theorem nh (i:Nat):∀ps,(Wl.look i (dr ps)=av/\∀p∈ps,p.1≠i)\/∃k,∃b:k<ps.length,Wl.look i (dr ps)=aD (un k)/\(ps[k]).1=i/\Wl.look i (Wl.raw [] (ps.map fun p=>((p.1:Int),p.2)))=aD (ps[k]).2:=
 mo (dc ⟨rfl,fun p hp=>by cases hp⟩) fun ps p h=>by
  by_cases e:i=p.1
  ·refine dn ⟨ps.length,by simp, ?_, ?_, ?_⟩;·rw[gV,Wl.fY,if_pos e]
   ·simp[e]
   ·rw[bQ,Wl.vM];show Wl.look i (Wl.raw _ [((p.1:Int),p.2)])=_;rw[Wl.Gu,Wl.fY,if_pos (by simp[e])];simp
  ·rcases h with⟨a,c⟩|⟨k,b,a,c,h3⟩
   ·refine dc ⟨by rw[gV,Wl.fY,if_neg e];exact a,fun q H=> ?_⟩;rcases aj.1 H with H|H;·exact c q H
    ·grind
   ·refine dn ⟨k,by rw[au];omega, ?_, ?_, ?_⟩;·rw[gV,Wl.fY,if_neg e];exact a
    ·grind
    ·rw[bQ,Wl.vM];show Wl.look i (Wl.raw _ [((p.1:Int),p.2)])=_;rw[Wl.Gu,Wl.fY,if_neg (by simp[e]),List.getElem_append_left b];exact h3
def pN (ps:List (Nat×Text)):List (Int×Text):=ps.map fun p=>((p.1:Int),p.2)
theorem B2 {i:Nat}:∀{ps:List (Nat×Text)} {g:eV},(∀p∈ps,p.1≠i)->Wl.look i (Wl.raw g (pN ps))=Wl.look i g
 |[],_,_=>rfl
 |p::ps,g,h=>by
  show Wl.look i (Wl.raw (ins ((p.1:Int)).toNat p.2 g) (pN ps))=_;rw[B2 fun q H=>h q (aI _ H),Wl.fY,if_neg];have:=h p aE;rw[dF];exact fun e=>this e.symm
theorem RQ (H:List Text) (ps:List (Nat×Text)) {i:Nat} (hi:i<H.length):
  (Wl.look i (dr ps)=av/\(Wl.along H (pN ps))[i]?=H[i]?)\/∃k,∃a:k<ps.length,Wl.look i (dr ps)=aD (un k)/\(Wl.along H (pN ps))[i]?=aD (Dk.full (ps[k]).2):=by
 have b:=Wl.Iw H (pN ps) hi;rcases nh i ps with⟨h,c⟩|⟨k,a,h,_,h3⟩;·refine dc ⟨h, ?_⟩;rw[b,B2 c];rfl
 ·grind [pN]
theorem Lh (ps:List (Nat×Text)) {k:Nat} (H:k<ps.length) (h:g_ (dr (ps.take k)) (ps[k]).1=-1):Wl.look (ps[k]).1 (dr (ps.take k))=none:=by grind [g_]
theorem Li (ps:List (Nat×Text)) {k j:Nat} (H:k<ps.length) (h:g_ (dr (ps.take k)) (ps[k]).1=(j:Int)):Wl.look (ps[k]).1 (dr (ps.take k))=aD (un j):=by grind [nh,g_,gz]
theorem B3 (m:eV) (i:Nat):g_ m i=-1\/∃j:Nat,g_ m i=(j:Int):=by grind [g_]
def del (k:Nat) (m:eV):eV:=m.filter fun x=>decide (x.1≠k)
theorem vN (k:Nat) {m:eV} (h:cA m):cA (del k m):=List.Pairwise.filter _ h
theorem B4 (k j:Nat):∀m:eV,Wl.look j (del k m)=if j=k then av else Wl.look j m
 |[]=>by simp[del,Wl.look]
 |x::m=>by
  have i:=B4 k j m;unfold del at i |-;rw[cW];by_cases h:x.1=k
  ·rw[if_neg (by simp[h]),i];by_cases H:j=k;·grind
   ·rw[if_neg H,if_neg H];show Wl.look j m=(if x.1=j then aD x.2 else Wl.look j m);rw[if_neg (by omega)]
  ·rw[if_pos (by simpa using h)];unfold Wl.look;by_cases a:x.1=j;·grind
   ·grind
theorem Af {ps:List (Nat×Text)} {k:Nat} (H:k<ps.length) (h:g_ (dr (ps.take k)) (ps[k]).1=-1):del (ps[k]).1 (dr (ps.take (k+1)))=dr (ps.take k):=by
 refine Wl.ext (vN _ (iE _)) (iE _) fun j=> ?_;rw[B4,mh ps H,gV,Wl.fY];by_cases e:j=(ps[k]).1;·rw[if_pos e,e,Lh ps H h]
 ·rw[if_neg e,if_neg e]
theorem Ag {ps:List (Nat×Text)} {k j:Nat} (H:k<ps.length) (h:g_ (dr (ps.take k)) (ps[k]).1=(j:Int)):ins (ps[k]).1 (un j) (dr (ps.take (k+1)))=dr (ps.take k):=by
 refine Wl.ext (Wl.fZ _ _ (iE _)) (iE _) fun i=> ?_;rw[Wl.fY,mh ps H,gV,Wl.fY];by_cases e:i=(ps[k]).1;·rw[if_pos e,e,Li ps H h]
 ·rw[if_neg e,if_neg e]
theorem yU:∀ps,(dr ps).length<=ps.length:=mo (ah _) fun ps p h=>by
 rw[gV,Wl.jd _ _ (iE ps),au];show _<=ps.length+1
 split<;>omega
end Tx
section
open Go.RowKit Lib
def Wl.Lg.read (s:Wl.Lg) (i:Int):Wl.Text×Int:=
 if s.off then ([],3) else if !s.has i then ([],2) else match Wl.look i.toNat s.wait with|some t=>(t,0)|none=>s.d.read ((1+s.ring+i.toNat:Nat):Int)
theorem q_ {w w':World} {Z:Array Value} (h:aG (fun k=>k=w.heap.size) (w.alloc (ey Z CT)) w'):Below w.heap.size w w':=
 Below.but ((Below.refl _ w).alloc (ah _) _) h (by simp) (fun k H e=>by omega)
theorem Iy (w:World) (F:Nat->Prop) (b g:Nat) (s:Wl.Lg) (i:Int) (hl:Log w F b g s) (A:Bnd s):
  Calls Tryz.prog 198 #[ptr b,bf cu i] w fun e w'=>e=eb (gu #[bR (bs (s.read i).1),bf cu (s.read i).2])/\Below w.heap.size w w':=by
 have u:=aa hl;have B:=aa A;obtain⟨mb,FD,h⟩:=hl;have c0:=h.c0;have c6:=h.c6;have x:=aa h;clear h A;obtain⟨Z,q⟩:∃Z,Z=(zeros.map bV).toArray:=⟨_,rfl⟩;have K:∀w,(zeroValue CT).run Tryz.prog w=.ok (iK Z) w:=fun w=>by rw[q];exact zY w
 have l:Z.size=512:=by rw[q];simp[jc]
 have L:¬Z=#[]:=by intro e;rw[e] at l;cases l
 have C:=aa q;clear q;have H:=aa (show s.read i=if s.off then ([],3) else if !s.has i then ([],2) else match Wl.look i.toNat s.wait with|some t=>(t,0)|none=>s.d.read ((1+s.ring+i.toNat:Nat):Int) from rfl);go_enter Tryz.func198,Tryz.ntmps198;unfold ptr;go_wp2_with fail;refine (yP w F b g s u.o).mono ?_;rintro e w1 ⟨rfl,rfl⟩;by_cases f:s.off=true
 ·rw[f];have c:=aa (show s.read i=([],3) by rw[H.o,if_pos f]);clear f H;go_wp2
  go_ret2
  exact⟨by rw[c.o];rfl,Below.refl _ _⟩
 ·have m:s.off=false:=by simpa using f
  have H:=aa (show s.read i=if !s.has i then ([],2) else match Wl.look i.toNat s.wait with|some t=>(t,0)|none=>s.d.read ((1+s.ring+i.toNat:Nat):Int) by rw[H.o,if_neg f]);rw[m];clear f m;go_wp2_with fail;refine (K6 w1 F b g s i u.o).mono ?_;rintro e w1 ⟨rfl,rfl⟩;by_cases hh:s.has i=true
  ·rw[hh];have H:=aa (show s.read i=match Wl.look i.toNat s.wait with|some t=>(t,0)|none=>s.d.read ((1+s.ring+i.toNat:Nat):Int) by rw[H.o,if_neg (by rw[hh];decide)]);have hat:0<=i/\i<s.homes:=(by simpa[Wl.Lg.has] using hh);obtain⟨n,rfl⟩:∃n:Nat,i=n:=⟨i.toNat,by omega⟩;rw[dF] at H;have U:n<=1000000:=(by have:=B.o.h;omega);have y:=aa U;obtain⟨r,hr⟩:∃r,w1.heap.size=r:=⟨_,rfl⟩;clear hh hat;cases a:Wl.look n s.wait with
   |some t=>
    obtain⟨hat,E⟩:=D9.i_ x.o.mp U a;have c:=aa (show s.read (n:Int)=(t,0) by rw[H.o,a]);have z:=aa E;clear H a E U
    go_wp2_with (first
     |(refine pT rfl _ _ rfl r t zeros rfl rfl z.o (by rw[<-hr];exact BJ.new w1 Z C.o) ?_;intro W v D;have G:=KE W r;have I:=v.back;have j:=aa D;clear D v)
     |fail)
    go_ret2
    exact⟨by rw[c.o];rfl,q_ (by rw[hr];exact j.o)⟩
   |none=>
    have hat:=D9.eo x.o.mp U a;have c:=aa (show s.read (n:Int)=s.d.read ((1+s.ring+n:Nat):Int) by rw[H.o,a]);clear H a U
    go_wp2_with (first
     |(refine pT rfl _ _ rfl r zeros zeros rfl rfl jc (by rw[<-hr];exact BJ.new w1 Z C.o) ?_;intro W v D;have j:=aa (q_ (show aG (fun k=>k=w1.heap.size) (w1.alloc (ey Z CT)) W by rw[hr];exact D));clear D v)
     |fail)
    have p:=aa (u.o.below j.o);have Y:=aa (x.o.below j.o);have c0:=Y.o.c0
    go_quiet (first
     |(go_at_call 220;exact Calls.quiet_of_same (Ad _ F b g s n (by first|exact p.o|exact p.o.but ((aG.refl (fun _=>False) W).drewN _) (fun _ _ h=>h)) B.o.r2 y.o))
     |(go_at_call 97;exact Calls.quiet_of_same (BA _ FD g s.d _ (by first|exact Y.o.sec|exact Y.o.sec.but ((aG.refl (fun _=>False) W).drewN _) (fun _ _ h=>h)))))
    have J:=aa (show s.read (n:Int)=s.d.read (1+(s.ring:Int)+n) by rw[c.o,show ((1+s.ring+n:Nat):Int)=1+(s.ring:Int)+n by omega]);rw[<-J.o];go_wp2
    go_ret2
    exact⟨rfl,j.o.trans ((eN W _).mono j.o.size)⟩
  ·have Q:s.has i=false:=(by simpa using hh);have c:=aa (show s.read i=([],2) by rw[H.o,Q];rfl);rw[Q];clear hh Q H;go_wp2
   go_ret2
   exact⟨by rw[c.o];rfl,Below.refl _ _⟩
end
end Go.Proofs.YtlpfhjbpknbndaaGreatDoor
