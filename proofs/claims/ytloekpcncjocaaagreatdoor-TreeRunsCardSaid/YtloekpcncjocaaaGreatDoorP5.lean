/- Elder texts, cut down and merged (5). -/
import Derived.Test.YtloekpcncjocaaaGreatDoorP4
import Derived.Test.YtloekpcncjocaaaGreatDoorP2
import Derived.Test.YtloekpcncjocaaaGreatDoorP1
import Derived.Laws.ResultCell
import Derived.BigQuiet
import Derived.OrdersHeld
import Derived.Deep.RegionHeld3
import Derived.Lib.SlBytesConst
import Derived.RangeFuncBox
import Derived.RangeFuncLeaves
import Derived.Shelf.Abstract
import Derived.OwnWalkIn
import Derived.TacticsInMore
import Derived.LoopNIn
import Derived.LoopIn
import Derived.Maps.AppendAt
import Derived.Lib.Hide
import Derived.Test.YtloekpcncjocaaaGreatDoorIter
import Derived.Laws.CopyOwn
import Derived.StillTailTactics
import Derived.BigRegion
import Derived.Test.YtloekpcncjocaaaGreatDoorPTk
set_option maxRecDepth 100000
set_option maxHeartbeats 8000000
namespace Go.Proofs.YtloekpcncjocaaaGreatDoor
open Go.RowKit Lib
theorem D4 {fn:Func} {p u:Tmp} (h:fn.results=#[.cell p 63,.tmp u]) (tmps:Array Value) (w:World) (g:Nat) (x y:Value) (fr:Nat×Nat)
  (hp:tmps.getD p undef=.pointer (some ⟨g,0,none⟩)) (hg:w.heap[g]?=some (.cells #[x,y] 63 fr)):
  (results fn tmps).run Tryz.prog w=.ok (.tuple #[.agg #[x,y],tmps.getD u undef]) w:=by
 rw[results_cell_tmp h,hp]
 simp[asAddr,run_loadVar_row w g _ 63 _ fr _ hg Tryz.underlying63 rfl (by kernel_rfl),Result.andThen]
def fk (k v:List UInt8):List UInt8:=UInt8.ofNat k.length::UInt8.ofNat v.length::(k++v)
theorem eD (k v:List UInt8):(fk k v).length=2+k.length+v.length:=by simp[fk];omega
section
variable {w w':World} {p q:Nat} {n m:NV}
theorem Bn (w:World) (s:ByteArray) (k v rest:List UInt8) (hs:s.data.toList=fk k v++rest) (hk:k.length≤200) (hv:v.length≤200) (hz:s.size≤1000000):
  Calls Tryz.prog 180 #[.string s] w fun e w'=>e=.returned (.tuple #[.agg #[.string (bs k),.string (bs v)],.int .i64 (2+k.length+v.length:Nat)])∧Below w.heap.size w w':=by
 have hsz:s.size=2+k.length+v.length+rest.length:=by
  have:s.data.toList.length=s.size:=Array.length_toList
  rw[←this,hs,List.length_append,eD]
 have h0:0<s.size:=by omega
 have h1:1<s.size:=by omega
 have ZA:¬(s.size:Int)<2:=by omega
 have hk':k.length<256:=by omega
 have JR:v.length<256:=by omega
 have e0:((s[0].toNat:Nat):Int)=k.length:=by rw[←iK s 0 h0,hs];show (((UInt8.ofNat k.length).toNat:Nat):Int)=_;rw[UInt8.toNat_ofNat',Nat.mod_eq_of_lt (by simpa using hk')]
 have e1:((s[1].toNat:Nat):Int)=v.length:=by rw[←iK s 1 h1,hs];show (((UInt8.ofNat v.length).toNat:Nat):Int)=_;rw[UInt8.toNat_ofNat',Nat.mod_eq_of_lt (by simpa using JR)]
 have e2:s.extract 2 (2+k.length)=bs k:=by
  apply ByteArray.ext
  apply Array.ext'
  rw[ByteArray.data_extract,Array.toList_extract,List.extract_eq_take_drop,hs]
  show List.take (2+k.length-2) (k++v++rest)=k
  rw[Nat.add_sub_cancel_left,List.append_assoc,List.take_left]
 have e3:s.extract (2+k.length) (2+k.length+v.length)=bs v:=by
  apply ByteArray.ext
  apply Array.ext'
  rw[ByteArray.data_extract,Array.toList_extract,List.extract_eq_take_drop,hs]
  show List.take _ (List.drop (2+k.length) (UInt8.ofNat k.length::UInt8.ofNat v.length::(k++v++rest)))=v
  rw[show 2+k.length=k.length+1+1 by omega,List.drop_succ_cons,List.drop_succ_cons,List.append_assoc,List.drop_left,show k.length+1+1+v.length-(k.length+1+1)=v.length by omega,List.take_left]
 have hle:¬(s.size:Int)<2+k.length+v.length:=by omega
 have ZT:(2:Int)+k.length≤s.size:=by omega
 have hle2:(2:Int)+k.length+v.length≤s.size:=by omega
 have pH:(k.length:Int)≤200:=by omega
 have Jx:(v.length:Int)≤200:=by omega
 obtain⟨K,hK⟩:∃K,K=bs k:=⟨_,rfl⟩
 obtain⟨V,hV⟩:∃V,V=bs v:=⟨_,rfl⟩
 rw[←hK] at e2 ⊢
 rw[←hV] at e3 ⊢
 generalize k.length=a at*
 generalize v.length=b at*
 clear hs hsz hK hV hk hv hk' JR
 go_enter Tryz.func180,Tryz.ntmps180
 go_wp2_with (refine wp_region_any (by kernel_rfl) ?_;refine Hid.out ?_)
 refine aa ?_
 try (change wpAny _ _ _ _ _ _ _ (World.drew _))
 have t1:(0:Int)≤2+a:=by omega
 have t2:(2:Int)≤2+a:=by omega
 have t3:(0:Int)≤2+a+b:=by omega
 have t4:(2:Int)+a≤2+a+b:=by omega
 have n1:((2:Int)+a).toNat=2+a:=by omega
 have n2:((2:Int)+a+b).toNat=2+a+b:=by omega
 refine tk 0 ?_
 refine tk 1 ?_
 refine tk 2 ?_
 refine tk 3 ?_
 refine tk 4 ?_
 refine tk 5 ?_
 refine tk 6 ?_
 refine tk 7 ?_
 refine tk 8 ?_
 try simp only[Act.put,List.setIfInBounds_toArray,List.set_cons_succ,List.set_cons_zero]
 refine rd [9] (rn fun K hK=> ?_)
 go_simp
 refine hK _ _ ?_;clear hK K
 refine tk 10 ?_
 refine wpAny_done (by kernel_rfl) ?_ _
 go_wp2
 refine bodyPost_ret (D4 rfl _ _ w.heap.size _ _ _ rfl (heap_alloc_new _ _)) rfl ?_
 refine⟨?_,((Below.refl _ w).alloc (Nat.le_refl _) _).drew⟩
 show Ending.returned (.tuple #[.agg #[.string K,.string V],.int .i64 ((2:Int)+a+b)])=_
 go_num
structure Sound (n:NV):Prop where
 level:n.level≤15
 ne:n.its≠[]
 first:0<n.level→∀h:0<n.its.length,n.its[0].key=[]
 Xq:Gf n.its
 each:∀i∈n.its,i.key.length≤96∧i.val.length≤56∧(0<n.level→i.val.length=2)
theorem w_ (h:Nd w p n) (hs:Sound n):
  Calls Tryz.prog 181 #[ptr p] w fun e w'=>e=.returned (.bool true)∧Below w.heap.size w w':=by
 have c0:=h.c0
 have c1:=h.c1
 have bY:=h.blk.lt
 have ni:(n.level:Int)≤15:=by have:=hs.level;omega
 have Xr:¬(n.level:Int)<0:=by omega
 have hpos:0<n.its.length:=List.length_pos_iff.2 hs.ne
 have Gn:((n.its.length:Int)==0)=false:=by rw[beq_eq_false_iff_ne];omega
 have PD:(0:Int)<n.its.length:=by omega
 have ZU:decide ((15:Int)<n.level)=false:=by rw[decide_eq_false_iff_not];omega
 have TT:decide ((n.level:Int)<0)=false:=by rw[decide_eq_false_iff_not];omega
 have hl:=h.small.len
 have gz:(n.its.length:Int)≤400:=by omega
 obtain⟨b0,k0,hb0⟩:∃b0,w.cell? ⟨n.rg,n.ro,none⟩=some (.string b0)∧(0<n.level→b0=⟨#[]⟩):=by
  obtain⟨k0,_,_⟩:=aH h.row 0 hpos
  rw[Nat.zero_mul,Nat.add_zero] at k0
  exact⟨_,k0,fun e=>by rw[hs.first e hpos];rfl⟩
 have HN:=aa h
 have HS:=aa hs
 have xd:=aa (fun (W:World) (hb:Below w.heap.size w W) (j:Nat) (hj:j<n.its.length)=>aH (cN h.row hb) j hj)
 obtain⟨L,hL⟩:∃L,L=n.its.length:=⟨_,rfl⟩
 rw[←hL] at c1 Gn PD gz
 have HL:=aa hL
 clear h hs hl hpos hL
 by_cases hlv:n.level=0
 ·have y8:¬(0:Int)<n.level:=by omega
  have HV:=aa hlv
  clear hlv hb0
  go_enter Tryz.func181,Tryz.ntmps181
  unfold ptr
  go_wp2
  go_loopw [46] (fun iv wr=>∃j:Nat,j≤L∧iv=.int .i64 j∧Hid (Below w.heap.size w wr)) (fun iv _=>L-(RowKit.intOf iv).toNat)
  case atStart=>exact⟨0,Nat.zero_le _,rfl,aa (Below.refl _ _)⟩
  case round=>
   obtain⟨j,hj,rfl,hB⟩:=hrel
   by_cases hlt:j<L
   ·have ng:(j:Int)<L:=by omega
    have hjl:j<n.its.length:=by rw[←HL.out];exact hlt
    obtain⟨a0,a1,a2⟩:=xd.out wr hB.out j hjl
    have c0':=(hB.out.cell (p:=⟨p,0,none⟩) bY).trans c0
    have c1':=(hB.out.cell (p:=⟨p,1,none⟩) bY).trans c1
    have he:=HS.out.each _ (List.getElem_mem hjl)
    have TU:decide ((96:Int)<(bs n.its[j].key).size)=false:=by rw[aB,decide_eq_false_iff_not];omega
    have TV:decide ((56:Int)<(bs n.its[j].val).size)=false:=by rw[aB,decide_eq_false_iff_not];omega
    have Jy:=aa (show 0<n.level→((bs n.its[j].val).size:Int)=2 from fun e=>by rw[aB];have:=he.2.2 e;omega)
    have hsz:((bs n.its[j].key).size:Int)≤96∧((bs n.its[j].val).size:Int)≤56:=by rw[aB,aB];omega
    obtain⟨PE,Kk⟩:=hsz
    have HJ:=aa (show j<L from hlt)
    cases j with
    |zero=>
     generalize bs n.its[0].key=kk at*
     generalize bs n.its[0].val=vv at*
     generalize pa n.its[0].node=qq at*
     rw[Nat.zero_mul,Nat.add_zero] at a0 a1 a2
     clear he hlt hj hjl
     go_wp2_with fail
     obtain⟨W,hW⟩:∃W,W=wr.alloc (.cells #[.string kk,.string vv,.pointer qq] 95):=⟨_,rfl⟩
     have d0:W.cell? ⟨wr.heap.size,0,none⟩=some (.string kk):=by rw[hW];exact (aG.new wr _ _).cell rfl
     have d1:W.cell? ⟨wr.heap.size,1,none⟩=some (.string vv):=by rw[hW];exact (aG.new wr _ _).cell rfl
     have hbW:Below wr.heap.size wr W:=by rw[hW];exact (Below.refl _ wr).alloc (Nat.le_refl _) _
     have e0:=(hbW.cell (p:=⟨p,0,none⟩) (World.block_lt_of_cell? _ _ c0')).trans c0'
     have e1:=(hbW.cell (p:=⟨p,1,none⟩) (World.block_lt_of_cell? _ _ c1')).trans c1'
     have HB:=aa (hB.out.trans (hbW.mono hB.out.size))
     rw[←hW]
     clear hW hbW c0' c1' a0 a1 a2 c0 c1 k0
     go_quiet (fail)
     have kf:=aa (HB.out.trans (show Below w.heap.size W (W.drewN nq) from⟨rfl,rfl,rfl,Nat.le_refl _,fun _ _=>rfl⟩))
     go_wp2
     go_roundw
     case rel=>exact⟨_,HJ.out,by go_num,kf⟩
     case measure=>have:=HJ.out;simp[RowKit.intOf];try omega
    |succ i=>
     obtain⟨b0',b1',b2'⟩:=xd.out wr hB.out i (by omega)
     have vA:=List.pairwise_iff_getElem.1 HS.out.Xq i (i+1) (by omega) hjl (by omega)
     have hq1:Op.bytesLess (bs n.its[i+1].key).toList (bs n.its[i].key).toList=false:=by rw[az,az,Tr.lt_eq];exact Tr.lt_asymm vA
     have J_:((bs n.its[i+1].key).toList==(bs n.its[i].key).toList)=false:=by
      rw[az,az,beq_eq_false_iff_ne]
      exact fun e=>Tr.ne_of_lt vA e.symm
     generalize bs n.its[i+1].key=kk at*
     generalize bs n.its[i+1].val=vv at*
     generalize pa n.its[i+1].node=qq at*
     generalize bs n.its[i].key=pp at*
     clear he hlt hj hjl vA b1' b2'
     go_wp2_with fail
     obtain⟨W,hW⟩:∃W,W=wr.alloc (.cells #[.string kk,.string vv,.pointer qq] 95):=⟨_,rfl⟩
     have d0:W.cell? ⟨wr.heap.size,0,none⟩=some (.string kk):=by rw[hW];exact (aG.new wr _ _).cell rfl
     have d1:W.cell? ⟨wr.heap.size,1,none⟩=some (.string vv):=by rw[hW];exact (aG.new wr _ _).cell rfl
     have hbW:Below wr.heap.size wr W:=by rw[hW];exact (Below.refl _ wr).alloc (Nat.le_refl _) _
     have e0:=(hbW.cell (p:=⟨p,0,none⟩) (World.block_lt_of_cell? _ _ c0')).trans c0'
     have e1:=(hbW.cell (p:=⟨p,1,none⟩) (World.block_lt_of_cell? _ _ c1')).trans c1'
     have f0:=(hbW.cell (p:=⟨n.rg,n.ro+i*3,none⟩) (World.block_lt_of_cell? _ _ b0')).trans b0'
     have HB:=aa (hB.out.trans (hbW.mono hB.out.size))
     rw[←hW]
     clear hW hbW c0' c1' a0 a1 a2 c0 c1 k0 b0'
     go_quiet (fail)
     have kf:=aa (HB.out.trans (show Below w.heap.size W (W.drewN nq) from⟨rfl,rfl,rfl,Nat.le_refl _,fun _ _=>rfl⟩))
     go_wp2
     go_roundw
     case rel=>exact⟨_,HJ.out,by go_num,kf⟩
     case measure=>have:=HJ.out;simp[RowKit.intOf];try omega
   ·have ng:¬(j:Int)<L:=by omega
    clear hlt hj
    go_wp2
    go_ret
    exact⟨rfl,hB.out⟩
 ·have y8:(0:Int)<n.level:=by omega
  have HV:=aa hlv
  have aQ:=hb0 (by omega)
  have aC:b0.toList.isEmpty=true:=by rw[aQ];exact (congrArg List.isEmpty (az []))
  have cC:b0.toList=[]:=by rw[aQ];exact az []
  clear hlv hb0 aQ
  go_enter Tryz.func181,Tryz.ntmps181
  unfold ptr
  go_wp2
  go_loopw [46] (fun iv wr=>∃j:Nat,j≤L∧iv=.int .i64 j∧Hid (Below w.heap.size w wr)) (fun iv _=>L-(RowKit.intOf iv).toNat)
  case atStart=>exact⟨0,Nat.zero_le _,rfl,aa (Below.refl _ _)⟩
  case round=>
   obtain⟨j,hj,rfl,hB⟩:=hrel
   by_cases hlt:j<L
   ·have ng:(j:Int)<L:=by omega
    have hjl:j<n.its.length:=by rw[←HL.out];exact hlt
    obtain⟨a0,a1,a2⟩:=xd.out wr hB.out j hjl
    have c0':=(hB.out.cell (p:=⟨p,0,none⟩) bY).trans c0
    have c1':=(hB.out.cell (p:=⟨p,1,none⟩) bY).trans c1
    have he:=HS.out.each _ (List.getElem_mem hjl)
    have TU:decide ((96:Int)<(bs n.its[j].key).size)=false:=by rw[aB,decide_eq_false_iff_not];omega
    have TV:decide ((56:Int)<(bs n.its[j].val).size)=false:=by rw[aB,decide_eq_false_iff_not];omega
    have Jy:=aa (show 0<n.level→((bs n.its[j].val).size:Int)=2 from fun e=>by rw[aB];have:=he.2.2 e;omega)
    have hsz:((bs n.its[j].key).size:Int)≤96∧((bs n.its[j].val).size:Int)≤56:=by rw[aB,aB];omega
    obtain⟨PE,Kk⟩:=hsz
    have HJ:=aa (show j<L from hlt)
    cases j with
    |zero=>
     generalize bs n.its[0].key=kk at*
     generalize bs n.its[0].val=vv at*
     generalize pa n.its[0].node=qq at*
     rw[Nat.zero_mul,Nat.add_zero] at a0 a1 a2
     have hvs:=Jy.out (by have:=HV.out;omega)
     have TW:((vv.size:Int)==2)=true:=by rw[hvs];rfl
     clear he hlt hj hjl
     go_wp2_with fail
     obtain⟨W,hW⟩:∃W,W=wr.alloc (.cells #[.string kk,.string vv,.pointer qq] 95):=⟨_,rfl⟩
     have d0:W.cell? ⟨wr.heap.size,0,none⟩=some (.string kk):=by rw[hW];exact (aG.new wr _ _).cell rfl
     have d1:W.cell? ⟨wr.heap.size,1,none⟩=some (.string vv):=by rw[hW];exact (aG.new wr _ _).cell rfl
     have hbW:Below wr.heap.size wr W:=by rw[hW];exact (Below.refl _ wr).alloc (Nat.le_refl _) _
     have e0:=(hbW.cell (p:=⟨p,0,none⟩) (World.block_lt_of_cell? _ _ c0')).trans c0'
     have e1:=(hbW.cell (p:=⟨p,1,none⟩) (World.block_lt_of_cell? _ _ c1')).trans c1'
     have HB:=aa (hB.out.trans (hbW.mono hB.out.size))
     rw[←hW]
     clear hW hbW c0' c1' a0 a1 a2 c0 c1 k0
     go_quiet (fail)
     have kf:=aa (HB.out.trans (show Below w.heap.size W (W.drewN nq) from⟨rfl,rfl,rfl,Nat.le_refl _,fun _ _=>rfl⟩))
     go_wp2
     go_roundw
     case rel=>exact⟨_,HJ.out,by go_num,kf⟩
     case measure=>have:=HJ.out;simp[RowKit.intOf];try omega
    |succ i=>
     obtain⟨b0',b1',b2'⟩:=xd.out wr hB.out i (by omega)
     have vA:=List.pairwise_iff_getElem.1 HS.out.Xq i (i+1) (by omega) hjl (by omega)
     have hq1:Op.bytesLess (bs n.its[i+1].key).toList (bs n.its[i].key).toList=false:=by rw[az,az,Tr.lt_eq];exact Tr.lt_asymm vA
     have J_:((bs n.its[i+1].key).toList==(bs n.its[i].key).toList)=false:=by
      rw[az,az,beq_eq_false_iff_ne]
      exact fun e=>Tr.ne_of_lt vA e.symm
     generalize bs n.its[i+1].key=kk at*
     generalize bs n.its[i+1].val=vv at*
     generalize pa n.its[i+1].node=qq at*
     generalize bs n.its[i].key=pp at*
     have hvs:=Jy.out (by have:=HV.out;omega)
     have TW:((vv.size:Int)==2)=true:=by rw[hvs];rfl
     clear he hlt hj hjl vA b1' b2'
     go_wp2_with fail
     obtain⟨W,hW⟩:∃W,W=wr.alloc (.cells #[.string kk,.string vv,.pointer qq] 95):=⟨_,rfl⟩
     have d0:W.cell? ⟨wr.heap.size,0,none⟩=some (.string kk):=by rw[hW];exact (aG.new wr _ _).cell rfl
     have d1:W.cell? ⟨wr.heap.size,1,none⟩=some (.string vv):=by rw[hW];exact (aG.new wr _ _).cell rfl
     have hbW:Below wr.heap.size wr W:=by rw[hW];exact (Below.refl _ wr).alloc (Nat.le_refl _) _
     have e0:=(hbW.cell (p:=⟨p,0,none⟩) (World.block_lt_of_cell? _ _ c0')).trans c0'
     have e1:=(hbW.cell (p:=⟨p,1,none⟩) (World.block_lt_of_cell? _ _ c1')).trans c1'
     have f0:=(hbW.cell (p:=⟨n.rg,n.ro+i*3,none⟩) (World.block_lt_of_cell? _ _ b0')).trans b0'
     have HB:=aa (hB.out.trans (hbW.mono hB.out.size))
     rw[←hW]
     clear hW hbW c0' c1' a0 a1 a2 c0 c1 k0 b0'
     go_quiet (fail)
     have kf:=aa (HB.out.trans (show Below w.heap.size W (W.drewN nq) from⟨rfl,rfl,rfl,Nat.le_refl _,fun _ _=>rfl⟩))
     go_wp2
     go_roundw
     case rel=>exact⟨_,HJ.out,by go_num,kf⟩
     case measure=>have:=HJ.out;simp[RowKit.intOf];try omega
   ·have ng:¬(j:Int)<L:=by omega
    clear hlt hj
    go_wp2
    go_ret
    exact⟨rfl,hB.out⟩
end
def hasB (lo hi key:List UInt8):Bool:= !Tr.lt key lo&& !(!hi.isEmpty&& !Tr.lt key hi)
section
variable {w w':World} {p q:Nat} {n m:NV}
theorem uH (h:Nd w p n) (lo hi:List UInt8) (hlv:n.level=0) (hne:n.its≠[]) (ha:∀i∈n.its,hasB lo hi i.key=true):
  Calls Tryz.prog 138 #[ptr p,.agg #[.string (bs lo),.string (bs hi)]] w fun e w'=>e=.returned (.bool true)∧Below w.heap.size w w':=by
 have c0:=h.c0
 have c1:=h.c1
 have hpos:0<n.its.length:=List.length_pos_iff.2 hne
 have Gn:((n.its.length:Int)==0)=false:=by rw[beq_eq_false_iff_ne];omega
 have y8:¬(0:Int)<n.level:=by omega
 have hl:=h.small.len
 have gz:(n.its.length:Int)≤400:=by omega
 have kg:(0:Int)<n.its.length:=by omega
 have a0:=(aH h.row 0 hpos).1
 have a1:=(aH h.row (n.its.length-1) (by omega)).1
 rw[Nat.zero_mul,Nat.add_zero] at a0
 have h0:=ha _ (List.getElem_mem hpos)
 have h1:=ha _ (List.getElem_mem (show n.its.length-1<n.its.length by omega))
 generalize n.its[0].key=k0 at*
 generalize n.its[n.its.length-1].key=k1 at*
 have hrl:=World.block_lt_of_cell? _ _ a0
 have bY:=h.blk.lt
 have HC:=aa (show ∀(W:World) (k:List UInt8),hasB lo hi k=true→Calls Tryz.prog 41 #[.agg #[.string (bs lo),.string (bs hi)],.string (bs k)] W fun e w'=>e=.returned (.bool true)∧Below W.heap.size W w' from fun W k hk=>by
  have:=kS W lo hi k
  unfold hasB at hk
  rwa [hk] at this)
 generalize bs lo=l at*
 generalize bs hi=hh at*
 obtain⟨L,hL⟩:∃L,L=n.its.length:=⟨_,rfl⟩
 rw[←hL] at c1 Gn gz kg a1 hpos
 clear h ha hne hl hL
 obtain⟨M,rfl⟩:∃M,L=M+1:=⟨L-1,by omega⟩
 rw[Nat.add_sub_cancel] at a1
 have ZV:(M:Int)<M+1:=by omega
 have ZW:IntKind.i64.wrap (M:Int)=M:=bQ M (by omega)
 have ZX:((M:Int)+1==0)=false:=by rw[beq_eq_false_iff_ne];omega
 go_enter Tryz.func138,Tryz.ntmps138
 unfold ptr
 go_wp2_with (refine wp_region_held_drew (S:=(fun X=>X.cell? ⟨w.heap.size,0,none⟩=some (.string l)∧X.cell? ⟨w.heap.size,1,none⟩=some (.string hh)∧X.cell? ⟨n.rg,n.ro,none⟩=some (.string (bs k0))∧X.cell? ⟨n.rg,n.ro+M*3,none⟩=some (.string (bs k1)))) (by kernel_rfl) ?_ (fun aE=> ?_);focus skip;rotate_left;refine Hid.out ?_)
 refine aa ?_
 ·trivial
 have HW:=aa ((Below.refl w.heap.size w).alloc (Nat.le_refl _) (.cells #[.string l,.string hh] 88))
 refine bC 0 aE ?_
 refine bC 1 aE ?_
 refine bC 2 aE ?_
 refine bC 3 aE ?_
 try simp only[Act.put,List.setIfInBounds_toArray,List.set_cons_succ,List.set_cons_zero]
 refine bC 4 aE ?_
 refine bC 5 aE ?_
 refine bC 6 aE ?_
 refine bC 7 aE ?_
 refine bC 8 aE ?_
 refine bC 9 aE ?_
 try simp only[Act.put,List.setIfInBounds_toArray,List.set_cons_succ,List.set_cons_zero]
 refine j7 [10] (j8 fun K hK=> ?_)
 go_simp
 refine (HC.out _ k0 h0).mono ?_
 rintro e w8 ⟨rfl,kL⟩
 have H8:=aa kL
 refine hK.out _ _ ⟨(kL.cell (World.block_lt_of_cell? _ _ aE.1)).trans aE.1,(kL.cell (World.block_lt_of_cell? _ _ aE.2.1)).trans aE.2.1,(kL.cell (World.block_lt_of_cell? _ _ aE.2.2.1)).trans aE.2.2.1,(kL.cell (World.block_lt_of_cell? _ _ aE.2.2.2)).trans aE.2.2.2⟩ (fun aE=> ?_);clear hK K kL
 try simp only[Act.put,List.setIfInBounds_toArray,List.set_cons_succ,List.set_cons_zero]
 refine bC 11 aE ?_
 try simp only[Act.put,List.setIfInBounds_toArray,List.set_cons_succ,List.set_cons_zero]
 refine bC 12 aE ?_
 refine bC 13 aE ?_
 refine bC 14 aE ?_
 refine bC 15 aE ?_
 try simp only[Act.put,List.setIfInBounds_toArray,List.set_cons_succ,List.set_cons_zero]
 refine bC 16 aE ?_
 refine bC 17 aE ?_
 try simp only[Act.put,List.setIfInBounds_toArray,List.set_cons_succ,List.set_cons_zero]
 refine bC 18 aE ?_
 refine bC 19 aE ?_
 refine bC 20 aE ?_
 try simp only[Act.put,List.setIfInBounds_toArray,List.set_cons_succ,List.set_cons_zero]
 refine j7 [21] (j8 fun K hK=> ?_)
 go_simp
 refine (HC.out _ k1 h1).mono ?_
 rintro e w9 ⟨rfl,gI⟩
 have H9:=aa gI
 refine hK.out _ _ ⟨(gI.cell (World.block_lt_of_cell? _ _ aE.1)).trans aE.1,(gI.cell (World.block_lt_of_cell? _ _ aE.2.1)).trans aE.2.1,(gI.cell (World.block_lt_of_cell? _ _ aE.2.2.1)).trans aE.2.2.1,(gI.cell (World.block_lt_of_cell? _ _ aE.2.2.2)).trans aE.2.2.2⟩ (fun aE=> ?_);clear hK K gI
 try simp only[Act.put,List.setIfInBounds_toArray,List.set_cons_succ,List.set_cons_zero]
 refine bC 22 aE ?_
 refine bC 23 aE ?_
 refine bC 24 aE ?_
 refine wpAnyH_done (by kernel_rfl) ?_ _
 have HB:=aa ((HW.out.drew.trans (H8.out.mono (by simp only[World.size_drew,World.size_alloc];omega))).trans (H9.out.mono (Nat.le_trans (by simp only[World.size_drew,World.size_alloc];omega) H8.out.size)))
 go_wp2
 go_ret
 exact⟨rfl,HB.out⟩
theorem sB (h:Nd w p n) (lo hi:List UInt8) (hlv:0<n.level) (hne:n.its≠[]) (ha:∀i∈n.its.tail,hasB lo hi i.key=true):
  Calls Tryz.prog 138 #[ptr p,.agg #[.string (bs lo),.string (bs hi)]] w fun e w'=>e=.returned (.bool true)∧Below w.heap.size w w':=by
 have c0:=h.c0
 have c1:=h.c1
 have hpos:0<n.its.length:=List.length_pos_iff.2 hne
 have y8:(0:Int)<n.level:=by omega
 have hl:=h.small.len
 have hcap:=h.small.cap.1
 have gz:(n.its.length:Int)≤400:=by omega
 by_cases h2:2≤n.its.length
 ·have a0:=(aH h.row 1 (by omega)).1
  have a1:=(aH h.row (n.its.length-1) (by omega)).1
  have h0:=ha n.its[1] (by
   rw[List.mem_iff_getElem]
   exact⟨0,by rw[List.length_tail];omega,by rw[List.getElem_tail]⟩)
  have h1:=ha n.its[n.its.length-1] (by
   rw[List.mem_iff_getElem]
   exact⟨n.its.length-2,by rw[List.length_tail];omega,by rw[List.getElem_tail];congr 1;omega⟩)
  rw[Nat.one_mul] at a0
  generalize n.its[1].key=k0 at*
  generalize n.its[n.its.length-1].key=k1 at*
  have HC:=aa (show ∀(W:World) (k:List UInt8),hasB lo hi k=true→Calls Tryz.prog 41 #[.agg #[.string (bs lo),.string (bs hi)],.string (bs k)] W fun e w'=>e=.returned (.bool true)∧Below W.heap.size W w' from fun W k hk=>by
   have:=kS W lo hi k
   unfold hasB at hk
   rwa [hk] at this)
  generalize bs lo=l at*
  generalize bs hi=hh at*
  obtain⟨M,hM⟩:∃M,n.its.length=M+2:=⟨n.its.length-2,by omega⟩
  rw[hM] at c1 gz hcap a1
  rw[show M+2-1=M+1 by omega,show n.ro+(M+1)*3=n.ro+3+M*3 by omega] at a1
  have ZV:(M:Int)<M+1:=by omega
  have ZW:IntKind.i64.wrap (M:Int)=M:=bQ M (by omega)
  have ZX:((M:Int)+1==0)=false:=by rw[beq_eq_false_iff_ne];omega
  have hc1:¬n.cap=1:=by omega
  have hrl:=World.block_lt_of_cell? _ _ a0
  have bY:=h.blk.lt
  clear h ha hne hl hM hpos h2 hlv
  go_enter Tryz.func138,Tryz.ntmps138
  unfold ptr
  go_wp2_with (refine wp_region_held_drew (S:=(fun X=>X.cell? ⟨w.heap.size,0,none⟩=some (.string l)∧X.cell? ⟨w.heap.size,1,none⟩=some (.string hh)∧X.cell? ⟨n.rg,n.ro+3,none⟩=some (.string (bs k0))∧X.cell? ⟨n.rg,n.ro+3+M*3,none⟩=some (.string (bs k1)))) (by kernel_rfl) ?_ (fun aE=> ?_);focus skip;rotate_left;refine Hid.out ?_)
  refine aa ?_
  ·trivial
  have HW:=aa ((Below.refl w.heap.size w).alloc (Nat.le_refl _) (.cells #[.string l,.string hh] 88))
  refine bC 0 aE ?_
  refine bC 1 aE ?_
  refine bC 2 aE ?_
  refine bC 3 aE ?_
  try simp only[Act.put,List.setIfInBounds_toArray,List.set_cons_succ,List.set_cons_zero]
  refine bC 4 aE ?_
  refine bC 5 aE ?_
  refine bC 6 aE ?_
  refine bC 7 aE ?_
  refine bC 8 aE ?_
  refine bC 9 aE ?_
  try simp only[Act.put,List.setIfInBounds_toArray,List.set_cons_succ,List.set_cons_zero]
  refine j7 [10] (j8 fun K hK=> ?_)
  go_simp
  refine (HC.out _ k0 h0).mono ?_
  rintro e w8 ⟨rfl,kL⟩
  have H8:=aa kL
  refine hK.out _ _ ⟨(kL.cell (World.block_lt_of_cell? _ _ aE.1)).trans aE.1,(kL.cell (World.block_lt_of_cell? _ _ aE.2.1)).trans aE.2.1,(kL.cell (World.block_lt_of_cell? _ _ aE.2.2.1)).trans aE.2.2.1,(kL.cell (World.block_lt_of_cell? _ _ aE.2.2.2)).trans aE.2.2.2⟩ (fun aE=> ?_);clear hK K kL
  try simp only[Act.put,List.setIfInBounds_toArray,List.set_cons_succ,List.set_cons_zero]
  refine bC 11 aE ?_
  try simp only[Act.put,List.setIfInBounds_toArray,List.set_cons_succ,List.set_cons_zero]
  refine bC 12 aE ?_
  refine bC 13 aE ?_
  refine bC 14 aE ?_
  refine bC 15 aE ?_
  try simp only[Act.put,List.setIfInBounds_toArray,List.set_cons_succ,List.set_cons_zero]
  refine bC 16 aE ?_
  refine bC 17 aE ?_
  try simp only[Act.put,List.setIfInBounds_toArray,List.set_cons_succ,List.set_cons_zero]
  refine bC 18 aE ?_
  refine bC 19 aE ?_
  refine bC 20 aE ?_
  try simp only[Act.put,List.setIfInBounds_toArray,List.set_cons_succ,List.set_cons_zero]
  refine j7 [21] (j8 fun K hK=> ?_)
  go_simp
  refine (HC.out _ k1 h1).mono ?_
  rintro e w9 ⟨rfl,gI⟩
  have H9:=aa gI
  refine hK.out _ _ ⟨(gI.cell (World.block_lt_of_cell? _ _ aE.1)).trans aE.1,(gI.cell (World.block_lt_of_cell? _ _ aE.2.1)).trans aE.2.1,(gI.cell (World.block_lt_of_cell? _ _ aE.2.2.1)).trans aE.2.2.1,(gI.cell (World.block_lt_of_cell? _ _ aE.2.2.2)).trans aE.2.2.2⟩ (fun aE=> ?_);clear hK K gI
  try simp only[Act.put,List.setIfInBounds_toArray,List.set_cons_succ,List.set_cons_zero]
  refine bC 22 aE ?_
  refine bC 23 aE ?_
  refine bC 24 aE ?_
  refine wpAnyH_done (by kernel_rfl) ?_ _
  have HB:=aa ((HW.out.drew.trans (H8.out.mono (by simp only[World.size_drew,World.size_alloc];omega))).trans (H9.out.mono (Nat.le_trans (by simp only[World.size_drew,World.size_alloc];omega) H8.out.size)))
  go_wp2
  go_ret
  exact⟨rfl,HB.out⟩
 ·have h1:n.its.length=1:=by omega
  rw[h1] at c1 hcap
  generalize bs lo=l at*
  generalize bs hi=hh at*
  have HB:=aa ((Below.refl w.heap.size w).alloc (Nat.le_refl _) (.cells #[.string l,.string hh] 88))
  have vB:(1:Int)≤n.cap:=by omega
  have bY:=h.blk.lt
  clear h ha hne hl h1 hpos h2 hlv gz
  by_cases hc1:n.cap=1
  ·rw[hc1] at c1
   go_enter Tryz.func138,Tryz.ntmps138
   unfold ptr
   go_wp2_with fail
   go_quiet (fail)
   have kf:=aa (HB.out.trans (show Below w.heap.size _ ((w.alloc (.cells #[.string l,.string hh] 88)).drewN nq) from⟨rfl,rfl,rfl,Nat.le_refl _,fun _ _=>rfl⟩))
   go_wp2
   go_ret
   exact⟨rfl,kf.out⟩
  ·go_enter Tryz.func138,Tryz.ntmps138
   unfold ptr
   go_wp2_with fail
   go_quiet (fail)
   have kf:=aa (HB.out.trans (show Below w.heap.size _ ((w.alloc (.cells #[.string l,.string hh] 88)).drewN nq) from⟨rfl,rfl,rfl,Nat.le_refl _,fun _ _=>rfl⟩))
   go_wp2
   go_ret
   exact⟨rfl,kf.out⟩
end
theorem J9.le {l t:List UInt8} {c:UInt8} (h:J9 l c t):t.length≤l.length:=by
 obtain⟨m,_,rfl,_⟩:=h
 rw[List.length_take];exact Nat.min_le_right _ _
theorem y9 (s:ByteArray) (w:World) (hs:s.size≤9223372036854775807):
  Calls Tryz.prog 121 #[.string s,.string ⟨#[0]⟩] w fun e w'=>(∃t:ByteArray,e=.returned (.string t)∧(t.data.toList=[]↔Wl.blank s.data.toList=true))∧∃n,w'=w.drewN n:=by
 by_cases h0:s.size=0
 ·have hd:s.data.toList=[]:=List.eq_nil_of_length_eq_zero (by rw[Array.length_toList];exact h0)
  have hs1:s.toList.isEmpty=true:=by rw[ByteArray.toList_eq,hd];rfl
  have iU:s.toList=[]:=by rw[ByteArray.toList_eq,hd]
  have HD:=aa hd
  clear hd h0
  go_enter Tryz.func121,Tryz.ntmps121
  go_wp2
  go_ret
  refine⟨⟨s,rfl, ?_⟩,0,rfl⟩
  rw[HD.out];exact⟨fun _=>rfl,fun _=>rfl⟩
 ·have hs1:s.toList.isEmpty=false:=by
   rw[ByteArray.toList_eq,List.isEmpty_eq_false_iff]
   intro h
   apply h0
   have:=congrArg List.length h
   rw[Array.length_toList] at this
   exact this
  have iU:(!s.toList.isEmpty)=true:=by rw[hs1];rfl
  go_enter Tryz.func121,Tryz.ntmps121
  go_wp2
  go_region_held3 (fun _=>True) (exact trivial)
   (first
    |(go_at_call 169;refine (uE s 0 _ hs).mono ?_;rintro e w1 ⟨⟨t,rfl,ht⟩,rfl⟩)
    |(go_at_call 168;refine (wX t 0 _ ?_).mono ?_;(have:=ht.le;rw[Array.length_toList,Array.length_toList] at this;exact Nat.le_trans this hs);rintro e w2 ⟨⟨u,rfl,hu⟩,rfl⟩))
  all_goals (go_wp2;go_ret;exact⟨⟨u,rfl,Ga ht hu⟩,1,rfl⟩)
theorem Bo (s:ByteArray) (w:World) (hs:s.size≤9223372036854775807):
  Calls Tryz.prog 80 #[.string s] w fun e w'=>e=.returned (.bool (Wl.blank s.data.toList))∧∃n,w'=w.drewN n:=by
 go_enter Tryz.func80,Tryz.ntmps80
 go_wp2_with fail
 refine (y9 s w hs).mono ?_
 rintro e w1 ⟨⟨t,rfl,ht⟩,n,rfl⟩
 have HB:=aa (show t.toList.isEmpty=Wl.blank s.data.toList by
  rw[ByteArray.toList_eq,Bool.eq_iff_iff,List.isEmpty_iff];exact ht)
 clear ht
 go_wp2
 go_ret
 refine⟨fN ?_,n,rfl⟩
 rw[←HB.out]
theorem aj.Gp {w w' w'':World} {v:Value} (h:Below w.heap.size w w') (hb:aj (fun k=>v.ownBlock=some k) w' w'') (hv:∀k,v.ownBlock=some k→w.heap.size≤k):Below w.heap.size w w'':=
 h.trans (hb.below h.size (fun k hk e=>by have:=hv k e;omega))
theorem Bp (size ring at_ num:Nat):Wl.title++(([size,ring,at_,num]:List Nat).take 4).flatMap (Wl.enc 8)=Wl.first size ring at_ num:=by
 simp[Wl.first]
theorem D5 (l:List Nat) (k:Nat) (h:k<l.length):(l.take (k+1)).flatMap (Wl.enc 8)=(l.take k).flatMap (Wl.enc 8)++Wl.enc 8 l[k]:=by
 rw[List.take_succ_eq_append_getElem h,List.flatMap_append];simp
theorem Gq (l:List Nat):(l.flatMap (Wl.enc 8)).length=8*l.length:=by
 induction l with
 |nil=>rfl
 |cons a l ih=>rw[List.flatMap_cons,List.length_append,ih,Wl.jI,List.length_cons];omega
theorem uI (size ring at_ num:Nat) (w:World) (h1:size≤1000000) (h2:ring≤1000000) (h3:at_≤1000000) (h4:num<2^64):
  Calls Tryz.prog 83 #[.int .i64 size,.int .i64 ring,.agg #[.int .i64 at_,.int .u64 num]] w fun e w'=>e=.returned (.string (bs (Wl.first size ring at_ num)))∧Below w.heap.size w w':=by
 have HN:=aa (And.intro h1 (And.intro h2 (And.intro h3 h4)))
 have i1:(size:Int)≤1000000:=by omega
 have i2:(ring:Int)≤1000000:=by omega
 have i3:(at_:Int)≤1000000:=by omega
 clear h1 h2 h3 h4
 have kc:(convert 67 67 (.slice (some ⟨w.heap.size+1,0,none⟩) 14 14)).run Tryz.prog ((w.alloc (.cells #[.int .i64 at_,.int .u64 num] 118)).alloc (.cells #[.int .u8 99,.int .u8 111,.int .u8 111,.int .u8 112,.int .u8 101,.int .u8 114,.int .u8 97,.int .u8 103,.int .u8 101,.int .u8 32,.int .u8 108,.int .u8 111,.int .u8 103,.int .u8 10] 5))=.ok (.slice (some ⟨w.heap.size+1,0,none⟩) 14 14) ((w.alloc (.cells #[.int .i64 at_,.int .u64 num] 118)).alloc (.cells #[.int .u8 99,.int .u8 111,.int .u8 111,.int .u8 112,.int .u8 101,.int .u8 114,.int .u8 97,.int .u8 103,.int .u8 101,.int .u8 32,.int .u8 108,.int .u8 111,.int .u8 103,.int .u8 10] 5 (14,15))):=by
  have:=Lib.run_convert_bytes_const (P:=Tryz.prog) (w.alloc (.cells #[.int .i64 at_,.int .u64 num] 118)) 67 5 #[.int .u8 99,.int .u8 111,.int .u8 111,.int .u8 112,.int .u8 101,.int .u8 114,.int .u8 97,.int .u8 103,.int .u8 101,.int .u8 32,.int .u8 108,.int .u8 111,.int .u8 103,.int .u8 10] 14 14 Tryz.underlying67 Tryz.underlying5
  rw[World.size_alloc] at this
  exact this
 go_enter Tryz.func83,Tryz.ntmps83
 go_wp2
 obtain⟨V,hV⟩:∃V,V=(((w.alloc (.cells #[.int .i64 at_,.int .u64 num] 118)).alloc (.cells #[.int .u8 99,.int .u8 111,.int .u8 111,.int .u8 112,.int .u8 101,.int .u8 114,.int .u8 97,.int .u8 103,.int .u8 101,.int .u8 32,.int .u8 108,.int .u8 111,.int .u8 103,.int .u8 10] 5 (14,15))).alloc (.cells #[.int .u64 size,.int .u64 ring,.int .u64 at_,.int .u64 num] 116)):=⟨_,rfl⟩
 rw[←hV]
 have HW:=aa (show Below w.heap.size w V by rw[hV];exact (((Below.refl _ _).alloc (Nat.le_refl _) _).alloc (by simp) _).alloc (by simp;omega) _)
 have HO:=aa (show dL false 0 V (.slice (some ⟨w.heap.size+1,0,none⟩) 14 14) Wl.title by
  have:=(dL.const (w.alloc (.cells #[.int .i64 at_,.int .u64 num] 118)) Wl.title (by decide)).alloc (.cells #[.int .u64 size,.int .u64 ring,.int .u64 at_,.int .u64 num] 116)
  rw[World.size_alloc] at this
  rw[hV];exact this)
 have HB:=aa (show aG V (w.heap.size+1+1) 116 ([size,ring,at_,num].map fun (n:Nat)=>Value.int .u64 (n:Int)) by
  have:=aG.new ((w.alloc (.cells #[.int .i64 at_,.int .u64 num] 118)).alloc (.cells #[.int .u8 99,.int .u8 111,.int .u8 111,.int .u8 112,.int .u8 101,.int .u8 114,.int .u8 97,.int .u8 103,.int .u8 101,.int .u8 32,.int .u8 108,.int .u8 111,.int .u8 103,.int .u8 10] 5 (14,15))) #[.int .u64 size,.int .u64 ring,.int .u64 at_,.int .u64 num] 116
  rw[World.size_alloc,World.size_alloc] at this
  rw[hV];exact this)
 have HL:=aa (show ∀n∈[size,ring,at_,num],n<2^64 by
  intro n hn
  obtain⟨h1,h2,h3,h4⟩:=HN.out
  simp only[List.mem_cons,List.not_mem_nil,or_false] at hn
  rcases hn with rfl|rfl|rfl|rfl<;>omega)
 have HS:=aa (show V.heap.size=w.heap.size+3 by rw[hV];simp)
 clear hV kc
 go_loopw [7,23] (fun u i wr=>∃k:Nat,k≤4∧i=.int .i64 k∧Hid (dL false 0 wr u (Wl.title++([size,ring,at_,num].take k).flatMap (Wl.enc 8)))∧Hid (∀x,u.ownBlock=some x→w.heap.size≤x)∧Hid (Below w.heap.size w wr)∧Hid (aG wr (w.heap.size+1+1) 116 ([size,ring,at_,num].map fun (n:Nat)=>Value.int .u64 (n:Int)))∧Hid (w.heap.size+3≤wr.heap.size)) (fun _ i _=>4-(RowKit.intOf i).toNat)
 case atStart=>exact⟨0,by decide,rfl,aa (by rw[List.take_zero,List.flatMap_nil,List.append_nil];exact HO.out),aa (fun x hx=>by simp[Value.ownBlock] at hx;omega),HW,HB,aa (by have:=HS.out;omega)⟩
 case round=>
  obtain⟨k,hk,rfl,ho,hx,hw,hb,hsz⟩:=hrel
  by_cases hlt:k<4
  ·have hI:(k:Int)<4:=by omega
   have hcell:wr.cell? ⟨w.heap.size+1+1,k,none⟩=some (.int .u64 (([size,ring,at_,num]:List Nat)[k]:Int)):=hb.out.cell (by rw[List.getElem?_map,List.getElem?_eq_getElem hlt];rfl)
   have L0:=aa (HL.out _ (List.getElem_mem hlt))
   have HT:=aa (D5 [size,ring,at_,num] k hlt)
   have ZY:=aa (Gq (([size,ring,at_,num]:List Nat).take k))
   generalize ([size,ring,at_,num]:List Nat)[k]=n at*
   go_wp2_with fail
   refine (pS false 0 wr _ _ n 8 ho.out (Nat.zero_le _) (by rw[List.length_append,ZY.out,List.length_take];have:Wl.title.length=14:=rfl;omega) L0.out (by decide)).mono ?_
   rintro e w1 ⟨v1,rfl,pJ,Kl,PI⟩
   have HR:=aa (show dL false 0 w1 v1 (Wl.title++([size,ring,at_,num].take (k+1)).flatMap (Wl.enc 8))∧(∀x,v1.ownBlock=some x→w.heap.size≤x)∧Below w.heap.size w w1∧aG w1 (w.heap.size+1+1) 116 ([size,ring,at_,num].map fun (n:Nat)=>Value.int .u64 (n:Int))∧w.heap.size+3≤w1.heap.size from⟨by rw[HT.out,←List.append_assoc];exact pJ,fun x hx'=>by
     rcases PI with h|h
     ·rw[h] at hx';exact hx.out x hx'
     ·have:=h x hx';have:=hsz.out;omega,aj.Gp hw.out Kl hx.out,hb.out.but Kl (fun e=>by
      obtain⟨cur,fz,h5⟩:=ho.out.typed e
      have:=hb.out
      unfold aG at this
      rw[this] at h5
      injection h5 with h5
      injection h5 with _ h5
      cases h5),Nat.le_trans hsz.out Kl.size⟩)
   clear pJ Kl PI hcell
   go_wp2
   go_roundw
   case rel=>exact⟨k+1,by omega,by go_num,aa HR.out.1,aa HR.out.2.1,aa HR.out.2.2.1,aa HR.out.2.2.2.1,aa HR.out.2.2.2.2⟩
   case measure=>simp[RowKit.intOf];omega
  ·have MW:k=4:=by omega
   subst MW
   have hbk:=ho.out.back
   rw[Bp] at hbk
   go_wp2
   go_ret
   exact⟨rfl,hw.out⟩
theorem vC (w:World) (F:Nat→Prop) (b g:Nat) (s:Wl.Lg) (hl:Log w F b g s):
  Calls Tryz.prog 187 #[ptr b] w fun e w'=>e=.returned (.bool s.off)∧w'=w:=by
 obtain⟨mb,FD,h⟩:=hl
 have c0:=h.c0
 have c7:=h.c7
 have HS:=aa h.sec
 clear h
 unfold Wl.Lg.off
 cases hd:s.down
 ·rw[hd] at c7
  go_enter Tryz.func187,Tryz.ntmps187
  unfold ptr
  go_wp2_with fail
  refine (dh _ _ _ _ HS.out).mono ?_
  rintro e w1 ⟨rfl,rfl⟩
  go_wp2
  go_ret
  exact⟨rfl,rfl⟩
 ·rw[hd] at c7
  go_enter Tryz.func187,Tryz.ntmps187
  unfold ptr
  go_wp2
  go_ret
  exact⟨rfl,rfl⟩
theorem lX (w:World) (F:Nat→Prop) (b g:Nat) (s:Wl.Lg) (hl:Log w F b g s):
  Calls Tryz.prog 79 #[ptr b] w fun e w'=>e=.returned (.int .i64 s.homes)∧w'=w:=by
 obtain⟨mb,FD,h⟩:=hl
 have c2:=h.c2
 clear h
 go_enter Tryz.func79,Tryz.ntmps79
 unfold ptr
 go_wp2
 go_ret
 exact⟨rfl,rfl⟩
def Wl.Lg.has (s:Wl.Lg) (i:Int):Bool:=decide (0≤i)&&decide (i<s.homes)
theorem Gr (w:World) (F:Nat→Prop) (b g:Nat) (s:Wl.Lg) (i:Int) (hl:Log w F b g s):
  Calls Tryz.prog 188 #[ptr b,.int .i64 i] w fun e w'=>e=.returned (.bool (s.has i))∧w'=w:=by
 obtain⟨mb,FD,h⟩:=hl
 have c2:=h.c2
 clear h
 unfold Wl.Lg.has
 by_cases hi:0≤i
 ·go_enter Tryz.func188,Tryz.ntmps188
  unfold ptr
  go_wp2
  go_ret
  refine⟨fN ?_,rfl⟩
  simp[hi]
 ·go_enter Tryz.func188,Tryz.ntmps188
  unfold ptr
  go_wp2
  go_ret
  refine⟨fN ?_,rfl⟩
  simp only[Bool.false_eq,Bool.and_eq_false_iff,decide_eq_false_iff_not]
  omega
theorem xe (w:World) (F:Nat→Prop) (b g:Nat) (s:Wl.Lg) (i:Nat) (hl:Log w F b g s) (hr:s.ring≤4096) (hi:i≤1000000):
  Calls Tryz.prog 189 #[ptr b,.int .i64 i] w fun e w'=>e=.returned (.int .i64 ((1+s.ring+i:Nat):Int))∧w'=w:=by
 obtain⟨mb,FD,h⟩:=hl
 have c1:=h.c1
 clear h
 have hr':(s.ring:Int)≤4096:=by omega
 have hi':(i:Int)≤1000000:=by omega
 go_enter Tryz.func189,Tryz.ntmps189
 unfold ptr
 go_wp2
 go_ret
 exact⟨FN (by omega),rfl⟩
end Go.Proofs.YtloekpcncjocaaaGreatDoor
namespace Go.Proofs.YtloekpcncjocaaaGreatDoor
open Go.RowKit Go.Shelf Lib
attribute [local go_sem] Oper.semAt_some
def Gs (l:List UInt8) (pre:List Nat):List (List UInt8):=pre.map fun k=>112::((l.drop (511*k)).take 511)
def LI (w:World) (p:Nat) (g:Wl.cY) (dg dc:Nat) (cur:Array Value) (pre:List Nat) (W:World):Prop:=
 ((∃v,Boxed W p 182 v∧W.ownsRow p 9 1 v pre.length ((Gs (Wl.pack g) pre).map fun t=>Value.string (bs t))∧True)∧
  (Boxed W (p+1) 67 (.slice (some ⟨dg,0,none⟩) (Wl.pack g).length dc)∧Boxed W (p+1+1) 3 (.int .i64 511)∧W.heap[dg]?=some (.cells cur 5 (0,0))))∧Below w.heap.size w W
end Go.Proofs.YtloekpcncjocaaaGreatDoor
namespace Go.Proofs.YtloekpcncjocaaaGreatDoor
open Go.RowKit Lib
theorem Wl.Lg.vD (s:Wl.Lg):s.with (s.down,s.d)=s:=by cases s;rfl
theorem Bq (w:World) (F:Nat→Prop) (b g:Nat) (s:Wl.Lg) (i:Nat) (t:ByteArray) (hl:Log w F b g s) (hn:s.d.loose.length≤900000000):
  Calls Tryz.prog 82 #[ptr b,.int .i64 i,.string t] w fun e w'=>e=.returned (.tuple #[])∧∃F',Log w' F' b g (s.with (Wl.wr (s.down,s.d) (i,t.data.toList)))∧aW F w F' w':=by
 obtain⟨mb,FD,h⟩:=hl
 have c0:=h.c0
 have c7:=h.c7
 have HH:=aa h
 clear h
 by_cases hd:s.down=true
 ·have HR:s.with (Wl.wr (s.down,s.d) (i,t.data.toList))=s:=by
   rw[hd,Wl.JX,←hd,Wl.Lg.vD]
  rw[HR]
  clear HR
  rw[hd] at c7
  clear hd
  go_enter Tryz.func82,Tryz.ntmps82
  unfold ptr
  go_wp2
  refine bodyPost_end (results_none rfl _ _ _) rfl ?_
  exact⟨rfl,F,HH.out.log,aW.refl _ _⟩
 ·have Km:s.down=false:=by simpa using hd
  have HR:s.with (Wl.wr (s.down,s.d) (i,t.data.toList))={s with down:=decide ((s.d.write i t.data.toList).1≠0),d:=(s.d.write i t.data.toList).2}:=by
   unfold Wl.wr Wl.Lg.with
   rw[Km]
   rfl
  rw[HR]
  rw[Km] at c7
  have HW:=aa (aa Km)
  clear HR hd Km
  go_enter Tryz.func82,Tryz.ntmps82
  unfold ptr
  go_wp2_with fail
  refine (DH w FD g s.d i t HH.out.sec hn).mono ?_
  rintro e w1 ⟨rfl,Fx,hs1,hm1⟩
  obtain⟨hp,hm⟩:=HH.out.turned hs1 hm1
  have k7:=hp.c7
  have f7:=hp.blk.frozen 7
  have e7:({s with d:=(s.d.write i t.data.toList).2}:Wl.Lg).down=false:=HW.out.out
  rw[e7] at k7
  have HP:=aa (And.intro hp hm)
  clear hs1 hm1 hp hm e7
  generalize hq:s.d.write i t.data.toList=q at*
  obtain⟨c,d'⟩:=q
  simp only at HP ⊢
  have HQ:=aa hq
  clear hq c0 c7
  by_cases hc:c=0
  ·subst hc
   go_wp2
   refine bodyPost_end (results_none rfl _ _ _) rfl ?_
   refine⟨rfl,_, ?_,HP.out.2⟩
   rw[HQ.out]
   have e:({s with down:=decide ((0:Int)≠0),d:=d'}:Wl.Lg)={s with d:=d'}:=by
    have:=HW.out.out
    cases s;simp only at this;subst this;rfl
   rw[e]
   exact HP.out.1.log
  ·have hc1:(c !=0)=true:=by rw[bne_iff_ne];exact hc
   have vg:(c==0)=false:=beq_eq_false_iff_ne.2 hc
   have HC:=aa hc
   clear hc
   go_wp2
   refine bodyPost_end (results_none rfl _ _ _) rfl ?_
   rw[HQ.out]
   have hs:=HP.out.1.set 7 (.bool true) {s with down:=decide (c≠0),d:=d'} (by rw[decide_eq_true HC.out];rfl) rfl rfl
   exact⟨rfl,_,hs.1.log,HP.out.2.trans hs.2⟩
theorem Br (w:World) (F:Nat→Prop) (b g:Nat) (s:Wl.Lg) (hl:Log w F b g s):
  Calls Tryz.prog 56 #[ptr b] w fun e w'=>e=.returned (.tuple #[])∧∃F',Log w' F' b g (s.with (Wl.fl (s.down,s.d)))∧aW F w F' w':=by
 obtain⟨mb,FD,h⟩:=hl
 have c0:=h.c0
 have c7:=h.c7
 have HH:=aa h
 clear h
 by_cases hd:s.down=true
 ·have HR:s.with (Wl.fl (s.down,s.d))=s:=by
   rw[hd,Wl.JY,←hd,Wl.Lg.vD]
  rw[HR]
  clear HR
  rw[hd] at c7
  clear hd
  go_enter Tryz.func56,Tryz.ntmps56
  unfold ptr
  go_wp2
  refine bodyPost_end (results_none rfl _ _ _) rfl ?_
  exact⟨rfl,F,HH.out.log,aW.refl _ _⟩
 ·have Km:s.down=false:=by simpa using hd
  have HR:s.with (Wl.fl (s.down,s.d))={s with down:=decide (s.d.flush.1≠0),d:=s.d.flush.2}:=by
   unfold Wl.fl Wl.Lg.with
   rw[Km]
   rfl
  rw[HR]
  rw[Km] at c7
  have HW:=aa (aa Km)
  clear HR hd Km
  go_enter Tryz.func56,Tryz.ntmps56
  unfold ptr
  go_wp2_with fail
  refine (DJ w FD g s.d HH.out.sec).mono ?_
  rintro e w1 ⟨rfl,hs1,hm1⟩
  obtain⟨hp,hm⟩:=HH.out.turned hs1 hm1
  have k7:=hp.c7
  have f7:=hp.blk.frozen 7
  have e7:({s with d:=s.d.flush.2}:Wl.Lg).down=false:=HW.out.out
  rw[e7] at k7
  have HP:=aa (And.intro hp hm)
  clear hs1 hm1 hp hm e7
  generalize hq:s.d.flush=q at*
  obtain⟨c,d'⟩:=q
  simp only at HP ⊢
  have HQ:=aa hq
  clear hq c0 c7
  by_cases hc:c=0
  ·subst hc
   go_wp2
   refine bodyPost_end (results_none rfl _ _ _) rfl ?_
   refine⟨rfl,_, ?_,HP.out.2⟩
   rw[HQ.out]
   have e:({s with down:=decide ((0:Int)≠0),d:=d'}:Wl.Lg)={s with d:=d'}:=by
    have:=HW.out.out
    cases s;simp only at this;subst this;rfl
   rw[e]
   exact HP.out.1.log
  ·have hc1:(c !=0)=true:=by rw[bne_iff_ne];exact hc
   have vg:(c==0)=false:=beq_eq_false_iff_ne.2 hc
   have HC:=aa hc
   clear hc
   go_wp2
   refine bodyPost_end (results_none rfl _ _ _) rfl ?_
   rw[HQ.out]
   have hs:=HP.out.1.set 7 (.bool true) {s with down:=decide (c≠0),d:=d'} (by rw[decide_eq_true HC.out];rfl) rfl rfl
   exact⟨rfl,_,hs.1.log,HP.out.2.trans hs.2⟩
theorem Gt (w:World) (F:Nat→Prop) (b g:Nat) (s:Wl.Lg) (i:Int) (hl:Log w F b g s):
  Calls Tryz.prog 81 #[ptr b,.int .i64 i] w fun e w'=>e=.returned (.string (bs (s.d.read i).1))∧w'=w:=by
 obtain⟨mb,FD,h⟩:=hl
 have c0:=h.c0
 have HS:=aa h.sec
 clear h
 go_enter Tryz.func81,Tryz.ntmps81
 unfold ptr
 go_wp2_with fail
 refine (yJ w FD g s.d i HS.out).mono ?_
 rintro e w1 ⟨rfl,rfl⟩
 go_wp2
 go_ret
 exact⟨rfl,rfl⟩
theorem Dk.Kn {d:Dk.bp} (ho:d.off=false) {i:Nat} (h:i<d.dK.length):d.read i=(d.now.getD i [],0):=by
 unfold Dk.bp.read
 rw[ho,if_neg (by decide),if_pos (by simp[Dk.bp.has,h])]
 rfl
theorem Dk.CQ {d:Dk.bp} (ho:d.off=false) {i:Nat} {t:List UInt8} (h:d.now[i]?=some t):d.read i=(t,0):=by
 have hl:i<d.dK.length:=by
  have:=(List.getElem?_eq_some_iff.1 h).1
  rw[Dk.bp.now,Dk.eL] at this
  exact this
 rw[Dk.Kn ho hl,List.getD_eq_getElem?_getD,h];rfl
theorem Log.c3 {w:World} {F:Nat→Prop} {b g:Nat} {s:Wl.Lg} (h:Log w F b g s):w.cell? ⟨b,3,none⟩=some (.int .i64 s.place):=by obtain⟨_,_,h⟩:=h;exact h.c3
theorem Log.c4 {w:World} {F:Nat→Prop} {b g:Nat} {s:Wl.Lg} (h:Log w F b g s):w.cell? ⟨b,4,none⟩=some (.int .u64 s.num):=by obtain⟨_,_,h⟩:=h;exact h.c4
theorem Log.c7 {w:World} {F:Nat→Prop} {b g:Nat} {s:Wl.Lg} (h:Log w F b g s):w.cell? ⟨b,7,none⟩=some (.bool s.down):=by obtain⟨_,_,h⟩:=h;exact h.c7
theorem kj {B:Nat} {w:World} {v:Value} {l:List UInt8} {ops:Array Oper} {rest:List Oper} {o:Oper} {a:Act} {Q:Exit→Act→World→Prop} (hgd:o.guard=none) (s x:Operand)
  (ho:o.op=.call {callee:=.builtin .append,args:=#[s,x],argTypes:=#[67,9]})
  (hs:a.eval s=v) (hown:Bb B w v l) (hB:B≤w.heap.size) (t:ByteArray) (hx:a.eval x=.string t) (hlen:l.length+t.size≤900000000)
  (h:∀v' w',Bb B w' v' (l++t.data.toList)→w.grownBy w' v.ownBlock→wpList Tryz.prog ops Q rest (a.put o.dst v') w'):wpList Tryz.prog ops Q (o::rest) a w:=by
 obtain⟨i,hi,hz,hsz,hby⟩:=lN (P:=Tryz.prog) (E:=5) (size:=1) (bytes:=1) (z:=.int .u8 0) (by kernel_rfl)
 refine wpList_append_own_string w hgd s x 67 9 ho B 5 i Tryz.underlying67 Tryz.underlying9 hi hz hsz hby v l.length (eY.cells l) hs hown t hx (by unfold maxLen;omega) (by omega) hB ?_
 intro v' w' h1 h2 _
 refine h v' w' ?_ h2
 unfold Bb Own
 rw[eY.bh,List.length_append,show eY.cells t.data.toList=strCells t from bP _ _ _,Array.length_toList]
 exact h1
theorem Gu (W:World) (gg o cp:Nat) (l:List UInt8) (hc:∀x (hx:x<l.length),W.cell? ⟨gg,o+x,none⟩=some (aR l[x])):
  (convert 67 9 (.slice (some ⟨gg,o,none⟩) l.length cp)).run Tryz.prog W=.ok (.string (bs l)) W:=
 run_convert_bytes_back (P:=Tryz.prog) W 67 9 5 ⟨gg,o,none⟩ cp l (by kernel_rfl) (by kernel_rfl) (by kernel_rfl) (by
  intro j hj
  rw[show (⟨gg,o,none⟩:Addr).add j=⟨gg,o+j,none⟩ by unfold Addr.add;split<;>simp_all]
  exact hc j hj)
def cJ (i:It):List UInt8:=fk i.key i.val
def bH (level:Nat) (l:List It):List UInt8:=UInt8.ofNat (192+level)::UInt8.ofNat l.length::l.flatMap cJ
theorem ej:∀l:List It,(l.flatMap cJ).length=bz l
 |[]=>rfl
 |i::l=>by
  rw[List.flatMap_cons,List.length_append,ej l]
  show (fk i.key i.val).length+_=gh i+_
  rw[eD];rfl
theorem iW (level:Nat) (l:List It):(bH level l).length=2+bz l:=by
 show (l.flatMap cJ).length+1+1=_
 rw[ej];omega
section
variable {w w':World} {p q:Nat} {n m:NV}
theorem uJ (h:Nd w p n) (ni:n.level≤15) (hlen:n.its.length≤255) (qU:∀i∈n.its,i.key.length≤96∧i.val.length≤56):
  Calls Tryz.prog 152 #[ptr p] w fun e w'=>e=.returned (.string (bs (bH n.level n.its)))∧Below w.heap.size w w':=by
 have c0:=h.c0
 have c1:=h.c1
 have bY:=h.blk.lt
 have gz:(n.its.length:Int)≤255:=by omega
 have Jx:(n.level:Int)≤15:=by omega
 have hw1:IntKind.u8.wrap (n.level:Int)=n.level:=by
  have e:(n.level:Int)%2^8=n.level:=Int.emod_eq_of_lt (by omega) (by omega)
  simp only[IntKind.wrap,IntKind.bits,IntKind.signed,e]
  simp
 have gy:IntKind.u8.wrap (192+(n.level:Int))=192+n.level:=by
  have e:(192+(n.level:Int))%2^8=192+n.level:=Int.emod_eq_of_lt (by omega) (by omega)
  simp only[IntKind.wrap,IntKind.bits,IntKind.signed,e]
  simp
 have lU:IntKind.u8.wrap (n.its.length:Int)=n.its.length:=by
  have e:(n.its.length:Int)%2^8=n.its.length:=Int.emod_eq_of_lt (by omega) (by omega)
  simp only[IntKind.wrap,IntKind.bits,IntKind.signed,e]
  simp
 have HN:=aa h
 have HS:=aa qU
 have nj:=aa hlen
 have HV:=aa ni
 obtain⟨L,hL⟩:∃L,L=n.its.length:=⟨_,rfl⟩
 rw[←hL] at c1 gz lU
 have HL:=aa hL
 clear h qU hlen ni hL
 go_enter Tryz.func152,Tryz.ntmps152
 unfold ptr
 go_wp2_with fail
 go_region
 obtain⟨W,hW⟩:∃W,W=(w.alloc (.cells #[.int .u8 (192+(n.level:Int)),.int .u8 (L:Int)] 5)).drew:=⟨_,rfl⟩
 have hbW:Below w.heap.size w W:=by rw[hW];exact ((Below.refl _ w).alloc (Nat.le_refl _) _).drew
 have L3:(2:Nat)≤maxLen:=by decide
 have HW:=aa (show Bb w.heap.size W (.slice (some ⟨w.heap.size,0,none⟩) 2 2) [UInt8.ofNat (192+n.level),UInt8.ofNat L]∧Below w.heap.size w W by
  refine⟨?_,hbW⟩
  refine⟨rfl,.inr ⟨w.heap.size,2,#[.int .u8 (192+(n.level:Int)),.int .u8 (L:Int)],rfl,Nat.le_refl _,by rw[hW];exact heap_alloc_new w _,Nat.le_refl _,L3,rfl, ?_⟩⟩
  show [Value.int .u8 (192+(n.level:Int)),.int .u8 (L:Int)]=[aR _,aR _]
  unfold aR
  rw[UInt8.toNat_ofNat',UInt8.toNat_ofNat',Nat.mod_eq_of_lt (by have:=HV.out;omega),Nat.mod_eq_of_lt (by have:=nj.out;have:=HL.out;omega)]
  simp)
 have d0:=(hbW.cell (p:=⟨p,0,none⟩) bY).trans c0
 have d1:=(hbW.cell (p:=⟨p,1,none⟩) bY).trans c1
 rw[←hW]
 obtain⟨U,hU⟩:∃U,U=w.heap.size:=⟨_,rfl⟩
 rw[←hU] at HW ⊢
 have HU:=aa hU
 clear hW hbW c0 c1 hU L3
 go_wp2
 go_loopw [3,24] (fun u iv wr=>∃j:Nat,j≤L∧iv=.int .i64 j∧Hid (Bb U wr u (UInt8.ofNat (192+n.level)::UInt8.ofNat L::(n.its.take j).flatMap cJ))∧Hid (Below U w wr)) (fun _ iv _=>L-(RowKit.intOf iv).toNat)
 case atStart=>exact⟨0,Nat.zero_le _,rfl,aa HW.out.1,aa HW.out.2⟩
 case round=>
  obtain⟨j,hj,rfl,hO,hB⟩:=hrel
  by_cases hlt:j<L
  ·have ng:(j:Int)<L:=by omega
   have hjl:j<n.its.length:=by rw[←HL.out];exact hlt
   obtain⟨a0,a1,a2⟩:=aH (cN HN.out.row (by rw[←HU.out];exact hB.out)) j hjl
   have he:=HS.out _ (List.getElem_mem hjl)
   have HJ:=aa (show j<L∧(n.its.take (j+1)).flatMap cJ=(n.its.take j).flatMap cJ++cJ n.its[j]∧((n.its.take j).flatMap cJ).length≤160800 from⟨hlt,by rw[List.take_succ_eq_append_getElem hjl,List.flatMap_append];simp,by rw[ej];exact HN.out.small.part j⟩)
   generalize n.its[j]=it at*
   clear hlt hj hjl
   obtain⟨gu,cu,hv,Xt,Xu,TX⟩:=Own.form hO.out (by simp)
   obtain⟨N,hN⟩:∃N,N=(UInt8.ofNat (192+n.level)::UInt8.ofNat L::(n.its.take j).flatMap cJ).length:=⟨_,rfl⟩
   rw[←hN] at hv
   have HNN:=aa hN
   clear hN
   subst hv
   obtain⟨W1,gP⟩:∃W1,W1=(wr.alloc (.cells #[.string (bs it.key),.string (bs it.val),.pointer (pa it.node)] 95)).alloc (.cells #[.int .u8 (((bs it.key).size:Int)%256),.int .u8 (((bs it.val).size:Int)%256)] 5):=⟨_,rfl⟩
   obtain⟨g,hg⟩:∃g,g=wr.heap.size:=⟨_,rfl⟩
   have hblk:aG W1 g 95 [.string (bs it.key),.string (bs it.val),.pointer (pa it.node)]:=by rw[gP,hg];exact (aG.new wr _ _).alloc _
   have k1:W1.cell? ⟨g,0,none⟩=some (.string (bs it.key)):=by rw[gP,hg];exact ((aG.new wr _ _).alloc _).cell rfl
   have k2:W1.cell? ⟨g,1,none⟩=some (.string (bs it.val)):=by rw[gP,hg];exact ((aG.new wr _ _).alloc _).cell rfl
   have kg:aJ eY W1 (g+1) 0 [UInt8.ofNat it.key.length,UInt8.ofNat it.val.length]:=by
    rw[gP,hg]
    have:=aG.new (wr.alloc (.cells #[.string (bs it.key),.string (bs it.val),.pointer (pa it.node)] 95)) #[.int .u8 (((bs it.key).size:Int)%256),.int .u8 (((bs it.val).size:Int)%256)] 5
    rw[World.size_alloc] at this
    refine aJ.dI this ?_
    show [_,_]=[aR _,aR _]
    unfold aR
    rw[UInt8.toNat_ofNat',UInt8.toNat_ofNat',aB,aB]
    simp
   have hs1:W1.heap.size=g+2:=by rw[gP,hg];simp[World.size_alloc]
   have H1:=aa (show Bb U W1 (.slice (some ⟨gu,0,none⟩) N cu) (UInt8.ofNat (192+n.level)::UInt8.ofNat L::(n.its.take j).flatMap cJ)∧Below U w W1∧aJ eY W1 (g+1) 0 [UInt8.ofNat it.key.length,UInt8.ofNat it.val.length]∧gu<g∧W1.heap.size=g+2∧U≤g from⟨by rw[gP];exact (hO.out.alloc _).alloc _,by
    rw[gP]
    have:=hB.out.size
    have h0:=(HU.out▸hB.out.size:U≤wr.heap.size)
    exact (hB.out.alloc h0 _).alloc (by simp only[World.size_alloc];omega) _,kg,by rw[hg];exact Xu,hs1,by rw[hg];exact HU.out▸hB.out.size⟩)
   have sC:=aa (And.intro gP hg)
   have ZZ:=aa hblk
   have gH:(bs it.key).size≤96∧(bs it.val).size≤56:=by rw[aB,aB];exact he
   have HE:=aa gH
   clear gP hg kg hs1 he gH hblk
   go_wp2_with (at_builtin;refine Hid.out ?_)
   refine aa ?_
   rw[←sC.out.2,←sC.out.1]
   clear a0 a1 a2
   have hlen:(UInt8.ofNat (192+n.level)::UInt8.ofNat L::(n.its.take j).flatMap cJ).length≤200000:=by
    have:=HJ.out.2.2
    simp only[List.length_cons];omega
   refine mZ (K:=eY) M8 rfl _ _ rfl rfl H1.out.1 (by have:=H1.out.2.2.2.2;omega) (g+1) 0 2 2 [UInt8.ofNat it.key.length,UInt8.ofNat it.val.length] rfl rfl H1.out.2.2.1 (by omega) ?_
   intro v2 w2 cR cP
   have Nb:W1.grownBy w2 (some gu):=cP
   have aC:aj (fun k=>k=gu) W1 w2:=(aj.refl _ W1).grown Nb fun k e _=>(Option.some.inj e).symm
   have Ko:=aa (ZZ.out.but aC (by have:=H1.out;omega))
   have kf:=aa (H1.out.2.1.grown Nb (by have:=H1.out;omega) fun k e=>by cases e;exact Xt)
   obtain⟨l2,hl2⟩:∃l2,l2=(UInt8.ofNat (192+n.level)::UInt8.ofNat L::(n.its.take j).flatMap cJ)++[UInt8.ofNat it.key.length,UInt8.ofNat it.val.length]:=⟨_,rfl⟩
   rw[←hl2] at cR
   have OT:=aa hl2
   have Gv:l2.length≤200002:=by rw[hl2,List.length_append];simp only[List.length_cons,List.length_nil] at hlen ⊢;omega
   have qW:=Own.bK cR Ko.out (by decide)
   have iU:=Own.block cR
   have k3:=Ko.out.cell (j:=0) rfl
   have k4:=Ko.out.cell (j:=1) rfl
   have H2:=aa (And.intro cR (And.intro qW iU))
   clear hl2 cR qW iU cP Nb aC k1 k2
   go_wp2_with (at_builtin;refine Hid.out ?_)
   refine aa ?_
   refine kj rfl _ _ rfl rfl H2.out.1 (by have:=kf.out.size;have:=HU.out;omega) (bs it.key) rfl (by have:=HE.out;omega) ?_
   intro v3 w3 L4 yE
   have Nc:w2.grownBy w3 v2.ownBlock:=yE
   have cC:aj (fun k=>v2.ownBlock=some k) w2 w3:=(aj.refl _ w2).grown Nc fun k e _=>e
   have Nf:=aa (Ko.out.but cC (fun e=>H2.out.2.1 e))
   have Gw:=aa (kf.out.grown Nc (by have:=kf.out.size;have:=HU.out;omega) fun k e=>(H2.out.2.2 k e).1)
   rw[cj] at L4
   have PJ:=Own.bK L4 Nf.out (by decide)
   have L5:=Own.block L4
   have k5:=Nf.out.cell (j:=0) rfl
   have k6:=Nf.out.cell (j:=1) rfl
   have H3:=aa (And.intro L4 (And.intro PJ L5))
   clear L4 PJ L5 yE Nc cC k3 k4
   go_wp2_with (at_builtin;refine Hid.out ?_)
   refine aa ?_
   refine kj rfl _ _ rfl rfl H3.out.1 (by have:=Gw.out.size;have:=HU.out;omega) (bs it.val) rfl (by rw[List.length_append];have:=HE.out;rw[aB,aB] at this;rw[aB];omega) ?_
   intro v4 w4 Bt nV
   have PK:w3.grownBy w4 v3.ownBlock:=nV
   have PL:=aa (Gw.out.grown PK (by have:=Gw.out.size;have:=HU.out;omega) fun k e=>(H3.out.2.2 k e).1)
   rw[cj] at Bt
   have H4:=aa (show Bb U w4 v4 (UInt8.ofNat (192+n.level)::UInt8.ofNat L::(n.its.take (j+1)).flatMap cJ) by
    rw[HJ.out.2.1]
    have:=Bt
    rw[OT.out] at this
    simpa[cJ,fk] using this)
   clear Bt nV PK k5 k6
   go_wp2
   go_roundw
   case rel=>exact⟨j+1,HJ.out.1,by go_num,H4,PL⟩
   case measure=>have:=HJ.out.1;simp[RowKit.intOf];omega
  ·have ng:¬(j:Int)<L:=by omega
   obtain⟨gu,cu,hv,Xt,Xu,TX⟩:=Own.form hO.out (by simp)
   have PM:(UInt8.ofNat (192+n.level)::UInt8.ofNat L::(n.its.take j).flatMap cJ)=bH n.level n.its:=by
    rw[List.take_of_length_le (by rw[←HL.out];omega),HL.out];rfl
   rw[PM] at hO hv
   obtain⟨N,hN⟩:∃N,N=(bH n.level n.its).length:=⟨_,rfl⟩
   rw[←hN] at hv
   subst hv
   have PN:(convert 67 9 (.slice (some ⟨gu,0,none⟩) N cu)).run Tryz.prog wr=.ok (.string (bs (bH n.level n.its))) wr:=by
    rw[hN]
    refine Gu wr gu 0 cu _ fun x hx=> ?_
    rw[hN] at hO
    have:=Own.lies hO.out x (aR (bH n.level n.its)[x]) (by rw[show eY.cells (bH n.level n.its)=(bH n.level n.its).map aR from bP _ _ _,List.getElem?_map,List.getElem?_eq_getElem hx];rfl)
    exact this
   obtain⟨R,hR⟩:∃R,R=bs (bH n.level n.its):=⟨_,rfl⟩
   rw[←hR] at PN
   have HR:=aa hR
   clear hlt hj PM hN hR
   go_wp2
   go_ret
   exact⟨by rw[←HR.out];rfl,HU.out▸hB.out⟩
end
section
variable {w w':World} {p q:Nat} {n m:NV}
abbrev aD (B:Nat) (w:World) (v:Value) (l:List It):Prop:=Own ah 95 B w v l
def NV.read (level:Nat) (its:List It) (rg cap:Nat):NV:=⟨level,its,rg,0,cap,0,[],[],0,0,false,true⟩
theorem Bu (w:World) (s:ByteArray) (level:Nat) (its:List It) (rest:List UInt8) (hs:s.data.toList=bH level its++rest) (hr:Wl.blank rest=true) (hz:s.size≤100000)
  (hS:∀rg cap,Sound (NV.read level its rg cap)) (hl:its.length≤255) (hn:∀i∈its,i.node=none):
  Calls Tryz.prog 137 #[.string s] w fun e w'=>∃p rg cap,e=.returned (.tuple #[ptr p,.bool true])∧w.heap.size≤p∧Nd w' p (NV.read level its rg cap)∧aD w.heap.size w' (.slice (some ⟨rg,0,none⟩) its.length cap) its∧Below w.heap.size w w':=by
 have hsz:s.size=2+bz its+rest.length:=by
  have:s.data.toList.length=s.size:=Array.length_toList
  rw[←this,hs,List.length_append,iW]
 have h0:0<s.size:=by omega
 have h1:1<s.size:=by omega
 have ni:=(hS 0 0).level
 have Xv:level≤15:=ni
 have e0:((s[0].toNat:Nat):Int)=192+level:=by
  rw[←iK s 0 h0,hs]
  show (((UInt8.ofNat (192+level)).toNat:Nat):Int)=_
  rw[UInt8.toNat_ofNat',Nat.mod_eq_of_lt (by simp;omega)];omega
 have e1:((s[1].toNat:Nat):Int)=its.length:=by
  rw[←iK s 1 h1,hs]
  show (((UInt8.ofNat its.length).toNat:Nat):Int)=_
  rw[UInt8.toNat_ofNat',Nat.mod_eq_of_lt (by simp;omega)]
 have e2:(s.extract 2 s.size).data.toList=its.flatMap cJ++rest:=by
  rw[rQ,hs];rfl
 obtain⟨t0,L6⟩:∃t0,s.extract 2 s.size=t0:=⟨_,rfl⟩
 rw[L6] at e2
 have hw1:IntKind.i64.wrap ((192:Int)+level)=192+level:=by
  have:=bQ (192+level) (by omega)
  rwa [show ((192+level:Nat):Int)=192+(level:Int) by omega] at this
 have gy:IntKind.i64.wrap (its.length:Int)=its.length:=bQ _ (by omega)
 have h2s:(2:Int)≤s.size:=by omega
 have h3:(192:Int)+level-192=level:=by omega
 obtain⟨L,hL⟩:∃L,L=its.length:=⟨_,rfl⟩
 rw[←hL] at e1 gy hl ⊢
 have gz:(L:Int)≤255:=by omega
 have HH:=aa (And.intro hL (And.intro e2 (And.intro hr (And.intro hS hn))))
 have Z0:=aa (show t0.size≤100000 by
  rw[←L6,ByteArray.size_extract];omega)
 clear hs hS hr hn hL e2 hsz ni hl hz
 go_enter Tryz.func137,Tryz.ntmps137
 go_wp2_with fail
 go_region
 obtain⟨W,hW⟩:∃W,W=(w.alloc (.cells #[.int .i64 (level:Int),.slice none 0 0,.int .i64 0,.string ⟨#[]⟩,.string ⟨#[]⟩,.int .i64 0,.int .i64 0,.bool false] 90)).drew:=⟨_,rfl⟩
 obtain⟨p,hp⟩:∃p,p=w.heap.size:=⟨_,rfl⟩
 have HW:=aa (show aG W p 90 [.int .i64 (level:Int),.slice none 0 0,.int .i64 0,.string ⟨#[]⟩,.string ⟨#[]⟩,.int .i64 0,.int .i64 0,.bool false]∧Below p w W∧W.heap.size=p+1 by
  rw[hW,hp]
  exact⟨aG.new w _ _,((Below.refl _ w).alloc (Nat.le_refl _) _).drew,by simp[World.size_alloc]⟩)
 have HP:=aa hp
 rw[←hW,←hp]
 clear hW hp
 have Z2:=gy
 go_wp2
 go_loopw [5,19] (fun sv iv wr=>∃j:Nat,j≤L∧iv=.int .i64 j∧∃t:ByteArray,sv=.string t∧Hid (t.data.toList=(its.drop j).flatMap cJ++rest∧t.size≤100000)∧∃v,Hid (aG wr p 90 [.int .i64 (level:Int),v,.int .i64 0,.string ⟨#[]⟩,.string ⟨#[]⟩,.int .i64 0,.int .i64 0,.bool false])∧Hid (aD p wr v (its.take j))∧Hid (Below p w wr)) (fun _ iv _=>L-(RowKit.intOf iv).toNat)
 case atStart=>exact⟨0,Nat.zero_le _,rfl,t0,rfl,aa ⟨HH.out.2.1,Z0.out⟩,_,aa HW.out.1,aa (Own.nil _ _ _ _),aa HW.out.2.1⟩
 case round=>
  obtain⟨j,hj,rfl,t,rfl,hT,v,SD,hO,hB⟩:=hrel
  by_cases hlt:j<L
  ·have ng:(j:Int)<L:=by omega
   have hjl:j<its.length:=by rw[←HH.out.1];exact hlt
   have PO:t.data.toList=fk its[j].key its[j].val++((its.drop (j+1)).flatMap cJ++rest):=by
    rw[hT.out.1,List.drop_eq_getElem_cons hjl,List.flatMap_cons,List.append_assoc];rfl
   have he:=(HH.out.2.2.2.1 0 0).each its[j] (List.getElem_mem hjl)
   have L7:=HH.out.2.2.2.2 its[j] (List.getElem_mem hjl)
   have HC:=aa (Bn wr t _ _ _ PO (by omega) (by omega) (by have:=hT.out.2;omega))
   have HJ:=aa (show j<L∧its.take (j+1)=its.take j++[its[j]]∧its[j].node=none∧t.data.toList=fk its[j].key its[j].val++((its.drop (j+1)).flatMap cJ++rest)∧its[j].key.length≤96∧its[j].val.length≤56 from⟨hlt,List.take_succ_eq_append_getElem hjl,L7,PO,he.1,he.2.1⟩)
   generalize its[j]=it at*
   have hts:t.size=2+it.key.length+it.val.length+((its.drop (j+1)).flatMap cJ++rest).length:=by
    have:t.data.toList.length=t.size:=Array.length_toList
    rw[←this,PO,List.length_append,eD]
   obtain⟨z,hz⟩:∃z,z=2+it.key.length+it.val.length:=⟨_,rfl⟩
   rw[←hz] at HC hts
   have Z3:¬(t.size:Int)<z:=by omega
   have Z4:(z:Int)≤t.size:=by omega
   have HZ:=aa hz
   have PR:=aa (rQ t z)
   obtain⟨t2,ht2⟩:∃t2,t.extract z t.size=t2:=⟨_,rfl⟩
   rw[ht2] at PR
   have TY:=aa (show t2.data.toList=(its.drop (j+1)).flatMap cJ++rest∧t2.size≤100000 by
    refine⟨?_, ?_⟩
    ·rw[PR.out,PO]
     rw[show z=(fk it.key it.val).length by rw[eD,hz],List.drop_left]
    ·rw[←ht2,ByteArray.size_extract];have:=hT.out.2;omega)
   clear hlt hj hjl PO he L7 hts hz
   go_wp2_with fail
   refine HC.out.mono ?_
   rintro e w1 ⟨rfl,aQ⟩
   have bY:=SD.out.lt
   have PS:=aa (SD.out.below aQ bY)
   have Z5:=aa (Own.below hO.out aQ (Nat.le_refl _))
   have M9:=aa (hB.out.trans (aQ.mono (by omega)))
   clear aQ
   go_wp2_with fail
   obtain⟨W2,lY⟩:∃W2,W2=w1.alloc (.cells #[.string (bs it.key),.string (bs it.val)] 63):=⟨_,rfl⟩
   obtain⟨g,hg⟩:∃g,g=w1.heap.size:=⟨_,rfl⟩
   rw[←lY,←hg]
   have Kq:aG W2 p 90 [.int .i64 (level:Int),v,.int .i64 0,.string ⟨#[]⟩,.string ⟨#[]⟩,.int .i64 0,.int .i64 0,.bool false]:=by rw[lY];exact PS.out.alloc _
   have OU:aD p W2 v (its.take j):=by rw[lY];exact Own.alloc Z5.out _
   have cP:aG W2 g 63 [.string (bs it.key),.string (bs it.val)]:=by rw[lY,hg];exact aG.new w1 _ _
   have iU:W2.heap.size=g+1:=by rw[lY,hg];simp[World.size_alloc]
   have Bv:Below p w W2:=by
    rw[lY]
    have:=PS.out.lt
    exact M9.out.alloc (by omega) _
   have c1:=Kq.cell (j:=1) rfl
   have g0:=cP.cell (j:=0) rfl
   have g1:=cP.cell (j:=1) rfl
   have H2:=aa (show aG W2 p 90 [.int .i64 (level:Int),v,.int .i64 0,.string ⟨#[]⟩,.string ⟨#[]⟩,.int .i64 0,.int .i64 0,.bool false]∧aD p W2 v (its.take j)∧Below p w W2∧p<W2.heap.size from⟨Kq,OU,Bv,Kq.lt⟩)
   have xf:p<W2.heap.size:=H2.out.2.2.2
   clear lY hg Kq OU cP iU Bv
   refine wp_region_any (by kernel_rfl) ?_
   try (change wpAny _ _ _ _ _ _ _ (World.drew _))
   refine tk 0 ?_
   refine tk 1 ?_
   refine tk 2 ?_
   refine tk 3 ?_
   refine tk 9 ?_
   refine tk 10 ?_
   refine tk 11 ?_
   try simp only[Act.put,List.setIfInBounds_toArray,List.set_cons_succ,List.set_cons_zero]
   refine rd [4,5] (AllReady.cons rfl (fun K hK=> ?_) (rn fun K hK=> ?_))
   focus
    go_simp
    refine hK _ _ ?_;clear hK K
    refine rd [5] (rn fun K hK=> ?_)
    go_simp
    refine hK _ _ ?_;clear hK K
    refine rd [6] (rn fun K hK=> ?_)
    go_simp
    refine hK _ _ ?_;clear hK K
    refine rd [7] (rn fun K hK=> ?_)
    go_simp
    refine hK _ _ ?_;clear hK K
   rotate_left
   focus
    go_simp
    refine hK _ _ ?_;clear hK K
    refine rd [4,6] (AllReady.cons rfl (fun K hK=> ?_) (rn fun K hK=> ?_))
    focus
     go_simp
     refine hK _ _ ?_;clear hK K
     refine rd [6] (rn fun K hK=> ?_)
     go_simp
     refine hK _ _ ?_;clear hK K
     refine rd [7] (rn fun K hK=> ?_)
     go_simp
     refine hK _ _ ?_;clear hK K
    rotate_left
    focus
     go_simp
     refine hK _ _ ?_;clear hK K
     refine rd [4,7] (AllReady.cons rfl (fun K hK=> ?_) (rn fun K hK=> ?_))
     focus
      go_simp
      refine hK _ _ ?_;clear hK K
      refine rd [7] (rn fun K hK=> ?_)
      go_simp
      refine hK _ _ ?_;clear hK K
     rotate_left
     focus
      go_simp
      refine hK _ _ ?_;clear hK K
      refine rd [4] (rn fun K hK=> ?_)
      go_simp
      refine hK _ _ ?_;clear hK K
   all_goals
    try simp only[Act.put,List.setIfInBounds_toArray,List.set_cons_succ,List.set_cons_zero]
    have L8:aD p (W2.drew.alloc (.cells #[.string (bs it.key),.string (bs it.val),.pointer none] 95)) v (its.take j):=Own.alloc (show aD p W2.drew v (its.take j) from H2.out.2.1) _
    have CR:aJ ah (W2.drew.alloc (.cells #[.string (bs it.key),.string (bs it.val),.pointer none] 95)) W2.drew.heap.size 0 [it]:=aJ.dI (aG.new W2.drew _ _) (by show [_,_,_]=[Value.string (bs it.key),.string (bs it.val),.pointer (pa it.node)];rw[HJ.out.2.2.1];rfl)
    have PT:aG (W2.drew.alloc (.cells #[.string (bs it.key),.string (bs it.val),.pointer none] 95)) p 90 [.int .i64 (level:Int),v,.int .i64 0,.string ⟨#[]⟩,.string ⟨#[]⟩,.int .i64 0,.int .i64 0,.bool false]:=aG.alloc (show aG W2.drew p _ _ from H2.out.1) _
    have L9:Below p w (W2.drew.alloc (.cells #[.string (bs it.key),.string (bs it.val),.pointer none] 95)):=(H2.out.2.2.1.drew).alloc (by show p≤W2.heap.size;omega) _
    have Ng:p≤(W2.drew.alloc (.cells #[.string (bs it.key),.string (bs it.val),.pointer none] 95)).heap.size:=by rw[World.size_alloc];show p≤W2.heap.size+1;omega
    have H3:=aa (And.intro L8 (And.intro PT (And.intro L9 (And.intro CR Ng))))
    clear L8 CR PT L9 Ng
    refine rd [8] (rn fun K hK=> ?_)
    refine AX (K:=ah) sq _ _ rfl rfl H3.out.1 H3.out.2.2.2.2 W2.drew.heap.size 0 1 1 [it] rfl rfl H3.out.2.2.2.1 (by rw[List.length_take];have:=HH.out.1;have:=HJ.out.1;omega) ?_;intro v5 w5 iB eN
    refine hK _ _ ?_;clear hK K
    have xg:World.grownBy _ w5 v.ownBlock:=eN
    have y_:=Own.bK H3.out.1 H3.out.2.1 (by decide)
    have Gx:=H3.out.2.1.but ((aj.refl (fun k=>v.ownBlock=some k) _).grown xg fun k e _=>e) y_
    have Xw:=H3.out.2.2.1.grown xg H3.out.2.2.2.2 fun k e=>(Own.block H3.out.1 k e).1
    obtain⟨a5,jR,qX,qY⟩:=Own.slice iB
    rw[←HJ.out.2.1] at iB
    have L_:=Own.bK iB Gx (by decide)
    generalize (its.take j++[it]).length=N5 at qX qY
    subst qX
    have c5:=Gx.cell (j:=1) rfl
    have f5:=Gx.frozen 1
    have H5:=aa (And.intro iB (And.intro Gx (And.intro Xw L_)))
    clear iB Gx Xw eN xg y_ L_
    try simp only[Act.put,List.setIfInBounds_toArray]
    refine tk 12 ?_
    refine tk 13 ?_
    try simp only[Act.put]
    refine rd [14] (rn fun K hK=> ?_)
    go_simp
    refine hK _ _ ?_;clear hK K
    refine tk 15 ?_
    refine wpAny_done (by kernel_rfl) ?_ _
    have H6:=aa (show aG (w5.setCell ⟨p,1,none⟩ (.slice a5 N5 jR)) p 90 [.int .i64 (level:Int),.slice a5 N5 jR,.int .i64 0,.string ⟨#[]⟩,.string ⟨#[]⟩,.int .i64 0,.int .i64 0,.bool false]∧aD p (w5.setCell ⟨p,1,none⟩ (.slice a5 N5 jR)) (.slice a5 N5 jR) (its.take (j+1))∧Below p w (w5.setCell ⟨p,1,none⟩ (.slice a5 N5 jR)) from⟨H5.out.2.1.set 1 _,Own.but H5.out.1 ((aj.refl (fun k=>k=p) w5).setCell _ _ fun _=>rfl) (fun k hk e=>H5.out.2.2.2 (by rw[hk,e])),H5.out.2.2.1.setCell (Nat.le_refl _) _⟩)
    go_wp2
    go_roundw
    case rel=>exact⟨j+1,HJ.out.1,by go_num,t2,rfl,TY,_,aa H6.out.1,aa H6.out.2.1,aa H6.out.2.2⟩
    case measure=>have:=HJ.out.1;simp[RowKit.intOf];omega
  ·have ng:¬(j:Int)<L:=by omega
   obtain rfl:j=L:=by omega
   have htk:its.take j=its:=List.take_of_length_le (by rw[HH.out.1];exact Nat.le_refl _)
   have Nh:=hO.out
   rw[htk] at Nh
   have hpos:0<its.length:=List.length_pos_iff.2 (HH.out.2.2.2.1 0 0).ne
   obtain⟨rg,cap,hv,uy,Z6,hcap⟩:=Own.form Nh hpos
   have hcm:cap≤maxLen:=(eZ (hv▸Nh)).2.2
   have Ma:t.data.toList=rest:=by
    have:=hT.out.1
    rw[List.drop_eq_nil_of_le (by rw[HH.out.1];exact Nat.le_refl _)] at this
    exact this
   have CS:=aa (show Nd wr p (NV.read level its rg cap) from⟨by
    have:=SD.out
    rw[hv] at this
    exact this,by
    rw[hv] at Nh
    exact Own.lies Nh,⟨by show its.length≤400;have:=HH.out.1;omega,fun i hi=>by have:=(HH.out.2.2.2.1 0 0).each i hi;omega,hcap,hcm⟩⟩)
   have HO:=aa (show aD p wr (.slice (some ⟨rg,0,none⟩) its.length cap) its by rw[←hv];exact Nh)
   have HC:=aa (w_ CS.out (HH.out.2.2.2.1 rg cap))
   have HR:=aa Ma
   clear hlt hj htk Nh hv uy Z6 hcap hcm Ma hpos
   go_wp2_with fail
   refine HC.out.mono ?_
   rintro e w1 ⟨rfl,aQ⟩
   have H1:=aa (show Nd w1 p (NV.read level its rg cap)∧aD p w1 (.slice (some ⟨rg,0,none⟩) its.length cap) its∧Below p w w1 from⟨CS.out.still aQ,Own.below HO.out aQ (Nat.le_refl _),hB.out.trans (aQ.mono (by have:=SD.out.lt;omega))⟩)
   clear aQ
   go_wp2_with fail
   refine (y9 t w1 (by have:=hT.out.2;omega)).mono ?_
   rintro e w2 ⟨⟨u,rfl,hu⟩,m,rfl⟩
   have Z7:u.toList=[]:=by
    rw[ByteArray.toList_eq]
    exact hu.2 (by rw[HR.out];exact HH.out.2.2.1)
   have H2:=aa (show Nd (w1.drewN m) p (NV.read level its rg cap)∧aD p (w1.drewN m) (.slice (some ⟨rg,0,none⟩) its.length cap) its∧Below p w (w1.drewN m) from⟨H1.out.1.still (dQ _ _),Own.below H1.out.2.1 (dQ _ _) (Nat.le_refl _),H1.out.2.2.trans ((dQ w1 m).mono (by have:=H1.out.2.2.size;have:=HP.out;omega))⟩)
   clear hu
   go_wp2
   go_ret2
   refine⟨p,rg,cap,rfl,Nat.le_of_eq HP.out.symm,H2.out.1,HP.out▸HH.out.1▸H2.out.2.1,HP.out▸H2.out.2.2⟩
end
end Go.Proofs.YtloekpcncjocaaaGreatDoor
namespace Go.Proofs.YtloekpcncjocaaaGreatDoor
open Go.RowKit Lib Go.Maps Go.ChangeMaps
open Wl (cY ins aP)
section
variable {P:Program} {T E K:TypeId} {w:World} {b:Nat} {m:cY}
theorem dY.Gy {M:ME} (h:dY P K M w b m) (hk:P.underlying K=some (.int .i64)) (ht:P.underlying T=some (.map K E)) (hn:m.length≤200000000) {k:Nat} (Js:k≤1000000) {t:List UInt8} (hf:M.fits t):
  ∃w',(Instr.mapUpdate T (.map (some b)) (.int .i64 k) (M.enc t)).run P w=.ok () w'∧dY P K M w' b (ins k t m)∧w.grownBy w' (some b):=by
 obtain⟨w',h1,h2,h3⟩:=h.1.update (int_keyed hk) ht (by unfold maxLen;omega) (keyOf_int_mk hk (rY Js)) (M.read t hf)
 rw[JW k t m h.2.1] at h2
 exact⟨w',h1,⟨qy M h2,Wl.dS k t h.2.1,fun x hx=>by
  rcases Wl.rj hx with rfl|hx
  ·exact Js
  ·exact h.2.2 x hx⟩,h3⟩
end
end Go.Proofs.YtloekpcncjocaaaGreatDoor
namespace Go.Proofs.YtloekpcncjocaaaGreatDoor
namespace Wl
open Dk (dJ full)
def raw (g:cY) (ps:List (Int×Text)):cY:=ps.foldl (fun g p=>ins p.1.toNat p.2 g) g
theorem sD (g:cY) (a b:List (Int×Text)):raw g (a++b)=raw (raw g a) b:=by simp[raw]
theorem CU (g:cY) (p:Int×Text):raw g [p]=ins p.1.toNat p.2 g:=rfl
theorem CV (f:Text→Text) (k:Nat) (t:Text):∀m:cY,ins k (f t) (m.map fun x=>(x.1,f x.2))=(ins k t m).map fun x=>(x.1,f x.2)
 |[]=>rfl
 |x::m=>by
  rw[List.map_cons]
  unfold ins
  by_cases h:k<x.1
  ·rw[if_pos h,if_pos h];rfl
  ·rw[if_neg h,if_neg h]
   by_cases e:k=x.1
   ·rw[if_pos e,if_pos e];rfl
   ·rw[if_neg e,if_neg e,CV f k t m];rfl
theorem za (f:Text→Text) (k:Nat):∀m:cY,look k (m.map fun x=>(x.1,f x.2))=(look k m).map f
 |[]=>rfl
 |x::m=>by
  rw[List.map_cons]
  unfold look
  by_cases h:x.1=k
  ·rw[if_pos h,if_pos h];rfl
  ·rw[if_neg h,if_neg h,za f k m]
theorem CW:∀(ps:List (Int×Text)) (g:cY),Pu (g.map fun x=>(x.1,full x.2)) ps=(raw g ps).map fun x=>(x.1,full x.2)
 |[],_=>rfl
 |p::ps,g=>by
  show Pu (ins p.1.toNat (full p.2) _) ps=(raw (ins p.1.toNat p.2 g) ps).map _
  rw[CV full,CW ps]
theorem D6 (H:List Text) (ps:List (Int×Text)) {j:Nat} (hj:j<H.length):(along H ps)[j]?=((look j (raw [] ps)).map full).or H[j]?:=by
 have h1:=yT ps H r5
 rw[Dk.kM] at h1
 have h2:=CW ps []
 rw[List.map_nil] at h2
 rw[←h1,lR (r4 ps r5),if_pos hj,h2,za]
end Wl
end Go.Proofs.YtloekpcncjocaaaGreatDoor
namespace Go.Proofs.YtloekpcncjocaaaGreatDoor
namespace Tx
open Wl (cY Text ins aP)
def un (k:Nat):Text:=List.replicate k 0
theorem dZ (k:Nat):(un k).length=k:=List.length_replicate
def ez (m:cY) (i:Nat):Int:=match Wl.look i m with|some t=>(t.length:Int)|none=>-1
structure St where
 m:cY
 b:List Int
 n:Nat
def step (s:St) (p:Nat×Text):St:=⟨ins p.1 (un s.n) s.m,s.b++[ez s.m p.1],s.n+1⟩
def st (ps:List (Nat×Text)):St:=ps.foldl step ⟨[],[],0⟩
def bS (ps:List (Nat×Text)):cY:=(st ps).m
def fo (ps:List (Nat×Text)):List Int:=(st ps).b
theorem oC (ps:List (Nat×Text)) (p:Nat×Text):st (ps++[p])=step (st ps) p:=by unfold st;rw[List.foldl_append];rfl
theorem jm {P:List (Nat×Text)→Prop} (h0:P []) (h1:∀ps p,P ps→P (ps++[p])):∀ps,P ps:=by
 intro ps
 have key:∀n (l:List (Nat×Text)),l.length=n→P l:=by
  intro n
  induction n with
  |zero=>intro l hl;rw[List.length_eq_zero_iff.1 hl];exact h0
  |succ n ih=>
   intro l hl
   rcases List.eq_nil_or_concat l with rfl|⟨m,b,rfl⟩
   ·cases hl
   ·rw[List.concat_eq_append] at hl ⊢
    exact h1 m b (ih m (by simpa using hl))
 exact key _ ps rfl
theorem TZ:∀ps,(st ps).n=ps.length:=jm rfl fun ps p h=>by rw[oC];show (st ps).n+1=_;rw[h,List.length_append];rfl
theorem bI:∀ps,(fo ps).length=ps.length:=jm rfl fun ps p h=>by
 unfold fo at h ⊢
 rw[oC]
 show ((st ps).b++_).length=_
 rw[List.length_append,h,List.length_append];rfl
theorem fu:∀ps,aP (bS ps):=jm List.Pairwise.nil fun ps p h=>by
 unfold bS at h ⊢
 rw[oC]
 exact Wl.dS _ _ h
theorem eG (ps:List (Nat×Text)) (p:Nat×Text):bS (ps++[p])=ins p.1 (un ps.length) (bS ps):=by
 unfold bS
 rw[oC]
 show ins p.1 (un (st ps).n) _=_
 rw[TZ]
theorem pY (ps:List (Nat×Text)) (p:Nat×Text):fo (ps++[p])=fo ps++[ez (bS ps) p.1]:=by
 unfold fo bS
 rw[oC];rfl
theorem Gz (ps:List (Nat×Text)):∀qs,(fo (ps++qs)).take ps.length=fo ps:=jm (P:=fun qs=>(fo (ps++qs)).take ps.length=fo ps)
 (by show (fo (ps++[])).take _=_;rw[List.append_nil,←bI,List.take_length])
 (fun qs q h=>by
  show (fo (ps++(qs++[q]))).take _=_
  rw[←List.append_assoc,pY,List.take_append_of_le_length (by rw[bI,List.length_append];omega),h])
theorem vE (ps:List (Nat×Text)) (k:Nat) (hk:k≤ps.length):(fo ps).take k=fo (ps.take k):=by
 have:=Gz (ps.take k) (ps.drop k)
 rwa [List.take_append_drop,List.length_take,Nat.min_eq_left hk] at this
theorem lT (ps:List (Nat×Text)) {k:Nat} (hk:k<ps.length):ps.take (k+1)=ps.take k++[ps[k]]:=List.take_succ_eq_append_getElem hk
theorem Kr (ps:List (Nat×Text)) {k:Nat} (hk:k<ps.length):(fo ps)[k]'(by rw[bI];exact hk)=ez (bS (ps.take k)) (ps[k]).1:=by
 have h1:=vE ps (k+1) (by omega)
 rw[lT ps hk,pY] at h1
 have h2:((fo ps).take (k+1))[k]?=some (ez (bS (ps.take k)) (ps[k]).1):=by
  rw[h1,List.getElem?_append_right (by rw[bI,List.length_take];omega),bI,List.length_take,Nat.min_eq_left (by omega),Nat.sub_self]
  rfl
 rw[List.getElem?_take_of_lt (by omega),List.getElem?_eq_getElem (by rw[bI];exact hk)] at h2
 injection h2
theorem jS (i:Nat):∀ps,(Wl.look i (bS ps)=none∧∀p∈ps,p.1≠i)∨∃k,∃hk:k<ps.length,Wl.look i (bS ps)=some (un k)∧(ps[k]).1=i∧Wl.look i (Wl.raw [] (ps.map fun p=>((p.1:Int),p.2)))=some (ps[k]).2:=
 jm (.inl ⟨rfl,fun p hp=>by cases hp⟩) fun ps p h=>by
  by_cases e:i=p.1
  ·refine .inr ⟨ps.length,by simp, ?_, ?_, ?_⟩
   ·rw[eG,Wl.dR,if_pos e]
   ·simp[e]
   ·rw[List.map_append,Wl.sD]
    show Wl.look i (Wl.raw _ [((p.1:Int),p.2)])=_
    rw[Wl.CU,Wl.dR,if_pos (by simp[e])]
    simp
  ·rcases h with⟨h1,h2⟩|⟨k,hk,h1,h2,h3⟩
   ·refine .inl ⟨by rw[eG,Wl.dR,if_neg e];exact h1,fun q hq=> ?_⟩
    rcases List.mem_append.1 hq with hq|hq
    ·exact h2 q hq
    ·obtain rfl:=List.mem_singleton.1 hq
     exact fun e'=>e e'.symm
   ·refine .inr ⟨k,by rw[List.length_append];omega, ?_, ?_, ?_⟩
    ·rw[eG,Wl.dR,if_neg e];exact h1
    ·rw[List.getElem_append_left hk];exact h2
    ·rw[List.map_append,Wl.sD]
     show Wl.look i (Wl.raw _ [((p.1:Int),p.2)])=_
     rw[Wl.CU,Wl.dR,if_neg (by simp[e]),List.getElem_append_left hk]
     exact h3
def lZ (ps:List (Nat×Text)):List (Int×Text):=ps.map fun p=>((p.1:Int),p.2)
theorem zb {i:Nat}:∀{ps:List (Nat×Text)} {g:cY},(∀p∈ps,p.1≠i)→Wl.look i (Wl.raw g (lZ ps))=Wl.look i g
 |[],_,_=>rfl
 |p::ps,g,h=>by
  show Wl.look i (Wl.raw (ins ((p.1:Int)).toNat p.2 g) (lZ ps))=_
  rw[zb fun q hq=>h q (List.mem_cons_of_mem _ hq),Wl.dR,if_neg]
  have:=h p List.mem_cons_self
  rw[Int.toNat_natCast]
  exact fun e=>this e.symm
theorem Ni (H:List Text) (ps:List (Nat×Text)) {i:Nat} (hi:i<H.length):
  (Wl.look i (bS ps)=none∧(Wl.along H (lZ ps))[i]?=H[i]?)∨∃k,∃hk:k<ps.length,Wl.look i (bS ps)=some (un k)∧(Wl.along H (lZ ps))[i]?=some (Dk.full (ps[k]).2):=by
 have h0:=Wl.D6 H (lZ ps) hi
 rcases jS i ps with⟨h1,h2⟩|⟨k,hk,h1,_,h3⟩
 ·refine .inl ⟨h1, ?_⟩
  rw[h0,zb h2];rfl
 ·refine .inr ⟨k,hk,h1, ?_⟩
  rw[h0,show Wl.look i (Wl.raw [] (lZ ps))=_ from h3];rfl
theorem GA (ps:List (Nat×Text)) {k:Nat} (hk:k<ps.length) (h:ez (bS (ps.take k)) (ps[k]).1=-1):Wl.look (ps[k]).1 (bS (ps.take k))=none:=by
 unfold ez at h
 split at h
 ·omega
 ·assumption
theorem GB (ps:List (Nat×Text)) {k j:Nat} (hk:k<ps.length) (h:ez (bS (ps.take k)) (ps[k]).1=(j:Int)):Wl.look (ps[k]).1 (bS (ps.take k))=some (un j):=by
 rcases jS (ps[k]).1 (ps.take k) with⟨h1,_⟩|⟨i,_,h1,_⟩
 ·unfold ez at h
  rw[h1] at h
  simp only at h
  omega
 ·unfold ez at h
  rw[h1] at h
  simp only[dZ] at h
  rw[h1]
  have:i=j:=by omega
  rw[this]
theorem zc (m:cY) (i:Nat):ez m i=-1∨∃j:Nat,ez m i=(j:Int):=by
 unfold ez
 split
 ·exact .inr ⟨_,rfl⟩
 ·exact .inl rfl
def del (k:Nat) (m:cY):cY:=m.filter fun x=>decide (x.1≠k)
theorem sE (k:Nat) {m:cY} (h:aP m):aP (del k m):=List.Pairwise.filter _ h
theorem ze (k j:Nat):∀m:cY,Wl.look j (del k m)=if j=k then none else Wl.look j m
 |[]=>by simp[del,Wl.look]
 |x::m=>by
  have ih:=ze k j m
  unfold del at ih ⊢
  rw[List.filter_cons]
  by_cases hx:x.1=k
  ·rw[if_neg (by simp[hx]),ih]
   by_cases hj:j=k
   ·rw[if_pos hj,if_pos hj]
   ·rw[if_neg hj,if_neg hj]
    show Wl.look j m=(if x.1=j then some x.2 else Wl.look j m)
    rw[if_neg (by omega)]
  ·rw[if_pos (by simpa using hx)]
   unfold Wl.look
   by_cases SE:x.1=j
   ·rw[if_pos SE,if_pos SE,if_neg (by omega)]
   ·rw[if_neg SE,if_neg SE,ih]
theorem xh {ps:List (Nat×Text)} {k:Nat} (hk:k<ps.length) (h:ez (bS (ps.take k)) (ps[k]).1=-1):del (ps[k]).1 (bS (ps.take (k+1)))=bS (ps.take k):=by
 refine Wl.ext (sE _ (fu _)) (fu _) fun j=> ?_
 rw[ze,lT ps hk,eG,Wl.dR]
 by_cases e:j=(ps[k]).1
 ·rw[if_pos e,e,GA ps hk h]
 ·rw[if_neg e,if_neg e]
theorem xj {ps:List (Nat×Text)} {k j:Nat} (hk:k<ps.length) (h:ez (bS (ps.take k)) (ps[k]).1=(j:Int)):ins (ps[k]).1 (un j) (bS (ps.take (k+1)))=bS (ps.take k):=by
 refine Wl.ext (Wl.dS _ _ (fu _)) (fu _) fun i=> ?_
 rw[Wl.dR,lT ps hk,eG,Wl.dR]
 by_cases e:i=(ps[k]).1
 ·rw[if_pos e,e,GB ps hk h]
 ·rw[if_neg e,if_neg e]
theorem vF:∀ps,(bS ps).length≤ps.length:=jm (Nat.le_refl _) fun ps p h=>by
 rw[eG,Wl.r6 _ _ (fu ps),List.length_append]
 show _≤ps.length+1
 split<;>omega
end Tx
end Go.Proofs.YtloekpcncjocaaaGreatDoor
namespace Go.Proofs.YtloekpcncjocaaaGreatDoor
open Go.RowKit Lib
def Wl.Lg.read (s:Wl.Lg) (i:Int):Wl.Text×Int:=
 if s.off then ([],3) else if !s.has i then ([],2) else match Wl.look i.toNat s.wait with|some t=>(t,0)|none=>s.d.read ((1+s.ring+i.toNat:Nat):Int)
theorem oD {w w':World} {Z:Array Value} (h:aj (fun k=>k=w.heap.size) (w.alloc (.cells Z CT)) w'):Below w.heap.size w w':=
 Below.but ((Below.refl _ w).alloc (Nat.le_refl _) _) h (by simp) (fun k hk e=>by omega)
theorem D7 (w:World) (F:Nat→Prop) (b g:Nat) (s:Wl.Lg) (i:Int) (hl:Log w F b g s) (hb:Xk s):
  Calls Tryz.prog 167 #[ptr b,.int .i64 i] w fun e w'=>e=.returned (.tuple #[.string (bs (s.read i).1),.int .i64 (s.read i).2])∧Below w.heap.size w w':=by
 have HL:=aa hl
 have HB:=aa hb
 obtain⟨mb,FD,h⟩:=hl
 have c0:=h.c0
 have c6:=h.c6
 have HH:=aa h
 clear h hb
 obtain⟨Z,hZ⟩:∃Z,Z=(zeros.map aR).toArray:=⟨_,rfl⟩
 have hz:∀w,(zeroValue CT).run Tryz.prog w=.ok (.agg Z) w:=fun w=>by rw[hZ];exact wU w
 have hzs:Z.size=512:=by rw[hZ];simp[fQ]
 have Tq:¬Z=#[]:=by intro e;rw[e] at hzs;cases hzs
 have HZ:=aa hZ
 clear hZ
 have HS:=aa (show s.read i=if s.off then ([],3) else if !s.has i then ([],2) else match Wl.look i.toNat s.wait with|some t=>(t,0)|none=>s.d.read ((1+s.ring+i.toNat:Nat):Int) from rfl)
 go_enter Tryz.func167,Tryz.ntmps167
 unfold ptr
 go_wp2_with fail
 refine (vC w F b g s HL.out).mono ?_
 rintro e w1 ⟨rfl,rfl⟩
 by_cases ho:s.off=true
 ·rw[ho]
  have HE:=aa (show s.read i=([],3) by rw[HS.out,if_pos ho])
  clear ho HS
  go_wp2
  go_ret2
  exact⟨by rw[HE.out];rfl,Below.refl _ _⟩
 ·have ho':s.off=false:=by simpa using ho
  have HS:=aa (show s.read i=if !s.has i then ([],2) else match Wl.look i.toNat s.wait with|some t=>(t,0)|none=>s.d.read ((1+s.ring+i.toNat:Nat):Int) by rw[HS.out,if_neg ho])
  rw[ho']
  clear ho ho'
  go_wp2_with fail
  refine (Gr w1 F b g s i HL.out).mono ?_
  rintro e w1 ⟨rfl,rfl⟩
  by_cases hh:s.has i=true
  ·rw[hh]
   have HS:=aa (show s.read i=match Wl.look i.toNat s.wait with|some t=>(t,0)|none=>s.d.read ((1+s.ring+i.toNat:Nat):Int) by rw[HS.out,if_neg (by rw[hh];decide)])
   have hat:0≤i∧i<s.homes:=by simpa[Wl.Lg.has] using hh
   obtain⟨n,rfl⟩:∃n:Nat,i=n:=⟨i.toNat,by omega⟩
   rw[Int.toNat_natCast] at HS
   have PU:n≤1000000:=by have:=HB.out.h;omega
   have Z8:=aa PU
   obtain⟨r,hr⟩:∃r,w1.heap.size=r:=⟨_,rfl⟩
   clear hh hat
   cases hlk:Wl.look n s.wait with
   |some t=>
    obtain⟨hat,ht⟩:=A7.fO HH.out.mp PU hlk
    have HE:=aa (show s.read (n:Int)=(t,0) by rw[HS.out,hlk])
    have Z9:=aa ht
    clear HS hlk ht PU
    go_wp2_with (first
     |(refine mG rfl _ _ rfl r t zeros rfl rfl Z9.out (by rw[←hr];exact yQ.new w1 Z HZ.out) ?_;intro w5 qY cH;have hxs:=FZ w5 r;have hbk:=qY.back;have H5:=aa cH;clear cH qY)
     |fail)
    go_ret2
    exact⟨by rw[HE.out];rfl,oD (by rw[hr];exact H5.out)⟩
   |none=>
    have hat:=A7.cK HH.out.mp PU hlk
    have HE:=aa (show s.read (n:Int)=s.d.read ((1+s.ring+n:Nat):Int) by rw[HS.out,hlk])
    clear HS hlk PU
    go_wp2_with (first
     |(refine mG rfl _ _ rfl r zeros zeros rfl rfl fQ (by rw[←hr];exact yQ.new w1 Z HZ.out) ?_;intro w5 qY cH;have H5:=aa (oD (show aj (fun k=>k=w1.heap.size) (w1.alloc (.cells Z CT)) w5 by rw[hr];exact cH));clear cH qY)
     |fail)
    have Xx:=aa (HL.out.below H5.out)
    have T0:=aa (HH.out.below H5.out)
    have c0:=T0.out.c0
    go_quiet (first
     |(go_at_call 189;exact Calls.quiet_of_same (xe _ F b g s n (by first|exact Xx.out|exact Xx.out.but ((aj.refl (fun _=>False) w5).drewN _) (fun _ _ h=>h)) HB.out.r2 Z8.out))
     |(go_at_call 122;exact Calls.quiet_of_same (yJ _ FD g s.d _ (by first|exact T0.out.sec|exact T0.out.sec.but ((aj.refl (fun _=>False) w5).drewN _) (fun _ _ h=>h)))))
    have T3:=aa (show s.read (n:Int)=s.d.read (1+(s.ring:Int)+n) by rw[HE.out,show ((1+s.ring+n:Nat):Int)=1+(s.ring:Int)+n by omega])
    rw[←T3.out]
    go_wp2
    go_ret2
    exact⟨rfl,H5.out.trans ((dQ w5 _).mono H5.out.size)⟩
  ·have LS:s.has i=false:=by simpa using hh
   have HE:=aa (show s.read i=([],2) by rw[HS.out,LS];rfl)
   rw[LS]
   clear hh LS HS
   go_wp2
   go_ret2
   exact⟨by rw[HE.out];rfl,Below.refl _ _⟩
end Go.Proofs.YtloekpcncjocaaaGreatDoor
