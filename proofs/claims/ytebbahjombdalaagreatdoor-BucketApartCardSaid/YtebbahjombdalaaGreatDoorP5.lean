/- Elder texts, cut down and merged (5). -/
import Derived.Test.YtebbahjombdalaaGreatDoorP4
import Derived.Test.YtebbahjombdalaaGreatDoorP2
import Derived.Test.YtebbahjombdalaaGreatDoorP1
import Derived.Laws.ResultCell
import Derived.BigQuiet
import Derived.OrdersHeld
import Derived.Deep.RegionHeld3
import Derived.Lib.SlBytesConst
import Derived.RangeFuncBox
import Derived.RangeFuncLeaves
import Derived.Shelf.Abstract
import Derived.OwnWalkIn
import Derived.TacticsInMore
import Derived.LoopNIn
import Derived.LoopIn
import Derived.Maps.AppendAt
import Derived.Lib.Hide
import Derived.Test.YtebbahjombdalaaGreatDoorIter
import Derived.Laws.CopyOwn
import Derived.StillTailTactics
import Derived.BigRegion
import Derived.Test.YtebbahjombdalaaGreatDoorPTk
set_option maxRecDepth 100000
set_option maxHeartbeats 8000000
namespace Go.Proofs.YtebbahjombdalaaGreatDoor
open UInt8 renaming ofNat→aY,toNat_ofNat'→dY
open _root_.Array renaming length_toList→aZ
open List renaming length_append→aq,append_assoc→aB,take_left→fF,setIfInBounds_toArray→az,set_cons_succ→ay,set_cons_zero→au,length_pos_iff→ej,getElem_mem→bB,pairwise_iff_getElem→gE,length_take→aN,take_succ_eq_append_getElem→cI,length_cons→aW,mem_cons→aQ,append_nil→bh,getElem?_map→cJ,getElem?_eq_getElem→aJ,getD_eq_getElem?_getD→bT,take_of_length_le→bZ,drop_eq_getElem_cons→cm,map_cons→bH,replicate→bg,length_replicate→dM,length_eq_zero_iff→ef,take_append_drop→cL,getElem?_append_right→gN,map_append→bI,mem_append→ah,mem_cons_of_mem→aF,mem_cons_self→aA,filter_cons→cS
open Nat renaming mod_eq_of_lt→kC,le_refl→af,add_zero→dN,zero_le→aC,le_trans→aG,min_eq_left→b_
open World renaming drew→bD,block_lt_of_cell?→bt,size_alloc→bk
open Bool renaming eq_iff_iff→jc
open Int renaming toNat_natCast→cX
section
open Go.RowKit Lib
theorem FY {fn:Func} {p u:Tmp} (h:fn.results=#[.cell p 89,.tmp u]) (tmps:Array Value) (w:World) (g:Nat) (x y:Value) (fr:Nat×Nat)
  (hp:tmps.getD p undef=.pointer (some ⟨g,0,none⟩)) (hg:w.heap[g]?=some (.cells #[x,y] 89 fr)):
  (results fn tmps).run Tryz.prog w=.ok (.tuple #[.agg #[x,y],tmps.getD u undef]) w:=by
 rw[results_cell_tmp h,hp]
 simp[asAddr,run_loadVar_row w g _ 89 _ fr _ hg Tryz.underlying89 rfl (by kernel_rfl),Result.andThen]
def gR (k v:List UInt8):List UInt8:=aY k.length::aY v.length::(k++v)
theorem gB (k v:List UInt8):(gR k v).length=2+k.length+v.length:=by simp[gR];omega
section
variable {w w':World} {p q:Nat} {n m:NV}
theorem CS (w:World) (s:ByteArray) (k v rest:List UInt8) (hs:s.data.toList=gR k v++rest) (hk:k.length≤200) (hv:v.length≤200) (hz:s.size≤1000000):
  Calls Tryz.prog 202 #[.string s] w fun e w'=>e=.returned (.tuple #[.agg #[.string (bs k),.string (bs v)],.int .i64 (2+k.length+v.length:Nat)])∧Below w.heap.size w w':=by
 have hsz:s.size=2+k.length+v.length+rest.length:=by
  have:s.data.toList.length=s.size:=aZ
  rw[←this,hs,aq,gB]
 have h0:0<s.size:=by omega
 have h1:1<s.size:=by omega
 have RU:¬(s.size:Int)<2:=by omega
 have hk':k.length<256:=by omega
 have Mc:v.length<256:=by omega
 have e0:((s[0].toNat:Nat):Int)=k.length:=by rw[←j_ s 0 h0,hs];show (((aY k.length).toNat:Nat):Int)=_;rw[dY,kC (by simpa using hk')]
 have e1:((s[1].toNat:Nat):Int)=v.length:=by rw[←j_ s 1 h1,hs];show (((aY v.length).toNat:Nat):Int)=_;rw[dY,kC (by simpa using Mc)]
 have e2:s.extract 2 (2+k.length)=bs k:=by
  apply ByteArray.ext
  apply Array.ext'
  rw[ByteArray.data_extract,Array.toList_extract,List.extract_eq_take_drop,hs]
  show List.take (2+k.length-2) (k++v++rest)=k
  rw[Nat.add_sub_cancel_left,aB,fF]
 have e3:s.extract (2+k.length) (2+k.length+v.length)=bs v:=by
  apply ByteArray.ext
  apply Array.ext'
  rw[ByteArray.data_extract,Array.toList_extract,List.extract_eq_take_drop,hs]
  show List.take _ (List.drop (2+k.length) (aY k.length::aY v.length::(k++v++rest)))=v
  rw[show 2+k.length=k.length+1+1 by omega,List.drop_succ_cons,List.drop_succ_cons,aB,List.drop_left,show k.length+1+1+v.length-(k.length+1+1)=v.length by omega,fF]
 have hle:¬(s.size:Int)<2+k.length+v.length:=by omega
 have aaj:(2:Int)+k.length≤s.size:=by omega
 have hle2:(2:Int)+k.length+v.length≤s.size:=by omega
 have s9:(k.length:Int)≤200:=by omega
 have MD:(v.length:Int)≤200:=by omega
 obtain⟨K,hK⟩:∃K,K=bs k:=⟨_,rfl⟩
 obtain⟨V,hV⟩:∃V,V=bs v:=⟨_,rfl⟩
 rw[←hK] at e2 ⊢
 rw[←hV] at e3 ⊢
 generalize k.length=a at*
 generalize v.length=b at*
 clear hs hsz hK hV hk hv hk' Mc
 go_enter Tryz.func202,Tryz.ntmps202
 go_wp2_with (refine wp_region_any (by kernel_rfl) ?_;refine Hid.o ?_)
 refine aa ?_
 try (change wpAny _ _ _ _ _ _ _ (bD _))
 have t1:(0:Int)≤2+a:=by omega
 have t2:(2:Int)≤2+a:=by omega
 have t3:(0:Int)≤2+a+b:=by omega
 have t4:(2:Int)+a≤2+a+b:=by omega
 have n1:((2:Int)+a).toNat=2+a:=by omega
 have n2:((2:Int)+a+b).toNat=2+a+b:=by omega
 refine tk 0 ?_
 refine tk 1 ?_
 refine tk 2 ?_
 refine tk 3 ?_
 refine tk 4 ?_
 refine tk 5 ?_
 refine tk 6 ?_
 refine tk 7 ?_
 refine tk 8 ?_
 try simp only[Act.put,az,ay,au]
 refine rd [9] (rn fun K hK=> ?_)
 go_simp
 refine hK _ _ ?_;clear hK K
 refine tk 10 ?_
 refine wpAny_done (by kernel_rfl) ?_ _
 go_wp2
 refine bodyPost_ret (FY rfl _ _ w.heap.size _ _ _ rfl (heap_alloc_new _ _)) rfl ?_
 refine⟨?_,((Below.refl _ w).alloc (af _) _).drew⟩
 show Ending.returned (.tuple #[.agg #[.string K,.string V],.int .i64 ((2:Int)+a+b)])=_
 go_num
structure Sound (n:NV):Prop where
 level:n.level≤15
 ne:n.its≠[]
 first:0<n.level→∀h:0<n.its.length,n.its[0].key=[]
 Zw:Jg n.its
 each:∀i∈n.its,i.key.length≤96∧i.val.length≤56∧(0<n.level→i.val.length=2)
theorem yK (h:Nd w p n) (hs:Sound n):
  Calls Tryz.prog 203 #[ptr p] w fun e w'=>e=.returned (.bool true)∧Below w.heap.size w w':=by
 have c0:=h.c0
 have c1:=h.c1
 have dH:=h.blk.lt
 have oS:(n.level:Int)≤15:=by have:=hs.level;omega
 have Zx:¬(n.level:Int)<0:=by omega
 have hpos:0<n.its.length:=ej.2 hs.ne
 have Jp:((n.its.length:Int)==0)=false:=by rw[beq_eq_false_iff_ne];omega
 have Ss:(0:Int)<n.its.length:=by omega
 have aak:decide ((15:Int)<n.level)=false:=by rw[decide_eq_false_iff_not];omega
 have Wv:decide ((n.level:Int)<0)=false:=by rw[decide_eq_false_iff_not];omega
 have hl:=h.small.len
 have iY:(n.its.length:Int)≤400:=by omega
 obtain⟨b0,k0,hb0⟩:∃b0,w.cell? ⟨n.rg,n.ro,none⟩=some (.string b0)∧(0<n.level→b0=⟨#[]⟩):=by
  obtain⟨k0,_,_⟩:=aV h.row 0 hpos
  rw[Nat.zero_mul,dN] at k0
  exact⟨_,k0,fun e=>by rw[hs.first e hpos];rfl⟩
 have HN:=aa h
 have HS:=aa hs
 have yL:=aa (fun (W:World) (hb:Below w.heap.size w W) (j:Nat) (hj:j<n.its.length)=>aV (dZ h.row hb) j hj)
 obtain⟨L,hL⟩:∃L,L=n.its.length:=⟨_,rfl⟩
 rw[←hL] at c1 Jp Ss iY
 have HL:=aa hL
 clear h hs hl hpos hL
 by_cases hlv:n.level=0
 ·have Av:¬(0:Int)<n.level:=by omega
  have HV:=aa hlv
  clear hlv hb0
  go_enter Tryz.func203,Tryz.ntmps203
  unfold ptr
  go_wp2
  go_loopw [46] (fun iv wr=>∃j:Nat,j≤L∧iv=.int .i64 j∧Hid (Below w.heap.size w wr)) (fun iv _=>L-(RowKit.intOf iv).toNat)
  case atStart=>exact⟨0,aC _,rfl,aa (Below.refl _ _)⟩
  case round=>
   obtain⟨j,hj,rfl,hB⟩:=hrel
   by_cases hlt:j<L
   ·have kX:(j:Int)<L:=by omega
    have hjl:j<n.its.length:=by rw[←HL.o];exact hlt
    obtain⟨a0,a1,a2⟩:=yL.o wr hB.o j hjl
    have c0':=(hB.o.cell (p:=⟨p,0,none⟩) dH).trans c0
    have c1':=(hB.o.cell (p:=⟨p,1,none⟩) dH).trans c1
    have he:=HS.o.each _ (bB hjl)
    have Ww:decide ((96:Int)<(bs n.its[j].key).size)=false:=by rw[aK,decide_eq_false_iff_not];omega
    have Wx:decide ((56:Int)<(bs n.its[j].val).size)=false:=by rw[aK,decide_eq_false_iff_not];omega
    have Iz:=aa (show 0<n.level→((bs n.its[j].val).size:Int)=2 from fun e=>by rw[aK];have:=he.2.2 e;omega)
    have hsz:((bs n.its[j].key).size:Int)≤96∧((bs n.its[j].val).size:Int)≤56:=by rw[aK,aK];omega
    obtain⟨Su,MF⟩:=hsz
    have HJ:=aa (show j<L from hlt)
    cases j with
    |zero=>
     generalize bs n.its[0].key=kk at*
     generalize bs n.its[0].val=vv at*
     generalize pa n.its[0].node=qq at*
     rw[Nat.zero_mul,dN] at a0 a1 a2
     clear he hlt hj hjl
     go_wp2_with fail
     obtain⟨W,hW⟩:∃W,W=wr.alloc (.cells #[.string kk,.string vv,.pointer qq] 122):=⟨_,rfl⟩
     have d0:W.cell? ⟨wr.heap.size,0,none⟩=some (.string kk):=by rw[hW];exact (aS.new wr _ _).cell rfl
     have d1:W.cell? ⟨wr.heap.size,1,none⟩=some (.string vv):=by rw[hW];exact (aS.new wr _ _).cell rfl
     have hbW:Below wr.heap.size wr W:=by rw[hW];exact (Below.refl _ wr).alloc (af _) _
     have e0:=(hbW.cell (p:=⟨p,0,none⟩) (bt _ _ c0')).trans c0'
     have e1:=(hbW.cell (p:=⟨p,1,none⟩) (bt _ _ c1')).trans c1'
     have HB:=aa (hB.o.trans (hbW.mono hB.o.size))
     rw[←hW]
     clear hW hbW c0' c1' a0 a1 a2 c0 c1 k0
     go_quiet (fail)
     have fC:=aa (HB.o.trans (show Below w.heap.size W (W.drewN nq) from⟨rfl,rfl,rfl,af _,fun _ _=>rfl⟩))
     go_wp2
     go_roundw
     case rel=>exact⟨_,HJ.o,by go_num,fC⟩
     case measure=>have:=HJ.o;simp[RowKit.intOf];try omega
    |succ i=>
     obtain⟨b0',b1',b2'⟩:=yL.o wr hB.o i (by omega)
     have xy:=gE.1 HS.o.Zw i (i+1) (by omega) hjl (by omega)
     have hq1:Op.bytesLess (bs n.its[i+1].key).toList (bs n.its[i].key).toList=false:=by rw[bE,bE,Tr.lt_eq];exact Tr.lt_asymm xy
     have Jc:((bs n.its[i+1].key).toList==(bs n.its[i].key).toList)=false:=by
      rw[bE,bE,beq_eq_false_iff_ne]
      exact fun e=>Tr.ne_of_lt xy e.symm
     generalize bs n.its[i+1].key=kk at*
     generalize bs n.its[i+1].val=vv at*
     generalize pa n.its[i+1].node=qq at*
     generalize bs n.its[i].key=pp at*
     clear he hlt hj hjl xy b1' b2'
     go_wp2_with fail
     obtain⟨W,hW⟩:∃W,W=wr.alloc (.cells #[.string kk,.string vv,.pointer qq] 122):=⟨_,rfl⟩
     have d0:W.cell? ⟨wr.heap.size,0,none⟩=some (.string kk):=by rw[hW];exact (aS.new wr _ _).cell rfl
     have d1:W.cell? ⟨wr.heap.size,1,none⟩=some (.string vv):=by rw[hW];exact (aS.new wr _ _).cell rfl
     have hbW:Below wr.heap.size wr W:=by rw[hW];exact (Below.refl _ wr).alloc (af _) _
     have e0:=(hbW.cell (p:=⟨p,0,none⟩) (bt _ _ c0')).trans c0'
     have e1:=(hbW.cell (p:=⟨p,1,none⟩) (bt _ _ c1')).trans c1'
     have f0:=(hbW.cell (p:=⟨n.rg,n.ro+i*3,none⟩) (bt _ _ b0')).trans b0'
     have HB:=aa (hB.o.trans (hbW.mono hB.o.size))
     rw[←hW]
     clear hW hbW c0' c1' a0 a1 a2 c0 c1 k0 b0'
     go_quiet (fail)
     have fC:=aa (HB.o.trans (show Below w.heap.size W (W.drewN nq) from⟨rfl,rfl,rfl,af _,fun _ _=>rfl⟩))
     go_wp2
     go_roundw
     case rel=>exact⟨_,HJ.o,by go_num,fC⟩
     case measure=>have:=HJ.o;simp[RowKit.intOf];try omega
   ·have kX:¬(j:Int)<L:=by omega
    clear hlt hj
    go_wp2
    go_ret
    exact⟨rfl,hB.o⟩
 ·have Av:(0:Int)<n.level:=by omega
  have HV:=aa hlv
  have bF:=hb0 (by omega)
  have aP:b0.toList.isEmpty=true:=by rw[bF];exact (congrArg List.isEmpty (bE []))
  have bY:b0.toList=[]:=by rw[bF];exact bE []
  clear hlv hb0 bF
  go_enter Tryz.func203,Tryz.ntmps203
  unfold ptr
  go_wp2
  go_loopw [46] (fun iv wr=>∃j:Nat,j≤L∧iv=.int .i64 j∧Hid (Below w.heap.size w wr)) (fun iv _=>L-(RowKit.intOf iv).toNat)
  case atStart=>exact⟨0,aC _,rfl,aa (Below.refl _ _)⟩
  case round=>
   obtain⟨j,hj,rfl,hB⟩:=hrel
   by_cases hlt:j<L
   ·have kX:(j:Int)<L:=by omega
    have hjl:j<n.its.length:=by rw[←HL.o];exact hlt
    obtain⟨a0,a1,a2⟩:=yL.o wr hB.o j hjl
    have c0':=(hB.o.cell (p:=⟨p,0,none⟩) dH).trans c0
    have c1':=(hB.o.cell (p:=⟨p,1,none⟩) dH).trans c1
    have he:=HS.o.each _ (bB hjl)
    have Ww:decide ((96:Int)<(bs n.its[j].key).size)=false:=by rw[aK,decide_eq_false_iff_not];omega
    have Wx:decide ((56:Int)<(bs n.its[j].val).size)=false:=by rw[aK,decide_eq_false_iff_not];omega
    have Iz:=aa (show 0<n.level→((bs n.its[j].val).size:Int)=2 from fun e=>by rw[aK];have:=he.2.2 e;omega)
    have hsz:((bs n.its[j].key).size:Int)≤96∧((bs n.its[j].val).size:Int)≤56:=by rw[aK,aK];omega
    obtain⟨Su,MF⟩:=hsz
    have HJ:=aa (show j<L from hlt)
    cases j with
    |zero=>
     generalize bs n.its[0].key=kk at*
     generalize bs n.its[0].val=vv at*
     generalize pa n.its[0].node=qq at*
     rw[Nat.zero_mul,dN] at a0 a1 a2
     have hvs:=Iz.o (by have:=HV.o;omega)
     have Wy:((vv.size:Int)==2)=true:=by rw[hvs];rfl
     clear he hlt hj hjl
     go_wp2_with fail
     obtain⟨W,hW⟩:∃W,W=wr.alloc (.cells #[.string kk,.string vv,.pointer qq] 122):=⟨_,rfl⟩
     have d0:W.cell? ⟨wr.heap.size,0,none⟩=some (.string kk):=by rw[hW];exact (aS.new wr _ _).cell rfl
     have d1:W.cell? ⟨wr.heap.size,1,none⟩=some (.string vv):=by rw[hW];exact (aS.new wr _ _).cell rfl
     have hbW:Below wr.heap.size wr W:=by rw[hW];exact (Below.refl _ wr).alloc (af _) _
     have e0:=(hbW.cell (p:=⟨p,0,none⟩) (bt _ _ c0')).trans c0'
     have e1:=(hbW.cell (p:=⟨p,1,none⟩) (bt _ _ c1')).trans c1'
     have HB:=aa (hB.o.trans (hbW.mono hB.o.size))
     rw[←hW]
     clear hW hbW c0' c1' a0 a1 a2 c0 c1 k0
     go_quiet (fail)
     have fC:=aa (HB.o.trans (show Below w.heap.size W (W.drewN nq) from⟨rfl,rfl,rfl,af _,fun _ _=>rfl⟩))
     go_wp2
     go_roundw
     case rel=>exact⟨_,HJ.o,by go_num,fC⟩
     case measure=>have:=HJ.o;simp[RowKit.intOf];try omega
    |succ i=>
     obtain⟨b0',b1',b2'⟩:=yL.o wr hB.o i (by omega)
     have xy:=gE.1 HS.o.Zw i (i+1) (by omega) hjl (by omega)
     have hq1:Op.bytesLess (bs n.its[i+1].key).toList (bs n.its[i].key).toList=false:=by rw[bE,bE,Tr.lt_eq];exact Tr.lt_asymm xy
     have Jc:((bs n.its[i+1].key).toList==(bs n.its[i].key).toList)=false:=by
      rw[bE,bE,beq_eq_false_iff_ne]
      exact fun e=>Tr.ne_of_lt xy e.symm
     generalize bs n.its[i+1].key=kk at*
     generalize bs n.its[i+1].val=vv at*
     generalize pa n.its[i+1].node=qq at*
     generalize bs n.its[i].key=pp at*
     have hvs:=Iz.o (by have:=HV.o;omega)
     have Wy:((vv.size:Int)==2)=true:=by rw[hvs];rfl
     clear he hlt hj hjl xy b1' b2'
     go_wp2_with fail
     obtain⟨W,hW⟩:∃W,W=wr.alloc (.cells #[.string kk,.string vv,.pointer qq] 122):=⟨_,rfl⟩
     have d0:W.cell? ⟨wr.heap.size,0,none⟩=some (.string kk):=by rw[hW];exact (aS.new wr _ _).cell rfl
     have d1:W.cell? ⟨wr.heap.size,1,none⟩=some (.string vv):=by rw[hW];exact (aS.new wr _ _).cell rfl
     have hbW:Below wr.heap.size wr W:=by rw[hW];exact (Below.refl _ wr).alloc (af _) _
     have e0:=(hbW.cell (p:=⟨p,0,none⟩) (bt _ _ c0')).trans c0'
     have e1:=(hbW.cell (p:=⟨p,1,none⟩) (bt _ _ c1')).trans c1'
     have f0:=(hbW.cell (p:=⟨n.rg,n.ro+i*3,none⟩) (bt _ _ b0')).trans b0'
     have HB:=aa (hB.o.trans (hbW.mono hB.o.size))
     rw[←hW]
     clear hW hbW c0' c1' a0 a1 a2 c0 c1 k0 b0'
     go_quiet (fail)
     have fC:=aa (HB.o.trans (show Below w.heap.size W (W.drewN nq) from⟨rfl,rfl,rfl,af _,fun _ _=>rfl⟩))
     go_wp2
     go_roundw
     case rel=>exact⟨_,HJ.o,by go_num,fC⟩
     case measure=>have:=HJ.o;simp[RowKit.intOf];try omega
   ·have kX:¬(j:Int)<L:=by omega
    clear hlt hj
    go_wp2
    go_ret
    exact⟨rfl,hB.o⟩
end
def hasB (lo hi key:List UInt8):Bool:= !Tr.lt key lo&& !(!hi.isEmpty&& !Tr.lt key hi)
section
variable {w w':World} {p q:Nat} {n m:NV}
theorem wG (h:Nd w p n) (lo hi:List UInt8) (hlv:n.level=0) (hne:n.its≠[]) (ha:∀i∈n.its,hasB lo hi i.key=true):
  Calls Tryz.prog 168 #[ptr p,.agg #[.string (bs lo),.string (bs hi)]] w fun e w'=>e=.returned (.bool true)∧Below w.heap.size w w':=by
 have c0:=h.c0
 have c1:=h.c1
 have hpos:0<n.its.length:=ej.2 hne
 have Jp:((n.its.length:Int)==0)=false:=by rw[beq_eq_false_iff_ne];omega
 have Av:¬(0:Int)<n.level:=by omega
 have hl:=h.small.len
 have iY:(n.its.length:Int)≤400:=by omega
 have xz:(0:Int)<n.its.length:=by omega
 have a0:=(aV h.row 0 hpos).1
 have a1:=(aV h.row (n.its.length-1) (by omega)).1
 rw[Nat.zero_mul,dN] at a0
 have h0:=ha _ (bB hpos)
 have h1:=ha _ (bB (show n.its.length-1<n.its.length by omega))
 generalize n.its[0].key=k0 at*
 generalize n.its[n.its.length-1].key=k1 at*
 have hrl:=bt _ _ a0
 have dH:=h.blk.lt
 have HC:=aa (show ∀(W:World) (k:List UInt8),hasB lo hi k=true→Calls Tryz.prog 95 #[.agg #[.string (bs lo),.string (bs hi)],.string (bs k)] W fun e w'=>e=.returned (.bool true)∧Below W.heap.size W w' from fun W k hk=>by
  have:=mV W lo hi k
  unfold hasB at hk
  rwa [hk] at this)
 generalize bs lo=l at*
 generalize bs hi=hh at*
 obtain⟨L,hL⟩:∃L,L=n.its.length:=⟨_,rfl⟩
 rw[←hL] at c1 Jp iY xz a1 hpos
 clear h ha hne hl hL
 obtain⟨M,rfl⟩:∃M,L=M+1:=⟨L-1,by omega⟩
 rw[Nat.add_sub_cancel] at a1
 have hMI:(M:Int)<M+1:=by omega
 have hMw:IntKind.i64.wrap (M:Int)=M:=cN M (by omega)
 have hM0:((M:Int)+1==0)=false:=by rw[beq_eq_false_iff_ne];omega
 go_enter Tryz.func168,Tryz.ntmps168
 unfold ptr
 go_wp2_with (refine wp_region_held_drew (S:=(fun X=>X.cell? ⟨w.heap.size,0,none⟩=some (.string l)∧X.cell? ⟨w.heap.size,1,none⟩=some (.string hh)∧X.cell? ⟨n.rg,n.ro,none⟩=some (.string (bs k0))∧X.cell? ⟨n.rg,n.ro+M*3,none⟩=some (.string (bs k1)))) (by kernel_rfl) ?_ (fun aD=> ?_);focus skip;rotate_left;refine Hid.o ?_)
 refine aa ?_
 ·trivial
 have HW:=aa ((Below.refl w.heap.size w).alloc (af _) (.cells #[.string l,.string hh] 125))
 refine bu 0 aD ?_
 refine bu 1 aD ?_
 refine bu 2 aD ?_
 refine bu 3 aD ?_
 try simp only[Act.put,az,ay,au]
 refine bu 4 aD ?_
 refine bu 5 aD ?_
 refine bu 6 aD ?_
 refine bu 7 aD ?_
 refine bu 8 aD ?_
 refine bu 9 aD ?_
 try simp only[Act.put,az,ay,au]
 refine iL [10] (iM fun K hK=> ?_)
 go_simp
 refine (HC.o _ k0 h0).mono ?_
 rintro e w8 ⟨rfl,rB⟩
 have H8:=aa rB
 refine hK.out _ _ ⟨(rB.cell (bt _ _ aD.1)).trans aD.1,(rB.cell (bt _ _ aD.2.1)).trans aD.2.1,(rB.cell (bt _ _ aD.2.2.1)).trans aD.2.2.1,(rB.cell (bt _ _ aD.2.2.2)).trans aD.2.2.2⟩ (fun aD=> ?_);clear hK K rB
 try simp only[Act.put,az,ay,au]
 refine bu 11 aD ?_
 try simp only[Act.put,az,ay,au]
 refine bu 12 aD ?_
 refine bu 13 aD ?_
 refine bu 14 aD ?_
 refine bu 15 aD ?_
 try simp only[Act.put,az,ay,au]
 refine bu 16 aD ?_
 refine bu 17 aD ?_
 try simp only[Act.put,az,ay,au]
 refine bu 18 aD ?_
 refine bu 19 aD ?_
 refine bu 20 aD ?_
 try simp only[Act.put,az,ay,au]
 refine iL [21] (iM fun K hK=> ?_)
 go_simp
 refine (HC.o _ k1 h1).mono ?_
 rintro e w9 ⟨rfl,k_⟩
 have H9:=aa k_
 refine hK.out _ _ ⟨(k_.cell (bt _ _ aD.1)).trans aD.1,(k_.cell (bt _ _ aD.2.1)).trans aD.2.1,(k_.cell (bt _ _ aD.2.2.1)).trans aD.2.2.1,(k_.cell (bt _ _ aD.2.2.2)).trans aD.2.2.2⟩ (fun aD=> ?_);clear hK K k_
 try simp only[Act.put,az,ay,au]
 refine bu 22 aD ?_
 refine bu 23 aD ?_
 refine bu 24 aD ?_
 refine wpAnyH_done (by kernel_rfl) ?_ _
 have HB:=aa ((HW.o.drew.trans (H8.o.mono (by simp only[World.size_drew,bk];omega))).trans (H9.o.mono (aG (by simp only[World.size_drew,bk];omega) H8.o.size)))
 go_wp2
 go_ret
 exact⟨rfl,HB.o⟩
theorem uo (h:Nd w p n) (lo hi:List UInt8) (hlv:0<n.level) (hne:n.its≠[]) (ha:∀i∈n.its.tail,hasB lo hi i.key=true):
  Calls Tryz.prog 168 #[ptr p,.agg #[.string (bs lo),.string (bs hi)]] w fun e w'=>e=.returned (.bool true)∧Below w.heap.size w w':=by
 have c0:=h.c0
 have c1:=h.c1
 have hpos:0<n.its.length:=ej.2 hne
 have Av:(0:Int)<n.level:=by omega
 have hl:=h.small.len
 have hcap:=h.small.cap.1
 have iY:(n.its.length:Int)≤400:=by omega
 by_cases h2:2≤n.its.length
 ·have a0:=(aV h.row 1 (by omega)).1
  have a1:=(aV h.row (n.its.length-1) (by omega)).1
  have h0:=ha n.its[1] (by
   rw[List.mem_iff_getElem]
   exact⟨0,by rw[List.length_tail];omega,by rw[List.getElem_tail]⟩)
  have h1:=ha n.its[n.its.length-1] (by
   rw[List.mem_iff_getElem]
   exact⟨n.its.length-2,by rw[List.length_tail];omega,by rw[List.getElem_tail];congr 1;omega⟩)
  rw[Nat.one_mul] at a0
  generalize n.its[1].key=k0 at*
  generalize n.its[n.its.length-1].key=k1 at*
  have HC:=aa (show ∀(W:World) (k:List UInt8),hasB lo hi k=true→Calls Tryz.prog 95 #[.agg #[.string (bs lo),.string (bs hi)],.string (bs k)] W fun e w'=>e=.returned (.bool true)∧Below W.heap.size W w' from fun W k hk=>by
   have:=mV W lo hi k
   unfold hasB at hk
   rwa [hk] at this)
  generalize bs lo=l at*
  generalize bs hi=hh at*
  obtain⟨M,hM⟩:∃M,n.its.length=M+2:=⟨n.its.length-2,by omega⟩
  rw[hM] at c1 iY hcap a1
  rw[show M+2-1=M+1 by omega,show n.ro+(M+1)*3=n.ro+3+M*3 by omega] at a1
  have hMI:(M:Int)<M+1:=by omega
  have hMw:IntKind.i64.wrap (M:Int)=M:=cN M (by omega)
  have hM0:((M:Int)+1==0)=false:=by rw[beq_eq_false_iff_ne];omega
  have hc1:¬n.cap=1:=by omega
  have hrl:=bt _ _ a0
  have dH:=h.blk.lt
  clear h ha hne hl hM hpos h2 hlv
  go_enter Tryz.func168,Tryz.ntmps168
  unfold ptr
  go_wp2_with (refine wp_region_held_drew (S:=(fun X=>X.cell? ⟨w.heap.size,0,none⟩=some (.string l)∧X.cell? ⟨w.heap.size,1,none⟩=some (.string hh)∧X.cell? ⟨n.rg,n.ro+3,none⟩=some (.string (bs k0))∧X.cell? ⟨n.rg,n.ro+3+M*3,none⟩=some (.string (bs k1)))) (by kernel_rfl) ?_ (fun aD=> ?_);focus skip;rotate_left;refine Hid.o ?_)
  refine aa ?_
  ·trivial
  have HW:=aa ((Below.refl w.heap.size w).alloc (af _) (.cells #[.string l,.string hh] 125))
  refine bu 0 aD ?_
  refine bu 1 aD ?_
  refine bu 2 aD ?_
  refine bu 3 aD ?_
  try simp only[Act.put,az,ay,au]
  refine bu 4 aD ?_
  refine bu 5 aD ?_
  refine bu 6 aD ?_
  refine bu 7 aD ?_
  refine bu 8 aD ?_
  refine bu 9 aD ?_
  try simp only[Act.put,az,ay,au]
  refine iL [10] (iM fun K hK=> ?_)
  go_simp
  refine (HC.o _ k0 h0).mono ?_
  rintro e w8 ⟨rfl,rB⟩
  have H8:=aa rB
  refine hK.out _ _ ⟨(rB.cell (bt _ _ aD.1)).trans aD.1,(rB.cell (bt _ _ aD.2.1)).trans aD.2.1,(rB.cell (bt _ _ aD.2.2.1)).trans aD.2.2.1,(rB.cell (bt _ _ aD.2.2.2)).trans aD.2.2.2⟩ (fun aD=> ?_);clear hK K rB
  try simp only[Act.put,az,ay,au]
  refine bu 11 aD ?_
  try simp only[Act.put,az,ay,au]
  refine bu 12 aD ?_
  refine bu 13 aD ?_
  refine bu 14 aD ?_
  refine bu 15 aD ?_
  try simp only[Act.put,az,ay,au]
  refine bu 16 aD ?_
  refine bu 17 aD ?_
  try simp only[Act.put,az,ay,au]
  refine bu 18 aD ?_
  refine bu 19 aD ?_
  refine bu 20 aD ?_
  try simp only[Act.put,az,ay,au]
  refine iL [21] (iM fun K hK=> ?_)
  go_simp
  refine (HC.o _ k1 h1).mono ?_
  rintro e w9 ⟨rfl,k_⟩
  have H9:=aa k_
  refine hK.out _ _ ⟨(k_.cell (bt _ _ aD.1)).trans aD.1,(k_.cell (bt _ _ aD.2.1)).trans aD.2.1,(k_.cell (bt _ _ aD.2.2.1)).trans aD.2.2.1,(k_.cell (bt _ _ aD.2.2.2)).trans aD.2.2.2⟩ (fun aD=> ?_);clear hK K k_
  try simp only[Act.put,az,ay,au]
  refine bu 22 aD ?_
  refine bu 23 aD ?_
  refine bu 24 aD ?_
  refine wpAnyH_done (by kernel_rfl) ?_ _
  have HB:=aa ((HW.o.drew.trans (H8.o.mono (by simp only[World.size_drew,bk];omega))).trans (H9.o.mono (aG (by simp only[World.size_drew,bk];omega) H8.o.size)))
  go_wp2
  go_ret
  exact⟨rfl,HB.o⟩
 ·have h1:n.its.length=1:=by omega
  rw[h1] at c1 hcap
  generalize bs lo=l at*
  generalize bs hi=hh at*
  have HB:=aa ((Below.refl w.heap.size w).alloc (af _) (.cells #[.string l,.string hh] 125))
  have Cm:(1:Int)≤n.cap:=by omega
  have dH:=h.blk.lt
  clear h ha hne hl h1 hpos h2 hlv iY
  by_cases hc1:n.cap=1
  ·rw[hc1] at c1
   go_enter Tryz.func168,Tryz.ntmps168
   unfold ptr
   go_wp2_with fail
   go_quiet (fail)
   have fC:=aa (HB.o.trans (show Below w.heap.size _ ((w.alloc (.cells #[.string l,.string hh] 125)).drewN nq) from⟨rfl,rfl,rfl,af _,fun _ _=>rfl⟩))
   go_wp2
   go_ret
   exact⟨rfl,fC.o⟩
  ·go_enter Tryz.func168,Tryz.ntmps168
   unfold ptr
   go_wp2_with fail
   go_quiet (fail)
   have fC:=aa (HB.o.trans (show Below w.heap.size _ ((w.alloc (.cells #[.string l,.string hh] 125)).drewN nq) from⟨rfl,rfl,rfl,af _,fun _ _=>rfl⟩))
   go_wp2
   go_ret
   exact⟨rfl,fC.o⟩
end
theorem Mq.le {l t:List UInt8} {c:UInt8} (h:Mq l c t):t.length≤l.length:=by
 obtain⟨m,_,rfl,_⟩:=h
 rw[aN];exact Nat.min_le_right _ _
theorem Aw (s:ByteArray) (w:World) (hs:s.size≤9223372036854775807):
  Calls Tryz.prog 96 #[.string s,.string ⟨#[0]⟩] w fun e w'=>(∃t:ByteArray,e=.returned (.string t)∧(t.data.toList=[]↔Wl.blank s.data.toList=true))∧∃n,w'=w.drewN n:=by
 by_cases h0:s.size=0
 ·have hd:s.data.toList=[]:=List.eq_nil_of_length_eq_zero (by rw[aZ];exact h0)
  have hs1:s.toList.isEmpty=true:=by rw[ByteArray.toList_eq,hd];rfl
  have kN:s.toList=[]:=by rw[ByteArray.toList_eq,hd]
  have HD:=aa hd
  clear hd h0
  go_enter Tryz.func96,Tryz.ntmps96
  go_wp2
  go_ret
  refine⟨⟨s,rfl, ?_⟩,0,rfl⟩
  rw[HD.o];exact⟨fun _=>rfl,fun _=>rfl⟩
 ·have hs1:s.toList.isEmpty=false:=by
   rw[ByteArray.toList_eq,List.isEmpty_eq_false_iff]
   intro h
   apply h0
   have:=congrArg List.length h
   rw[aZ] at this
   exact this
  have kN:(!s.toList.isEmpty)=true:=by rw[hs1];rfl
  go_enter Tryz.func96,Tryz.ntmps96
  go_wp2
  go_region_held3 (fun _=>True) (exact trivial)
   (first
    |(go_at_call 146;refine (wC s 0 _ hs).mono ?_;rintro e w1 ⟨⟨t,rfl,ht⟩,rfl⟩)
    |(go_at_call 145;refine (yG t 0 _ ?_).mono ?_;(have:=ht.le;rw[aZ,aZ] at this;exact aG this hs);rintro e w2 ⟨⟨u,rfl,hu⟩,rfl⟩))
  all_goals (go_wp2;go_ret;exact⟨⟨u,rfl,Jb ht hu⟩,1,rfl⟩)
theorem CU (s:ByteArray) (w:World) (hs:s.size≤9223372036854775807):
  Calls Tryz.prog 60 #[.string s] w fun e w'=>e=.returned (.bool (Wl.blank s.data.toList))∧∃n,w'=w.drewN n:=by
 go_enter Tryz.func60,Tryz.ntmps60
 go_wp2_with fail
 refine (Aw s w hs).mono ?_
 rintro e w1 ⟨⟨t,rfl,ht⟩,n,rfl⟩
 have HB:=aa (show t.toList.isEmpty=Wl.blank s.data.toList by
  rw[ByteArray.toList_eq,jc,List.isEmpty_iff];exact ht)
 clear ht
 go_wp2
 go_ret
 refine⟨iB ?_,n,rfl⟩
 rw[←HB.o]
theorem aE.Jq {w w' w'':World} {v:Value} (h:Below w.heap.size w w') (hb:aE (fun k=>v.ownBlock=some k) w' w'') (hv:∀k,v.ownBlock=some k→w.heap.size≤k):Below w.heap.size w w'':=
 h.trans (hb.below h.size (fun k hk e=>by have:=hv k e;omega))
theorem CV (size ring at_ num:Nat):Wl.title++(([size,ring,at_,num]:List Nat).take 4).flatMap (Wl.enc 8)=Wl.first size ring at_ num:=by
 simp[Wl.first]
theorem FZ (l:List Nat) (k:Nat) (h:k<l.length):(l.take (k+1)).flatMap (Wl.enc 8)=(l.take k).flatMap (Wl.enc 8)++Wl.enc 8 l[k]:=by
 rw[cI h,List.flatMap_append];simp
theorem Jr (l:List Nat):(l.flatMap (Wl.enc 8)).length=8*l.length:=by
 induction l with
 |nil=>rfl
 |cons a l ih=>rw[List.flatMap_cons,aq,ih,Wl.cv,aW];omega
theorem wH (size ring at_ num:Nat) (w:World) (h1:size≤1000000) (h2:ring≤1000000) (h3:at_≤1000000) (h4:num<2^64):
  Calls Tryz.prog 63 #[.int .i64 size,.int .i64 ring,.agg #[.int .i64 at_,.int .u64 num]] w fun e w'=>e=.returned (.string (bs (Wl.first size ring at_ num)))∧Below w.heap.size w w':=by
 have HN:=aa (And.intro h1 (And.intro h2 (And.intro h3 h4)))
 have i1:(size:Int)≤1000000:=by omega
 have i2:(ring:Int)≤1000000:=by omega
 have i3:(at_:Int)≤1000000:=by omega
 clear h1 h2 h3 h4
 have kc:(convert 94 94 (.slice (some ⟨w.heap.size+1,0,none⟩) 14 14)).run Tryz.prog ((w.alloc (.cells #[.int .i64 at_,.int .u64 num] 106)).alloc (.cells #[.int .u8 99,.int .u8 111,.int .u8 111,.int .u8 112,.int .u8 101,.int .u8 114,.int .u8 97,.int .u8 103,.int .u8 101,.int .u8 32,.int .u8 108,.int .u8 111,.int .u8 103,.int .u8 10] 5))=.ok (.slice (some ⟨w.heap.size+1,0,none⟩) 14 14) ((w.alloc (.cells #[.int .i64 at_,.int .u64 num] 106)).alloc (.cells #[.int .u8 99,.int .u8 111,.int .u8 111,.int .u8 112,.int .u8 101,.int .u8 114,.int .u8 97,.int .u8 103,.int .u8 101,.int .u8 32,.int .u8 108,.int .u8 111,.int .u8 103,.int .u8 10] 5 (14,15))):=by
  have:=Lib.run_convert_bytes_const (P:=Tryz.prog) (w.alloc (.cells #[.int .i64 at_,.int .u64 num] 106)) 94 5 #[.int .u8 99,.int .u8 111,.int .u8 111,.int .u8 112,.int .u8 101,.int .u8 114,.int .u8 97,.int .u8 103,.int .u8 101,.int .u8 32,.int .u8 108,.int .u8 111,.int .u8 103,.int .u8 10] 14 14 Tryz.underlying94 Tryz.underlying5
  rw[bk] at this
  exact this
 go_enter Tryz.func63,Tryz.ntmps63
 go_wp2
 obtain⟨V,hV⟩:∃V,V=(((w.alloc (.cells #[.int .i64 at_,.int .u64 num] 106)).alloc (.cells #[.int .u8 99,.int .u8 111,.int .u8 111,.int .u8 112,.int .u8 101,.int .u8 114,.int .u8 97,.int .u8 103,.int .u8 101,.int .u8 32,.int .u8 108,.int .u8 111,.int .u8 103,.int .u8 10] 5 (14,15))).alloc (.cells #[.int .u64 size,.int .u64 ring,.int .u64 at_,.int .u64 num] 33)):=⟨_,rfl⟩
 rw[←hV]
 have HW:=aa (show Below w.heap.size w V by rw[hV];exact (((Below.refl _ _).alloc (af _) _).alloc (by simp) _).alloc (by simp;omega) _)
 have HO:=aa (show eO false 0 V (.slice (some ⟨w.heap.size+1,0,none⟩) 14 14) Wl.title by
  have:=(eO.const (w.alloc (.cells #[.int .i64 at_,.int .u64 num] 106)) Wl.title (by decide)).alloc (.cells #[.int .u64 size,.int .u64 ring,.int .u64 at_,.int .u64 num] 33)
  rw[bk] at this
  rw[hV];exact this)
 have HB:=aa (show aS V (w.heap.size+1+1) 33 ([size,ring,at_,num].map fun (n:Nat)=>Value.int .u64 (n:Int)) by
  have:=aS.new ((w.alloc (.cells #[.int .i64 at_,.int .u64 num] 106)).alloc (.cells #[.int .u8 99,.int .u8 111,.int .u8 111,.int .u8 112,.int .u8 101,.int .u8 114,.int .u8 97,.int .u8 103,.int .u8 101,.int .u8 32,.int .u8 108,.int .u8 111,.int .u8 103,.int .u8 10] 5 (14,15))) #[.int .u64 size,.int .u64 ring,.int .u64 at_,.int .u64 num] 33
  rw[bk,bk] at this
  rw[hV];exact this)
 have HL:=aa (show ∀n∈[size,ring,at_,num],n<2^64 by
  intro n hn
  obtain⟨h1,h2,h3,h4⟩:=HN.o
  simp only[aQ,List.not_mem_nil,or_false] at hn
  rcases hn with rfl|rfl|rfl|rfl<;>omega)
 have HS:=aa (show V.heap.size=w.heap.size+3 by rw[hV];simp)
 clear hV kc
 go_loopw [7,23] (fun u i wr=>∃k:Nat,k≤4∧i=.int .i64 k∧Hid (eO false 0 wr u (Wl.title++([size,ring,at_,num].take k).flatMap (Wl.enc 8)))∧Hid (∀x,u.ownBlock=some x→w.heap.size≤x)∧Hid (Below w.heap.size w wr)∧Hid (aS wr (w.heap.size+1+1) 33 ([size,ring,at_,num].map fun (n:Nat)=>Value.int .u64 (n:Int)))∧Hid (w.heap.size+3≤wr.heap.size)) (fun _ i _=>4-(RowKit.intOf i).toNat)
 case atStart=>exact⟨0,by decide,rfl,aa (by rw[List.take_zero,List.flatMap_nil,bh];exact HO.o),aa (fun x hx=>by simp[Value.ownBlock] at hx;omega),HW,HB,aa (by have:=HS.o;omega)⟩
 case round=>
  obtain⟨k,hk,rfl,ho,hx,hw,hb,hsz⟩:=hrel
  by_cases hlt:k<4
  ·have hI:(k:Int)<4:=by omega
   have hcell:wr.cell? ⟨w.heap.size+1+1,k,none⟩=some (.int .u64 (([size,ring,at_,num]:List Nat)[k]:Int)):=hb.o.cell (by rw[cJ,aJ hlt];rfl)
   have HLk:=aa (HL.o _ (bB hlt))
   have HT:=aa (FZ [size,ring,at_,num] k hlt)
   have wo:=aa (Jr (([size,ring,at_,num]:List Nat).take k))
   generalize ([size,ring,at_,num]:List Nat)[k]=n at*
   go_wp2_with fail
   refine (q9 false 0 wr _ _ n 8 ho.o (aC _) (by rw[aq,wo.o,aN];have:Wl.title.length=14:=rfl;omega) HLk.o (by decide)).mono ?_
   rintro e w1 ⟨v1,rfl,qU,MG,Sv⟩
   have HR:=aa (show eO false 0 w1 v1 (Wl.title++([size,ring,at_,num].take (k+1)).flatMap (Wl.enc 8))∧(∀x,v1.ownBlock=some x→w.heap.size≤x)∧Below w.heap.size w w1∧aS w1 (w.heap.size+1+1) 33 ([size,ring,at_,num].map fun (n:Nat)=>Value.int .u64 (n:Int))∧w.heap.size+3≤w1.heap.size from⟨by rw[HT.o,←aB];exact qU,fun x hx'=>by
     rcases Sv with h|h
     ·rw[h] at hx';exact hx.o x hx'
     ·have:=h x hx';have:=hsz.o;omega,aE.Jq hw.o MG hx.o,hb.o.but MG (fun e=>by
      obtain⟨cur,fz,h5⟩:=ho.o.typed e
      have:=hb.o
      unfold aS at this
      rw[this] at h5
      injection h5 with h5
      injection h5 with _ h5
      cases h5),aG hsz.o MG.size⟩)
   clear qU MG Sv hcell
   go_wp2
   go_roundw
   case rel=>exact⟨k+1,by omega,by go_num,aa HR.o.1,aa HR.o.2.1,aa HR.o.2.2.1,aa HR.o.2.2.2.1,aa HR.o.2.2.2.2⟩
   case measure=>simp[RowKit.intOf];omega
  ·have yB:k=4:=by omega
   subst yB
   have hbk:=ho.o.back
   rw[CV] at hbk
   go_wp2
   go_ret
   exact⟨rfl,hw.o⟩
theorem xA (w:World) (F:Nat→Prop) (b g:Nat) (s:Wl.Lg) (hl:Log w F b g s):
  Calls Tryz.prog 218 #[ptr b] w fun e w'=>e=.returned (.bool s.off)∧w'=w:=by
 obtain⟨mb,FD,h⟩:=hl
 have c0:=h.c0
 have c7:=h.c7
 have HS:=aa h.sec
 clear h
 unfold Wl.Lg.off
 cases hd:s.down
 ·rw[hd] at c7
  go_enter Tryz.func218,Tryz.ntmps218
  unfold ptr
  go_wp2_with fail
  refine (eG _ _ _ _ HS.o).mono ?_
  rintro e w1 ⟨rfl,rfl⟩
  go_wp2
  go_ret
  exact⟨rfl,rfl⟩
 ·rw[hd] at c7
  go_enter Tryz.func218,Tryz.ntmps218
  unfold ptr
  go_wp2
  go_ret
  exact⟨rfl,rfl⟩
theorem nK (w:World) (F:Nat→Prop) (b g:Nat) (s:Wl.Lg) (hl:Log w F b g s):
  Calls Tryz.prog 200 #[ptr b] w fun e w'=>e=.returned (.int .i64 s.homes)∧w'=w:=by
 obtain⟨mb,FD,h⟩:=hl
 have c2:=h.c2
 clear h
 go_enter Tryz.func200,Tryz.ntmps200
 unfold ptr
 go_wp2
 go_ret
 exact⟨rfl,rfl⟩
def Wl.Lg.has (s:Wl.Lg) (i:Int):Bool:=decide (0≤i)&&decide (i<s.homes)
theorem Js (w:World) (F:Nat→Prop) (b g:Nat) (s:Wl.Lg) (i:Int) (hl:Log w F b g s):
  Calls Tryz.prog 219 #[ptr b,.int .i64 i] w fun e w'=>e=.returned (.bool (s.has i))∧w'=w:=by
 obtain⟨mb,FD,h⟩:=hl
 have c2:=h.c2
 clear h
 unfold Wl.Lg.has
 by_cases hi:0≤i
 ·go_enter Tryz.func219,Tryz.ntmps219
  unfold ptr
  go_wp2
  go_ret
  refine⟨iB ?_,rfl⟩
  simp[hi]
 ·go_enter Tryz.func219,Tryz.ntmps219
  unfold ptr
  go_wp2
  go_ret
  refine⟨iB ?_,rfl⟩
  simp only[Bool.false_eq,Bool.and_eq_false_iff,decide_eq_false_iff_not]
  omega
theorem yM (w:World) (F:Nat→Prop) (b g:Nat) (s:Wl.Lg) (i:Nat) (hl:Log w F b g s) (hr:s.ring≤4096) (hi:i≤1000000):
  Calls Tryz.prog 220 #[ptr b,.int .i64 i] w fun e w'=>e=.returned (.int .i64 ((1+s.ring+i:Nat):Int))∧w'=w:=by
 obtain⟨mb,FD,h⟩:=hl
 have c1:=h.c1
 clear h
 have hr':(s.ring:Int)≤4096:=by omega
 have hi':(i:Int)≤1000000:=by omega
 go_enter Tryz.func220,Tryz.ntmps220
 unfold ptr
 go_wp2
 go_ret
 exact⟨IQ (by omega),rfl⟩
end
section
open Go.RowKit Go.Shelf Lib
attribute [local go_sem] Oper.semAt_some
def Jt (l:List UInt8) (pre:List Nat):List (List UInt8):=pre.map fun k=>112::((l.drop (511*k)).take 511)
def LI (w:World) (p:Nat) (g:Wl.eE) (dg dc:Nat) (cur:Array Value) (pre:List Nat) (W:World):Prop:=
 ((∃v,Boxed W p 64 v∧W.ownsRow p 9 1 v pre.length ((Jt (Wl.pack g) pre).map fun t=>Value.string (bs t))∧True)∧
  (Boxed W (p+1) 94 (.slice (some ⟨dg,0,none⟩) (Wl.pack g).length dc)∧Boxed W (p+1+1) 3 (.int .i64 511)∧W.heap[dg]?=some (.cells cur 5 (0,0))))∧Below w.heap.size w W
end
section
open Go.RowKit Lib
theorem Wl.Lg.xB (s:Wl.Lg):s.with (s.down,s.d)=s:=by cases s;rfl
theorem CW (w:World) (F:Nat→Prop) (b g:Nat) (s:Wl.Lg) (i:Nat) (t:ByteArray) (hl:Log w F b g s) (hn:s.d.loose.length≤900000000):
  Calls Tryz.prog 62 #[ptr b,.int .i64 i,.string t] w fun e w'=>e=.returned (.tuple #[])∧∃F',Log w' F' b g (s.with (Wl.wr (s.down,s.d) (i,t.data.toList)))∧bS F w F' w':=by
 obtain⟨mb,FD,h⟩:=hl
 have c0:=h.c0
 have c7:=h.c7
 have HH:=aa h
 clear h
 by_cases hd:s.down=true
 ·have HR:s.with (Wl.wr (s.down,s.d) (i,t.data.toList))=s:=by
   rw[hd,Wl.Mh,←hd,Wl.Lg.xB]
  rw[HR]
  clear HR
  rw[hd] at c7
  clear hd
  go_enter Tryz.func62,Tryz.ntmps62
  unfold ptr
  go_wp2
  refine bodyPost_end (results_none rfl _ _ _) rfl ?_
  exact⟨rfl,F,HH.o.log,bS.refl _ _⟩
 ·have MH:s.down=false:=by simpa using hd
  have HR:s.with (Wl.wr (s.down,s.d) (i,t.data.toList))={s with down:=decide ((s.d.write i t.data.toList).1≠0),d:=(s.d.write i t.data.toList).2}:=by
   unfold Wl.wr Wl.Lg.with
   rw[MH]
   rfl
  rw[HR]
  rw[MH] at c7
  have HW:=aa (aa MH)
  clear HR hd MH
  go_enter Tryz.func62,Tryz.ntmps62
  unfold ptr
  go_wp2_with fail
  refine (FA w FD g s.d i t HH.o.sec hn).mono ?_
  rintro e w1 ⟨rfl,Iw,hs1,hm1⟩
  obtain⟨hp,hm⟩:=HH.o.turned hs1 hm1
  have k7:=hp.c7
  have f7:=hp.blk.frozen 7
  have e7:({s with d:=(s.d.write i t.data.toList).2}:Wl.Lg).down=false:=HW.o.o
  rw[e7] at k7
  have HP:=aa (And.intro hp hm)
  clear hs1 hm1 hp hm e7
  generalize hq:s.d.write i t.data.toList=q at*
  obtain⟨c,d'⟩:=q
  simp only at HP ⊢
  have HQ:=aa hq
  clear hq c0 c7
  by_cases hc:c=0
  ·subst hc
   go_wp2
   refine bodyPost_end (results_none rfl _ _ _) rfl ?_
   refine⟨rfl,_, ?_,HP.o.2⟩
   rw[HQ.o]
   have e:({s with down:=decide ((0:Int)≠0),d:=d'}:Wl.Lg)={s with d:=d'}:=by
    have:=HW.o.o
    cases s;simp only at this;subst this;rfl
   rw[e]
   exact HP.o.1.log
  ·have hc1:(c !=0)=true:=by rw[bne_iff_ne];exact hc
   have hc2:(c==0)=false:=beq_eq_false_iff_ne.2 hc
   have HC:=aa hc
   clear hc
   go_wp2
   refine bodyPost_end (results_none rfl _ _ _) rfl ?_
   rw[HQ.o]
   have hs:=HP.o.1.set 7 (.bool true) {s with down:=decide (c≠0),d:=d'} (by rw[decide_eq_true HC.o];rfl) rfl rfl
   exact⟨rfl,_,hs.1.log,HP.o.2.trans hs.2⟩
theorem CX (w:World) (F:Nat→Prop) (b g:Nat) (s:Wl.Lg) (hl:Log w F b g s):
  Calls Tryz.prog 44 #[ptr b] w fun e w'=>e=.returned (.tuple #[])∧∃F',Log w' F' b g (s.with (Wl.fl (s.down,s.d)))∧bS F w F' w':=by
 obtain⟨mb,FD,h⟩:=hl
 have c0:=h.c0
 have c7:=h.c7
 have HH:=aa h
 clear h
 by_cases hd:s.down=true
 ·have HR:s.with (Wl.fl (s.down,s.d))=s:=by
   rw[hd,Wl.Mj,←hd,Wl.Lg.xB]
  rw[HR]
  clear HR
  rw[hd] at c7
  clear hd
  go_enter Tryz.func44,Tryz.ntmps44
  unfold ptr
  go_wp2
  refine bodyPost_end (results_none rfl _ _ _) rfl ?_
  exact⟨rfl,F,HH.o.log,bS.refl _ _⟩
 ·have MH:s.down=false:=by simpa using hd
  have HR:s.with (Wl.fl (s.down,s.d))={s with down:=decide (s.d.flush.1≠0),d:=s.d.flush.2}:=by
   unfold Wl.fl Wl.Lg.with
   rw[MH]
   rfl
  rw[HR]
  rw[MH] at c7
  have HW:=aa (aa MH)
  clear HR hd MH
  go_enter Tryz.func44,Tryz.ntmps44
  unfold ptr
  go_wp2_with fail
  refine (FC w FD g s.d HH.o.sec).mono ?_
  rintro e w1 ⟨rfl,hs1,hm1⟩
  obtain⟨hp,hm⟩:=HH.o.turned hs1 hm1
  have k7:=hp.c7
  have f7:=hp.blk.frozen 7
  have e7:({s with d:=s.d.flush.2}:Wl.Lg).down=false:=HW.o.o
  rw[e7] at k7
  have HP:=aa (And.intro hp hm)
  clear hs1 hm1 hp hm e7
  generalize hq:s.d.flush=q at*
  obtain⟨c,d'⟩:=q
  simp only at HP ⊢
  have HQ:=aa hq
  clear hq c0 c7
  by_cases hc:c=0
  ·subst hc
   go_wp2
   refine bodyPost_end (results_none rfl _ _ _) rfl ?_
   refine⟨rfl,_, ?_,HP.o.2⟩
   rw[HQ.o]
   have e:({s with down:=decide ((0:Int)≠0),d:=d'}:Wl.Lg)={s with d:=d'}:=by
    have:=HW.o.o
    cases s;simp only at this;subst this;rfl
   rw[e]
   exact HP.o.1.log
  ·have hc1:(c !=0)=true:=by rw[bne_iff_ne];exact hc
   have hc2:(c==0)=false:=beq_eq_false_iff_ne.2 hc
   have HC:=aa hc
   clear hc
   go_wp2
   refine bodyPost_end (results_none rfl _ _ _) rfl ?_
   rw[HQ.o]
   have hs:=HP.o.1.set 7 (.bool true) {s with down:=decide (c≠0),d:=d'} (by rw[decide_eq_true HC.o];rfl) rfl rfl
   exact⟨rfl,_,hs.1.log,HP.o.2.trans hs.2⟩
theorem Ju (w:World) (F:Nat→Prop) (b g:Nat) (s:Wl.Lg) (i:Int) (hl:Log w F b g s):
  Calls Tryz.prog 61 #[ptr b,.int .i64 i] w fun e w'=>e=.returned (.string (bs (s.d.read i).1))∧w'=w:=by
 obtain⟨mb,FD,h⟩:=hl
 have c0:=h.c0
 have HS:=aa h.sec
 clear h
 go_enter Tryz.func61,Tryz.ntmps61
 unfold ptr
 go_wp2_with fail
 refine (Aa w FD g s.d i HS.o).mono ?_
 rintro e w1 ⟨rfl,rfl⟩
 go_wp2
 go_ret
 exact⟨rfl,rfl⟩
theorem Dk.MI {d:Dk.b9} (ho:d.off=false) {i:Nat} (h:i<d.fB.length):d.read i=(d.now.getD i [],0):=by
 unfold Dk.b9.read
 rw[ho,if_neg (by decide),if_pos (by simp[Dk.b9.has,h])]
 rfl
theorem Dk.ED {d:Dk.b9} (ho:d.off=false) {i:Nat} {t:List UInt8} (h:d.now[i]?=some t):d.read i=(t,0):=by
 have hl:i<d.fB.length:=by
  have:=(List.getElem?_eq_some_iff.1 h).1
  rw[Dk.b9.now,Dk.gI] at this
  exact this
 rw[Dk.MI ho hl,bT,h];rfl
theorem Log.c3 {w:World} {F:Nat→Prop} {b g:Nat} {s:Wl.Lg} (h:Log w F b g s):w.cell? ⟨b,3,none⟩=some (.int .i64 s.place):=by obtain⟨_,_,h⟩:=h;exact h.c3
theorem Log.c4 {w:World} {F:Nat→Prop} {b g:Nat} {s:Wl.Lg} (h:Log w F b g s):w.cell? ⟨b,4,none⟩=some (.int .u64 s.num):=by obtain⟨_,_,h⟩:=h;exact h.c4
theorem Log.c7 {w:World} {F:Nat→Prop} {b g:Nat} {s:Wl.Lg} (h:Log w F b g s):w.cell? ⟨b,7,none⟩=some (.bool s.down):=by obtain⟨_,_,h⟩:=h;exact h.c7
theorem mH {B:Nat} {w:World} {v:Value} {l:List UInt8} {ops:Array Oper} {rest:List Oper} {o:Oper} {a:Act} {Q:Exit→Act→World→Prop} (hgd:o.guard=none) (s x:Operand)
  (ho:o.op=.call {callee:=.builtin .append,args:=#[s,x],argTypes:=#[94,9]})
  (hs:a.eval s=v) (hown:gi B w v l) (hB:B≤w.heap.size) (t:ByteArray) (hx:a.eval x=.string t) (hlen:l.length+t.size≤900000000)
  (h:∀v' w',gi B w' v' (l++t.data.toList)→w.grownBy w' v.ownBlock→wpList Tryz.prog ops Q rest (a.put o.dst v') w'):wpList Tryz.prog ops Q (o::rest) a w:=by
 obtain⟨i,hi,hz,hsz,hby⟩:=jZ (P:=Tryz.prog) (E:=5) (size:=1) (bytes:=1) (z:=.int .u8 0) (by kernel_rfl)
 refine wpList_append_own_string w hgd s x 94 9 ho B 5 i Tryz.underlying94 Tryz.underlying9 hi hz hsz hby v l.length (dP.cells l) hs hown t hx (by unfold maxLen;omega) (by omega) hB ?_
 intro v' w' h1 h2 _
 refine h v' w' ?_ h2
 unfold gi Own
 rw[dP.bW,aq,show dP.cells t.data.toList=strCells t from cM _ _ _,aZ]
 exact h1
theorem Jv (W:World) (gg o cp:Nat) (l:List UInt8) (hc:∀x (hx:x<l.length),W.cell? ⟨gg,o+x,none⟩=some (bL l[x])):
  (convert 94 9 (.slice (some ⟨gg,o,none⟩) l.length cp)).run Tryz.prog W=.ok (.string (bs l)) W:=
 run_convert_bytes_back (P:=Tryz.prog) W 94 9 5 ⟨gg,o,none⟩ cp l (by kernel_rfl) (by kernel_rfl) (by kernel_rfl) (by
  intro j hj
  rw[show (⟨gg,o,none⟩:Addr).add j=⟨gg,o+j,none⟩ by unfold Addr.add;split<;>simp_all]
  exact hc j hj)
def dR (i:It):List UInt8:=gR i.key i.val
def cB (level:Nat) (l:List It):List UInt8:=aY (192+level)::aY l.length::l.flatMap dR
theorem gj:∀l:List It,(l.flatMap dR).length=cj l
 |[]=>rfl
 |i::l=>by
  rw[List.flatMap_cons,aq,gj l]
  show (gR i.key i.val).length+_=iQ i+_
  rw[gB];rfl
theorem kE (level:Nat) (l:List It):(cB level l).length=2+cj l:=by
 show (l.flatMap dR).length+1+1=_
 rw[gj];omega
section
variable {w w':World} {p q:Nat} {n m:NV}
theorem wI (h:Nd w p n) (oS:n.level≤15) (hlen:n.its.length≤255) (Ap:∀i∈n.its,i.key.length≤96∧i.val.length≤56):
  Calls Tryz.prog 182 #[ptr p] w fun e w'=>e=.returned (.string (bs (cB n.level n.its)))∧Below w.heap.size w w':=by
 have c0:=h.c0
 have c1:=h.c1
 have dH:=h.blk.lt
 have iY:(n.its.length:Int)≤255:=by omega
 have MD:(n.level:Int)≤15:=by omega
 have hw1:IntKind.u8.wrap (n.level:Int)=n.level:=by
  have e:(n.level:Int)%2^8=n.level:=Int.emod_eq_of_lt (by omega) (by omega)
  simp only[IntKind.wrap,IntKind.bits,IntKind.signed,e]
  simp
 have jT:IntKind.u8.wrap (192+(n.level:Int))=192+n.level:=by
  have e:(192+(n.level:Int))%2^8=192+n.level:=Int.emod_eq_of_lt (by omega) (by omega)
  simp only[IntKind.wrap,IntKind.bits,IntKind.signed,e]
  simp
 have kO:IntKind.u8.wrap (n.its.length:Int)=n.its.length:=by
  have e:(n.its.length:Int)%2^8=n.its.length:=Int.emod_eq_of_lt (by omega) (by omega)
  simp only[IntKind.wrap,IntKind.bits,IntKind.signed,e]
  simp
 have HN:=aa h
 have HS:=aa Ap
 have oT:=aa hlen
 have HV:=aa oS
 obtain⟨L,hL⟩:∃L,L=n.its.length:=⟨_,rfl⟩
 rw[←hL] at c1 iY kO
 have HL:=aa hL
 clear h Ap hlen oS hL
 go_enter Tryz.func182,Tryz.ntmps182
 unfold ptr
 go_wp2_with fail
 go_region
 obtain⟨W,hW⟩:∃W,W=(w.alloc (.cells #[.int .u8 (192+(n.level:Int)),.int .u8 (L:Int)] 5)).drew:=⟨_,rfl⟩
 have hbW:Below w.heap.size w W:=by rw[hW];exact ((Below.refl _ w).alloc (af _) _).drew
 have OG:(2:Nat)≤maxLen:=by decide
 have HW:=aa (show gi w.heap.size W (.slice (some ⟨w.heap.size,0,none⟩) 2 2) [aY (192+n.level),aY L]∧Below w.heap.size w W by
  refine⟨?_,hbW⟩
  refine⟨rfl,.inr ⟨w.heap.size,2,#[.int .u8 (192+(n.level:Int)),.int .u8 (L:Int)],rfl,af _,by rw[hW];exact heap_alloc_new w _,af _,OG,rfl, ?_⟩⟩
  show [Value.int .u8 (192+(n.level:Int)),.int .u8 (L:Int)]=[bL _,bL _]
  unfold bL
  rw[dY,dY,kC (by have:=HV.o;omega),kC (by have:=oT.o;have:=HL.o;omega)]
  simp)
 have d0:=(hbW.cell (p:=⟨p,0,none⟩) dH).trans c0
 have d1:=(hbW.cell (p:=⟨p,1,none⟩) dH).trans c1
 rw[←hW]
 obtain⟨U,hU⟩:∃U,U=w.heap.size:=⟨_,rfl⟩
 rw[←hU] at HW ⊢
 have HU:=aa hU
 clear hW hbW c0 c1 hU OG
 go_wp2
 go_loopw [3,24] (fun u iv wr=>∃j:Nat,j≤L∧iv=.int .i64 j∧Hid (gi U wr u (aY (192+n.level)::aY L::(n.its.take j).flatMap dR))∧Hid (Below U w wr)) (fun _ iv _=>L-(RowKit.intOf iv).toNat)
 case atStart=>exact⟨0,aC _,rfl,aa HW.o.1,aa HW.o.2⟩
 case round=>
  obtain⟨j,hj,rfl,hO,hB⟩:=hrel
  by_cases hlt:j<L
  ·have kX:(j:Int)<L:=by omega
   have hjl:j<n.its.length:=by rw[←HL.o];exact hlt
   obtain⟨a0,a1,a2⟩:=aV (dZ HN.o.row (by rw[←HU.o];exact hB.o)) j hjl
   have he:=HS.o _ (bB hjl)
   have HJ:=aa (show j<L∧(n.its.take (j+1)).flatMap dR=(n.its.take j).flatMap dR++dR n.its[j]∧((n.its.take j).flatMap dR).length≤160800 from⟨hlt,by rw[cI hjl,List.flatMap_append];simp,by rw[gj];exact HN.o.small.part j⟩)
   generalize n.its[j]=it at*
   clear hlt hj hjl
   obtain⟨gu,cu,hv,Zy,Zz,hcu⟩:=Own.form hO.o (by simp)
   obtain⟨N,hN⟩:∃N,N=(aY (192+n.level)::aY L::(n.its.take j).flatMap dR).length:=⟨_,rfl⟩
   rw[←hN] at hv
   have ZA:=aa hN
   clear hN
   subst hv
   obtain⟨W1,jQ⟩:∃W1,W1=(wr.alloc (.cells #[.string (bs it.key),.string (bs it.val),.pointer (pa it.node)] 122)).alloc (.cells #[.int .u8 (((bs it.key).size:Int)%256),.int .u8 (((bs it.val).size:Int)%256)] 5):=⟨_,rfl⟩
   obtain⟨g,hg⟩:∃g,g=wr.heap.size:=⟨_,rfl⟩
   have hblk:aS W1 g 122 [.string (bs it.key),.string (bs it.val),.pointer (pa it.node)]:=by rw[jQ,hg];exact (aS.new wr _ _).alloc _
   have k1:W1.cell? ⟨g,0,none⟩=some (.string (bs it.key)):=by rw[jQ,hg];exact ((aS.new wr _ _).alloc _).cell rfl
   have k2:W1.cell? ⟨g,1,none⟩=some (.string (bs it.val)):=by rw[jQ,hg];exact ((aS.new wr _ _).alloc _).cell rfl
   have xz:a_ dP W1 (g+1) 0 [aY it.key.length,aY it.val.length]:=by
    rw[jQ,hg]
    have:=aS.new (wr.alloc (.cells #[.string (bs it.key),.string (bs it.val),.pointer (pa it.node)] 122)) #[.int .u8 (((bs it.key).size:Int)%256),.int .u8 (((bs it.val).size:Int)%256)] 5
    rw[bk] at this
    refine a_.gh this ?_
    show [_,_]=[bL _,bL _]
    unfold bL
    rw[dY,dY,aK,aK]
    simp
   have hs1:W1.heap.size=g+2:=by rw[jQ,hg];simp[bk]
   have H1:=aa (show gi U W1 (.slice (some ⟨gu,0,none⟩) N cu) (aY (192+n.level)::aY L::(n.its.take j).flatMap dR)∧Below U w W1∧a_ dP W1 (g+1) 0 [aY it.key.length,aY it.val.length]∧gu<g∧W1.heap.size=g+2∧U≤g from⟨by rw[jQ];exact (hO.o.alloc _).alloc _,by
    rw[jQ]
    have:=hB.o.size
    have h0:=(HU.o▸hB.o.size:U≤wr.heap.size)
    exact (hB.o.alloc h0 _).alloc (by simp only[bk];omega) _,xz,by rw[hg];exact Zz,hs1,by rw[hg];exact HU.o▸hB.o.size⟩)
   have uq:=aa (And.intro jQ hg)
   have Cn:=aa hblk
   have lM:(bs it.key).size≤96∧(bs it.val).size≤56:=by rw[aK,aK];exact he
   have HE:=aa lM
   clear jQ hg xz hs1 he lM hblk
   go_wp2_with (at_builtin;refine Hid.o ?_)
   refine aa ?_
   rw[←uq.o.2,←uq.o.1]
   clear a0 a1 a2
   have hlen:(aY (192+n.level)::aY L::(n.its.take j).flatMap dR).length≤200000:=by
    have:=HJ.o.2.2
    simp only[aW];omega
   refine lR (K:=dP) I_ rfl _ _ rfl rfl H1.o.1 (by have:=H1.o.2.2.2.2;omega) (g+1) 0 2 2 [aY it.key.length,aY it.val.length] rfl rfl H1.o.2.2.1 (by omega) ?_
   intro v2 w2 fD fK
   have PD:W1.grownBy w2 (some gu):=fK
   have aP:aE (fun k=>k=gu) W1 w2:=(aE.refl _ W1).grown PD fun k e _=>(Option.some.inj e).symm
   have MJ:=aa (Cn.o.but aP (by have:=H1.o;omega))
   have fC:=aa (H1.o.2.1.grown PD (by have:=H1.o;omega) fun k e=>by cases e;exact Zy)
   obtain⟨l2,hl2⟩:∃l2,l2=(aY (192+n.level)::aY L::(n.its.take j).flatMap dR)++[aY it.key.length,aY it.val.length]:=⟨_,rfl⟩
   rw[←hl2] at fD
   have Ax:=aa hl2
   have Jw:l2.length≤200002:=by rw[hl2,aq];simp only[aW,List.length_nil] at hlen ⊢;omega
   have ur:=Own.cY fD MJ.o (by decide)
   have kN:=Own.block fD
   have k3:=MJ.o.cell (j:=0) rfl
   have k4:=MJ.o.cell (j:=1) rfl
   have H2:=aa (And.intro fD (And.intro ur kN))
   clear hl2 fD ur kN fK PD aP k1 k2
   go_wp2_with (at_builtin;refine Hid.o ?_)
   refine aa ?_
   refine mH rfl _ _ rfl rfl H2.o.1 (by have:=fC.o.size;have:=HU.o;omega) (bs it.key) rfl (by have:=HE.o;omega) ?_
   intro v3 w3 Jx zU
   have PE:w2.grownBy w3 v2.ownBlock:=zU
   have bY:aE (fun k=>v2.ownBlock=some k) w2 w3:=(aE.refl _ w2).grown PE fun k e _=>e
   have PI:=aa (MJ.o.but bY (fun e=>H2.o.2.1 e))
   have p8:=aa (fC.o.grown PE (by have:=fC.o.size;have:=HU.o;omega) fun k e=>(H2.o.2.2 k e).1)
   rw[bO] at Jx
   have Sw:=Own.cY Jx PI.o (by decide)
   have Sy:=Own.block Jx
   have k5:=PI.o.cell (j:=0) rfl
   have k6:=PI.o.cell (j:=1) rfl
   have H3:=aa (And.intro Jx (And.intro Sw Sy))
   clear Jx Sw Sy zU PE bY k3 k4
   go_wp2_with (at_builtin;refine Hid.o ?_)
   refine aa ?_
   refine mH rfl _ _ rfl rfl H3.o.1 (by have:=p8.o.size;have:=HU.o;omega) (bs it.val) rfl (by rw[aq];have:=HE.o;rw[aK,aK] at this;rw[aK];omega) ?_
   intro v4 w4 wu j6
   have Sz:w3.grownBy w4 v3.ownBlock:=j6
   have sU:=aa (p8.o.grown Sz (by have:=p8.o.size;have:=HU.o;omega) fun k e=>(H3.o.2.2 k e).1)
   rw[bO] at wu
   have H4:=aa (show gi U w4 v4 (aY (192+n.level)::aY L::(n.its.take (j+1)).flatMap dR) by
    rw[HJ.o.2.1]
    have:=wu
    rw[Ax.o] at this
    simpa[dR,gR] using this)
   clear wu j6 Sz k5 k6
   go_wp2
   go_roundw
   case rel=>exact⟨j+1,HJ.o.1,by go_num,H4,sU⟩
   case measure=>have:=HJ.o.1;simp[RowKit.intOf];omega
  ·have kX:¬(j:Int)<L:=by omega
   obtain⟨gu,cu,hv,Zy,Zz,hcu⟩:=Own.form hO.o (by simp)
   have SA:(aY (192+n.level)::aY L::(n.its.take j).flatMap dR)=cB n.level n.its:=by
    rw[bZ (by rw[←HL.o];omega),HL.o];rfl
   rw[SA] at hO hv
   obtain⟨N,hN⟩:∃N,N=(cB n.level n.its).length:=⟨_,rfl⟩
   rw[←hN] at hv
   subst hv
   have OH:(convert 94 9 (.slice (some ⟨gu,0,none⟩) N cu)).run Tryz.prog wr=.ok (.string (bs (cB n.level n.its))) wr:=by
    rw[hN]
    refine Jv wr gu 0 cu _ fun x hx=> ?_
    rw[hN] at hO
    have:=Own.lies hO.o x (bL (cB n.level n.its)[x]) (by rw[show dP.cells (cB n.level n.its)=(cB n.level n.its).map bL from cM _ _ _,cJ,aJ hx];rfl)
    exact this
   obtain⟨R,hR⟩:∃R,R=bs (cB n.level n.its):=⟨_,rfl⟩
   rw[←hR] at OH
   have HR:=aa hR
   clear hlt hj SA hN hR
   go_wp2
   go_ret
   exact⟨by rw[←HR.o];rfl,HU.o▸hB.o⟩
end
section
variable {w w':World} {p q:Nat} {n m:NV}
abbrev aR (B:Nat) (w:World) (v:Value) (l:List It):Prop:=Own aj 122 B w v l
def NV.read (level:Nat) (its:List It) (rg cap:Nat):NV:=⟨level,its,rg,0,cap,0,[],[],0,0,false,true⟩
theorem CY (w:World) (s:ByteArray) (level:Nat) (its:List It) (rest:List UInt8) (hs:s.data.toList=cB level its++rest) (hr:Wl.blank rest=true) (hz:s.size≤100000)
  (hS:∀rg cap,Sound (NV.read level its rg cap)) (hl:its.length≤255) (hn:∀i∈its,i.node=none):
  Calls Tryz.prog 167 #[.string s] w fun e w'=>∃p rg cap,e=.returned (.tuple #[ptr p,.bool true])∧w.heap.size≤p∧Nd w' p (NV.read level its rg cap)∧aR w.heap.size w' (.slice (some ⟨rg,0,none⟩) its.length cap) its∧Below w.heap.size w w':=by
 have hsz:s.size=2+cj its+rest.length:=by
  have:s.data.toList.length=s.size:=aZ
  rw[←this,hs,aq,kE]
 have h0:0<s.size:=by omega
 have h1:1<s.size:=by omega
 have oS:=(hS 0 0).level
 have ZB:level≤15:=oS
 have e0:((s[0].toNat:Nat):Int)=192+level:=by
  rw[←j_ s 0 h0,hs]
  show (((aY (192+level)).toNat:Nat):Int)=_
  rw[dY,kC (by simp;omega)];omega
 have e1:((s[1].toNat:Nat):Int)=its.length:=by
  rw[←j_ s 1 h1,hs]
  show (((aY its.length).toNat:Nat):Int)=_
  rw[dY,kC (by simp;omega)]
 have e2:(s.extract 2 s.size).data.toList=its.flatMap dR++rest:=by
  rw[kP,hs];rfl
 obtain⟨t0,SB⟩:∃t0,s.extract 2 s.size=t0:=⟨_,rfl⟩
 rw[SB] at e2
 have hw1:IntKind.i64.wrap ((192:Int)+level)=192+level:=by
  have:=cN (192+level) (by omega)
  rwa [show ((192+level:Nat):Int)=192+(level:Int) by omega] at this
 have jT:IntKind.i64.wrap (its.length:Int)=its.length:=cN _ (by omega)
 have h2s:(2:Int)≤s.size:=by omega
 have h3:(192:Int)+level-192=level:=by omega
 obtain⟨L,hL⟩:∃L,L=its.length:=⟨_,rfl⟩
 rw[←hL] at e1 jT hl ⊢
 have iY:(L:Int)≤255:=by omega
 have HH:=aa (And.intro hL (And.intro e2 (And.intro hr (And.intro hS hn))))
 have IA:=aa (show t0.size≤100000 by
  rw[←SB,ByteArray.size_extract];omega)
 clear hs hS hr hn hL e2 hsz oS hl hz
 go_enter Tryz.func167,Tryz.ntmps167
 go_wp2_with fail
 go_region
 obtain⟨W,hW⟩:∃W,W=(w.alloc (.cells #[.int .i64 (level:Int),.slice none 0 0,.int .i64 0,.string ⟨#[]⟩,.string ⟨#[]⟩,.int .i64 0,.int .i64 0,.bool false] 127)).drew:=⟨_,rfl⟩
 obtain⟨p,hp⟩:∃p,p=w.heap.size:=⟨_,rfl⟩
 have HW:=aa (show aS W p 127 [.int .i64 (level:Int),.slice none 0 0,.int .i64 0,.string ⟨#[]⟩,.string ⟨#[]⟩,.int .i64 0,.int .i64 0,.bool false]∧Below p w W∧W.heap.size=p+1 by
  rw[hW,hp]
  exact⟨aS.new w _ _,((Below.refl _ w).alloc (af _) _).drew,by simp[bk]⟩)
 have HP:=aa hp
 rw[←hW,←hp]
 clear hW hp
 have aal:=jT
 go_wp2
 go_loopw [5,19] (fun sv iv wr=>∃j:Nat,j≤L∧iv=.int .i64 j∧∃t:ByteArray,sv=.string t∧Hid (t.data.toList=(its.drop j).flatMap dR++rest∧t.size≤100000)∧∃v,Hid (aS wr p 127 [.int .i64 (level:Int),v,.int .i64 0,.string ⟨#[]⟩,.string ⟨#[]⟩,.int .i64 0,.int .i64 0,.bool false])∧Hid (aR p wr v (its.take j))∧Hid (Below p w wr)) (fun _ iv _=>L-(RowKit.intOf iv).toNat)
 case atStart=>exact⟨0,aC _,rfl,t0,rfl,aa ⟨HH.o.2.1,IA.o⟩,_,aa HW.o.1,aa (Own.nil _ _ _ _),aa HW.o.2.1⟩
 case round=>
  obtain⟨j,hj,rfl,t,rfl,hT,v,MK,hO,hB⟩:=hrel
  by_cases hlt:j<L
  ·have kX:(j:Int)<L:=by omega
   have hjl:j<its.length:=by rw[←HH.o.1];exact hlt
   have SC:t.data.toList=gR its[j].key its[j].val++((its.drop (j+1)).flatMap dR++rest):=by
    rw[hT.o.1,cm hjl,List.flatMap_cons,aB];rfl
   have he:=(HH.o.2.2.2.1 0 0).each its[j] (bB hjl)
   have OI:=HH.o.2.2.2.2 its[j] (bB hjl)
   have HC:=aa (CS wr t _ _ _ SC (by omega) (by omega) (by have:=hT.o.2;omega))
   have HJ:=aa (show j<L∧its.take (j+1)=its.take j++[its[j]]∧its[j].node=none∧t.data.toList=gR its[j].key its[j].val++((its.drop (j+1)).flatMap dR++rest)∧its[j].key.length≤96∧its[j].val.length≤56 from⟨hlt,cI hjl,OI,SC,he.1,he.2.1⟩)
   generalize its[j]=it at*
   have hts:t.size=2+it.key.length+it.val.length+((its.drop (j+1)).flatMap dR++rest).length:=by
    have:t.data.toList.length=t.size:=aZ
    rw[←this,SC,aq,gB]
   obtain⟨z,hz⟩:∃z,z=2+it.key.length+it.val.length:=⟨_,rfl⟩
   rw[←hz] at HC hts
   have hzI:¬(t.size:Int)<z:=by omega
   have aam:(z:Int)≤t.size:=by omega
   have HZ:=aa hz
   have SD:=aa (kP t z)
   obtain⟨t2,ht2⟩:∃t2,t.extract z t.size=t2:=⟨_,rfl⟩
   rw[ht2] at SD
   have EE:=aa (show t2.data.toList=(its.drop (j+1)).flatMap dR++rest∧t2.size≤100000 by
    refine⟨?_, ?_⟩
    ·rw[SD.o,SC]
     rw[show z=(gR it.key it.val).length by rw[gB,hz],List.drop_left]
    ·rw[←ht2,ByteArray.size_extract];have:=hT.o.2;omega)
   clear hlt hj hjl SC he OI hts hz
   go_wp2_with fail
   refine HC.o.mono ?_
   rintro e w1 ⟨rfl,bF⟩
   have dH:=MK.o.lt
   have SE:=aa (MK.o.below bF dH)
   have hO1:=aa (Own.below hO.o bF (af _))
   have Iy:=aa (hB.o.trans (bF.mono (by omega)))
   clear bF
   go_wp2_with fail
   obtain⟨W2,rC⟩:∃W2,W2=w1.alloc (.cells #[.string (bs it.key),.string (bs it.val)] 89):=⟨_,rfl⟩
   obtain⟨g,hg⟩:∃g,g=w1.heap.size:=⟨_,rfl⟩
   rw[←rC,←hg]
   have ML:aS W2 p 127 [.int .i64 (level:Int),v,.int .i64 0,.string ⟨#[]⟩,.string ⟨#[]⟩,.int .i64 0,.int .i64 0,.bool false]:=by rw[rC];exact SE.o.alloc _
   have Rg:aR p W2 v (its.take j):=by rw[rC];exact Own.alloc hO1.o _
   have fK:aS W2 g 89 [.string (bs it.key),.string (bs it.val)]:=by rw[rC,hg];exact aS.new w1 _ _
   have kN:W2.heap.size=g+1:=by rw[rC,hg];simp[bk]
   have p9:Below p w W2:=by
    rw[rC]
    have:=SE.o.lt
    exact Iy.o.alloc (by omega) _
   have c1:=ML.cell (j:=1) rfl
   have g0:=fK.cell (j:=0) rfl
   have g1:=fK.cell (j:=1) rfl
   have H2:=aa (show aS W2 p 127 [.int .i64 (level:Int),v,.int .i64 0,.string ⟨#[]⟩,.string ⟨#[]⟩,.int .i64 0,.int .i64 0,.bool false]∧aR p W2 v (its.take j)∧Below p w W2∧p<W2.heap.size from⟨ML,Rg,p9,ML.lt⟩)
   have CZ:p<W2.heap.size:=H2.o.2.2.2
   clear rC hg ML Rg fK kN p9
   refine wp_region_any (by kernel_rfl) ?_
   try (change wpAny _ _ _ _ _ _ _ (bD _))
   refine tk 0 ?_
   refine tk 1 ?_
   refine tk 2 ?_
   refine tk 3 ?_
   refine tk 9 ?_
   refine tk 10 ?_
   refine tk 11 ?_
   try simp only[Act.put,az,ay,au]
   refine rd [4,5] (AllReady.cons rfl (fun K hK=> ?_) (rn fun K hK=> ?_))
   focus
    go_simp
    refine hK _ _ ?_;clear hK K
    refine rd [5] (rn fun K hK=> ?_)
    go_simp
    refine hK _ _ ?_;clear hK K
    refine rd [6] (rn fun K hK=> ?_)
    go_simp
    refine hK _ _ ?_;clear hK K
    refine rd [7] (rn fun K hK=> ?_)
    go_simp
    refine hK _ _ ?_;clear hK K
   rotate_left
   focus
    go_simp
    refine hK _ _ ?_;clear hK K
    refine rd [4,6] (AllReady.cons rfl (fun K hK=> ?_) (rn fun K hK=> ?_))
    focus
     go_simp
     refine hK _ _ ?_;clear hK K
     refine rd [6] (rn fun K hK=> ?_)
     go_simp
     refine hK _ _ ?_;clear hK K
     refine rd [7] (rn fun K hK=> ?_)
     go_simp
     refine hK _ _ ?_;clear hK K
    rotate_left
    focus
     go_simp
     refine hK _ _ ?_;clear hK K
     refine rd [4,7] (AllReady.cons rfl (fun K hK=> ?_) (rn fun K hK=> ?_))
     focus
      go_simp
      refine hK _ _ ?_;clear hK K
      refine rd [7] (rn fun K hK=> ?_)
      go_simp
      refine hK _ _ ?_;clear hK K
     rotate_left
     focus
      go_simp
      refine hK _ _ ?_;clear hK K
      refine rd [4] (rn fun K hK=> ?_)
      go_simp
      refine hK _ _ ?_;clear hK K
   all_goals
    try simp only[Act.put,az,ay,au]
    have SF:aR p (W2.drew.alloc (.cells #[.string (bs it.key),.string (bs it.val),.pointer none] 122)) v (its.take j):=Own.alloc (show aR p W2.drew v (its.take j) from H2.o.2.1) _
    have zV:a_ aj (W2.drew.alloc (.cells #[.string (bs it.key),.string (bs it.val),.pointer none] 122)) W2.drew.heap.size 0 [it]:=a_.gh (aS.new W2.drew _ _) (by show [_,_,_]=[Value.string (bs it.key),.string (bs it.val),.pointer (pa it.node)];rw[HJ.o.2.2.1];rfl)
    have SG:aS (W2.drew.alloc (.cells #[.string (bs it.key),.string (bs it.val),.pointer none] 122)) p 127 [.int .i64 (level:Int),v,.int .i64 0,.string ⟨#[]⟩,.string ⟨#[]⟩,.int .i64 0,.int .i64 0,.bool false]:=aS.alloc (show aS W2.drew p _ _ from H2.o.1) _
    have yN:Below p w (W2.drew.alloc (.cells #[.string (bs it.key),.string (bs it.val),.pointer none] 122)):=(H2.o.2.2.1.drew).alloc (by show p≤W2.heap.size;omega) _
    have Jy:p≤(W2.drew.alloc (.cells #[.string (bs it.key),.string (bs it.val),.pointer none] 122)).heap.size:=by rw[bk];show p≤W2.heap.size+1;omega
    have H3:=aa (And.intro SF (And.intro SG (And.intro yN (And.intro zV Jy))))
    clear SF zV SG yN Jy
    refine rd [8] (rn fun K hK=> ?_)
    refine IK (K:=aj) uf _ _ rfl rfl H3.o.1 H3.o.2.2.2.2 W2.drew.heap.size 0 1 1 [it] rfl rfl H3.o.2.2.2.1 (by rw[aN];have:=HH.o.1;have:=HJ.o.1;omega) ?_;intro v5 w5 pL gS
    refine hK _ _ ?_;clear hK K
    have F0:World.grownBy _ w5 v.ownBlock:=gS
    have Jz:=Own.cY H3.o.1 H3.o.2.1 (by decide)
    have JA:=H3.o.2.1.but ((aE.refl (fun k=>v.ownBlock=some k) _).grown F0 fun k e _=>e) Jz
    have ZC:=H3.o.2.2.1.grown F0 H3.o.2.2.2.2 fun k e=>(Own.block H3.o.1 k e).1
    obtain⟨a5,mY,xC,uu⟩:=Own.slice pL
    rw[←HJ.o.2.1] at pL
    have OJ:=Own.cY pL JA (by decide)
    generalize (its.take j++[it]).length=N5 at xC uu
    subst xC
    have c5:=JA.cell (j:=1) rfl
    have f5:=JA.frozen 1
    have H5:=aa (And.intro pL (And.intro JA (And.intro ZC OJ)))
    clear pL JA ZC gS F0 Jz OJ
    try simp only[Act.put,az]
    refine tk 12 ?_
    refine tk 13 ?_
    try simp only[Act.put]
    refine rd [14] (rn fun K hK=> ?_)
    go_simp
    refine hK _ _ ?_;clear hK K
    refine tk 15 ?_
    refine wpAny_done (by kernel_rfl) ?_ _
    have H6:=aa (show aS (w5.setCell ⟨p,1,none⟩ (.slice a5 N5 mY)) p 127 [.int .i64 (level:Int),.slice a5 N5 mY,.int .i64 0,.string ⟨#[]⟩,.string ⟨#[]⟩,.int .i64 0,.int .i64 0,.bool false]∧aR p (w5.setCell ⟨p,1,none⟩ (.slice a5 N5 mY)) (.slice a5 N5 mY) (its.take (j+1))∧Below p w (w5.setCell ⟨p,1,none⟩ (.slice a5 N5 mY)) from⟨H5.o.2.1.set 1 _,Own.but H5.o.1 ((aE.refl (fun k=>k=p) w5).setCell _ _ fun _=>rfl) (fun k hk e=>H5.o.2.2.2 (by rw[hk,e])),H5.o.2.2.1.setCell (af _) _⟩)
    go_wp2
    go_roundw
    case rel=>exact⟨j+1,HJ.o.1,by go_num,t2,rfl,EE,_,aa H6.o.1,aa H6.o.2.1,aa H6.o.2.2⟩
    case measure=>have:=HJ.o.1;simp[RowKit.intOf];omega
  ·have kX:¬(j:Int)<L:=by omega
   obtain rfl:j=L:=by omega
   have htk:its.take j=its:=bZ (by rw[HH.o.1];exact af _)
   have PJ:=hO.o
   rw[htk] at PJ
   have hpos:0<its.length:=ej.2 (HH.o.2.2.2.1 0 0).ne
   obtain⟨rg,cap,hv,wv,hrs,hcap⟩:=Own.form PJ hpos
   have hcm:cap≤maxLen:=(gQ (hv▸PJ)).2.2
   have OK:t.data.toList=rest:=by
    have:=hT.o.1
    rw[List.drop_eq_nil_of_le (by rw[HH.o.1];exact af _)] at this
    exact this
   have EF:=aa (show Nd wr p (NV.read level its rg cap) from⟨by
    have:=MK.o
    rw[hv] at this
    exact this,by
    rw[hv] at PJ
    exact Own.lies PJ,⟨by show its.length≤400;have:=HH.o.1;omega,fun i hi=>by have:=(HH.o.2.2.2.1 0 0).each i hi;omega,hcap,hcm⟩⟩)
   have HO:=aa (show aR p wr (.slice (some ⟨rg,0,none⟩) its.length cap) its by rw[←hv];exact PJ)
   have HC:=aa (yK EF.o (HH.o.2.2.2.1 rg cap))
   have HR:=aa OK
   clear hlt hj htk PJ hv wv hrs hcap hcm OK hpos
   go_wp2_with fail
   refine HC.o.mono ?_
   rintro e w1 ⟨rfl,bF⟩
   have H1:=aa (show Nd w1 p (NV.read level its rg cap)∧aR p w1 (.slice (some ⟨rg,0,none⟩) its.length cap) its∧Below p w w1 from⟨EF.o.still bF,Own.below HO.o bF (af _),hB.o.trans (bF.mono (by have:=MK.o.lt;omega))⟩)
   clear bF
   go_wp2_with fail
   refine (Aw t w1 (by have:=hT.o.2;omega)).mono ?_
   rintro e w2 ⟨⟨u,rfl,hu⟩,m,rfl⟩
   have hu2:u.toList=[]:=by
    rw[ByteArray.toList_eq]
    exact hu.2 (by rw[HR.o];exact HH.o.2.2.1)
   have H2:=aa (show Nd (w1.drewN m) p (NV.read level its rg cap)∧aR p (w1.drewN m) (.slice (some ⟨rg,0,none⟩) its.length cap) its∧Below p w (w1.drewN m) from⟨H1.o.1.still (ep _ _),Own.below H1.o.2.1 (ep _ _) (af _),H1.o.2.2.trans ((ep w1 m).mono (by have:=H1.o.2.2.size;have:=HP.o;omega))⟩)
   clear hu
   go_wp2
   go_ret2
   refine⟨p,rg,cap,rfl,Nat.le_of_eq HP.o.symm,H2.o.1,HP.o▸HH.o.1▸H2.o.2.1,HP.o▸H2.o.2.2⟩
end
end
section
open Go.RowKit Lib Go.Maps Go.ChangeMaps
open Wl (eE ins ck)
section
variable {P:Program} {T E K:TypeId} {w:World} {b:Nat} {m:eE}
theorem fR.JB {M:ME} (h:fR P K M w b m) (hk:P.underlying K=some (.int .i64)) (ht:P.underlying T=some (.map K E)) (hn:m.length≤200000000) {k:Nat} (LP:k≤1000000) {t:List UInt8} (hf:M.fits t):
  ∃w',(Instr.mapUpdate T (.map (some b)) (.int .i64 k) (M.enc t)).run P w=.ok () w'∧fR P K M w' b (ins k t m)∧w.grownBy w' (some b):=by
 obtain⟨w',h1,h2,h3⟩:=h.1.update (int_keyed hk) ht (by unfold maxLen;omega) (keyOf_int_mk hk (tU LP)) (M.read t hf)
 rw[Mg k t m h.2.1] at h2
 exact⟨w',h1,⟨sj M h2,Wl.fH k t h.2.1,fun x hx=>by
  rcases Wl.lU hx with rfl|hx
  ·exact LP
  ·exact h.2.2 x hx⟩,h3⟩
end
end
namespace Wl
open Dk (fu full)
def raw (g:eE) (ps:List (Int×Text)):eE:=ps.foldl (fun g p=>ins p.1.toNat p.2 g) g
theorem uw (g:eE) (a b:List (Int×Text)):raw g (a++b)=raw (raw g a) b:=by simp[raw]
theorem EG (g:eE) (p:Int×Text):raw g [p]=ins p.1.toNat p.2 g:=rfl
theorem EH (f:Text→Text) (k:Nat) (t:Text):∀m:eE,ins k (f t) (m.map fun x=>(x.1,f x.2))=(ins k t m).map fun x=>(x.1,f x.2)
 |[]=>rfl
 |x::m=>by
  rw[bH]
  unfold ins
  by_cases h:k<x.1
  ·rw[if_pos h,if_pos h];rfl
  ·rw[if_neg h,if_neg h]
   by_cases e:k=x.1
   ·grind
   ·simp_all[EH]
theorem Ay (f:Text→Text) (k:Nat):∀m:eE,look k (m.map fun x=>(x.1,f x.2))=(look k m).map f
 |[]=>rfl
 |x::m=>by
  rw[bH]
  unfold look
  by_cases h:x.1=k
  ·rw[if_pos h,if_pos h];rfl
  ·simp_all[Ay]
theorem EI:∀(ps:List (Int×Text)) (g:eE),Sf (g.map fun x=>(x.1,full x.2)) ps=(raw g ps).map fun x=>(x.1,full x.2)
 |[],_=>rfl
 |p::ps,g=>by
  show Sf (ins p.1.toNat (full p.2) _) ps=(raw (ins p.1.toNat p.2 g) ps).map _
  rw[EH full,EI ps]
theorem F3 (H:List Text) (ps:List (Int×Text)) {j:Nat} (hj:j<H.length):(along H ps)[j]?=((look j (raw [] ps)).map full).or H[j]?:=by
 have h1:=Ak ps H tY
 rw[Dk.mO] at h1
 have h2:=EI ps []
 rw[List.map_nil] at h2
 rw[←h1,nH (tX ps tY),if_pos hj,h2,Ay]
end Wl
namespace Tx
open Wl (eE Text ins ck)
def un (k:Nat):Text:=bg k 0
theorem fT (k:Nat):(un k).length=k:=dM
def gK (m:eE) (i:Nat):Int:=match Wl.look i m with|some t=>(t.length:Int)|none=>-1
structure St where
 m:eE
 b:List Int
 n:Nat
def step (s:St) (p:Nat×Text):St:=⟨ins p.1 (un s.n) s.m,s.b++[gK s.m p.1],s.n+1⟩
def st (ps:List (Nat×Text)):St:=ps.foldl step ⟨[],[],0⟩
def cQ (ps:List (Nat×Text)):eE:=(st ps).m
def gT (ps:List (Nat×Text)):List Int:=(st ps).b
theorem p_ (ps:List (Nat×Text)) (p:Nat×Text):st (ps++[p])=step (st ps) p:=by unfold st;rw[List.foldl_append];rfl
theorem ld {P:List (Nat×Text)→Prop} (h0:P []) (h1:∀ps p,P ps→P (ps++[p])):∀ps,P ps:=by
 intro ps
 have key:∀n (l:List (Nat×Text)),l.length=n→P l:=by
  intro n
  induction n with
  |zero=>intro l hl;rw[ef.1 hl];exact h0
  |succ n ih=>
   intro l hl
   rcases List.eq_nil_or_concat l with rfl|⟨m,b,rfl⟩
   ·cases hl
   ·grind
 exact key _ ps rfl
theorem Wz:∀ps,(st ps).n=ps.length:=ld rfl fun ps p h=>by rw[p_];show (st ps).n+1=_;rw[h,aq];rfl
theorem cC:∀ps,(gT ps).length=ps.length:=ld rfl fun ps p h=>by
 unfold gT at h ⊢
 rw[p_]
 show ((st ps).b++_).length=_
 rw[aq,h,aq];rfl
theorem gU:∀ps,ck (cQ ps):=ld List.Pairwise.nil fun ps p h=>by
 unfold cQ at h ⊢
 rw[p_]
 exact Wl.fH _ _ h
theorem gF (ps:List (Nat×Text)) (p:Nat×Text):cQ (ps++[p])=ins p.1 (un ps.length) (cQ ps):=by
 unfold cQ
 rw[p_]
 show ins p.1 (un (st ps).n) _=_
 rw[Wz]
theorem rD (ps:List (Nat×Text)) (p:Nat×Text):gT (ps++[p])=gT ps++[gK (cQ ps) p.1]:=by
 unfold gT cQ
 rw[p_];rfl
theorem JC (ps:List (Nat×Text)):∀qs,(gT (ps++qs)).take ps.length=gT ps:=ld (P:=fun qs=>(gT (ps++qs)).take ps.length=gT ps)
 (by show (gT (ps++[])).take _=_;rw[bh,←cC,List.take_length])
 (fun qs q h=>by
  show (gT (ps++(qs++[q]))).take _=_
  rw[←aB,rD,List.take_append_of_le_length (by rw[cC,aq];omega),h])
theorem xD (ps:List (Nat×Text)) (k:Nat) (hk:k≤ps.length):(gT ps).take k=gT (ps.take k):=by
 grind [JC,cL,aN,b_]
theorem kT (ps:List (Nat×Text)) {k:Nat} (hk:k<ps.length):ps.take (k+1)=ps.take k++[ps[k]]:=cI hk
theorem MM (ps:List (Nat×Text)) {k:Nat} (hk:k<ps.length):(gT ps)[k]'(by rw[cC];exact hk)=gK (cQ (ps.take k)) (ps[k]).1:=by
 have h1:=xD ps (k+1) (by omega)
 rw[kT ps hk,rD] at h1
 have h2:((gT ps).take (k+1))[k]?=some (gK (cQ (ps.take k)) (ps[k]).1):=by
  rw[h1,gN (by rw[cC,aN];omega),cC,aN,b_ (by omega),Nat.sub_self]
  rfl
 rw[List.getElem?_take_of_lt (by omega),aJ (by rw[cC];exact hk)] at h2
 injection h2
theorem mg (i:Nat):∀ps,(Wl.look i (cQ ps)=none∧∀p∈ps,p.1≠i)∨∃k,∃hk:k<ps.length,Wl.look i (cQ ps)=some (un k)∧(ps[k]).1=i∧Wl.look i (Wl.raw [] (ps.map fun p=>((p.1:Int),p.2)))=some (ps[k]).2:=
 ld (.inl ⟨rfl,fun p hp=>by cases hp⟩) fun ps p h=>by
  by_cases e:i=p.1
  ·refine .inr ⟨ps.length,by simp, ?_, ?_, ?_⟩
   ·rw[gF,Wl.fG,if_pos e]
   ·simp[e]
   ·rw[bI,Wl.uw]
    show Wl.look i (Wl.raw _ [((p.1:Int),p.2)])=_
    rw[Wl.EG,Wl.fG,if_pos (by simp[e])]
    simp
  ·rcases h with⟨h1,h2⟩|⟨k,hk,h1,h2,h3⟩
   ·refine .inl ⟨by rw[gF,Wl.fG,if_neg e];exact h1,fun q hq=> ?_⟩
    rcases ah.1 hq with hq|hq
    ·exact h2 q hq
    ·grind
   ·refine .inr ⟨k,by rw[aq];omega, ?_, ?_, ?_⟩
    ·rw[gF,Wl.fG,if_neg e];exact h1
    ·grind
    ·rw[bI,Wl.uw]
     show Wl.look i (Wl.raw _ [((p.1:Int),p.2)])=_
     rw[Wl.EG,Wl.fG,if_neg (by simp[e]),List.getElem_append_left hk]
     exact h3
def oq (ps:List (Nat×Text)):List (Int×Text):=ps.map fun p=>((p.1:Int),p.2)
theorem Az {i:Nat}:∀{ps:List (Nat×Text)} {g:eE},(∀p∈ps,p.1≠i)→Wl.look i (Wl.raw g (oq ps))=Wl.look i g
 |[],_,_=>rfl
 |p::ps,g,h=>by
  show Wl.look i (Wl.raw (ins ((p.1:Int)).toNat p.2 g) (oq ps))=_
  rw[Az fun q hq=>h q (aF _ hq),Wl.fG,if_neg]
  have:=h p aA
  rw[cX]
  exact fun e=>this e.symm
theorem PK (H:List Text) (ps:List (Nat×Text)) {i:Nat} (hi:i<H.length):
  (Wl.look i (cQ ps)=none∧(Wl.along H (oq ps))[i]?=H[i]?)∨∃k,∃hk:k<ps.length,Wl.look i (cQ ps)=some (un k)∧(Wl.along H (oq ps))[i]?=some (Dk.full (ps[k]).2):=by
 have h0:=Wl.F3 H (oq ps) hi
 rcases mg i ps with⟨h1,h2⟩|⟨k,hk,h1,_,h3⟩
 ·refine .inl ⟨h1, ?_⟩
  rw[h0,Az h2];rfl
 ·grind [oq]
theorem JD (ps:List (Nat×Text)) {k:Nat} (hk:k<ps.length) (h:gK (cQ (ps.take k)) (ps[k]).1=-1):Wl.look (ps[k]).1 (cQ (ps.take k))=none:=by
 grind [gK]
theorem JE (ps:List (Nat×Text)) {k j:Nat} (hk:k<ps.length) (h:gK (cQ (ps.take k)) (ps[k]).1=(j:Int)):Wl.look (ps[k]).1 (cQ (ps.take k))=some (un j):=by
 grind [mg,gK,fT]
theorem AA (m:eE) (i:Nat):gK m i=-1∨∃j:Nat,gK m i=(j:Int):=by
 grind [gK]
def del (k:Nat) (m:eE):eE:=m.filter fun x=>decide (x.1≠k)
theorem ux (k:Nat) {m:eE} (h:ck m):ck (del k m):=List.Pairwise.filter _ h
theorem AB (k j:Nat):∀m:eE,Wl.look j (del k m)=if j=k then none else Wl.look j m
 |[]=>by simp[del,Wl.look]
 |x::m=>by
  have ih:=AB k j m
  unfold del at ih ⊢
  rw[cS]
  by_cases hx:x.1=k
  ·rw[if_neg (by simp[hx]),ih]
   by_cases hj:j=k
   ·grind
   ·rw[if_neg hj,if_neg hj]
    show Wl.look j m=(if x.1=j then some x.2 else Wl.look j m)
    rw[if_neg (by omega)]
  ·rw[if_pos (by simpa using hx)]
   unfold Wl.look
   by_cases hxj:x.1=j
   ·grind
   ·grind
theorem yO {ps:List (Nat×Text)} {k:Nat} (hk:k<ps.length) (h:gK (cQ (ps.take k)) (ps[k]).1=-1):del (ps[k]).1 (cQ (ps.take (k+1)))=cQ (ps.take k):=by
 refine Wl.ext (ux _ (gU _)) (gU _) fun j=> ?_
 rw[AB,kT ps hk,gF,Wl.fG]
 by_cases e:j=(ps[k]).1
 ·rw[if_pos e,e,JD ps hk h]
 ·rw[if_neg e,if_neg e]
theorem yP {ps:List (Nat×Text)} {k j:Nat} (hk:k<ps.length) (h:gK (cQ (ps.take k)) (ps[k]).1=(j:Int)):ins (ps[k]).1 (un j) (cQ (ps.take (k+1)))=cQ (ps.take k):=by
 refine Wl.ext (Wl.fH _ _ (gU _)) (gU _) fun i=> ?_
 rw[Wl.fG,kT ps hk,gF,Wl.fG]
 by_cases e:i=(ps[k]).1
 ·rw[if_pos e,e,JE ps hk h]
 ·rw[if_neg e,if_neg e]
theorem xE:∀ps,(cQ ps).length≤ps.length:=ld (af _) fun ps p h=>by
 rw[gF,Wl.jA _ _ (gU ps),aq]
 show _≤ps.length+1
 split<;>omega
end Tx
section
open Go.RowKit Lib
def Wl.Lg.read (s:Wl.Lg) (i:Int):Wl.Text×Int:=
 if s.off then ([],3) else if !s.has i then ([],2) else match Wl.look i.toNat s.wait with|some t=>(t,0)|none=>s.d.read ((1+s.ring+i.toNat:Nat):Int)
theorem qa {w w':World} {Z:Array Value} (h:aE (fun k=>k=w.heap.size) (w.alloc (.cells Z CT)) w'):Below w.heap.size w w':=
 Below.but ((Below.refl _ w).alloc (af _) _) h (by simp) (fun k hk e=>by omega)
theorem F5 (w:World) (F:Nat→Prop) (b g:Nat) (s:Wl.Lg) (i:Int) (hl:Log w F b g s) (hb:Zq s):
  Calls Tryz.prog 198 #[ptr b,.int .i64 i] w fun e w'=>e=.returned (.tuple #[.string (bs (s.read i).1),.int .i64 (s.read i).2])∧Below w.heap.size w w':=by
 have HL:=aa hl
 have HB:=aa hb
 obtain⟨mb,FD,h⟩:=hl
 have c0:=h.c0
 have c6:=h.c6
 have HH:=aa h
 clear h hb
 obtain⟨Z,hZ⟩:∃Z,Z=(zeros.map bL).toArray:=⟨_,rfl⟩
 have hz:∀w,(zeroValue CT).run Tryz.prog w=.ok (.agg Z) w:=fun w=>by rw[hZ];exact yD w
 have hzs:Z.size=512:=by rw[hZ];simp[iD]
 have Wa:¬Z=#[]:=by intro e;rw[e] at hzs;cases hzs
 have HZ:=aa hZ
 clear hZ
 have HS:=aa (show s.read i=if s.off then ([],3) else if !s.has i then ([],2) else match Wl.look i.toNat s.wait with|some t=>(t,0)|none=>s.d.read ((1+s.ring+i.toNat:Nat):Int) from rfl)
 go_enter Tryz.func198,Tryz.ntmps198
 unfold ptr
 go_wp2_with fail
 refine (xA w F b g s HL.o).mono ?_
 rintro e w1 ⟨rfl,rfl⟩
 by_cases ho:s.off=true
 ·rw[ho]
  have HE:=aa (show s.read i=([],3) by rw[HS.o,if_pos ho])
  clear ho HS
  go_wp2
  go_ret2
  exact⟨by rw[HE.o];rfl,Below.refl _ _⟩
 ·have ho':s.off=false:=by simpa using ho
  have HS:=aa (show s.read i=if !s.has i then ([],2) else match Wl.look i.toNat s.wait with|some t=>(t,0)|none=>s.d.read ((1+s.ring+i.toNat:Nat):Int) by rw[HS.o,if_neg ho])
  rw[ho']
  clear ho ho'
  go_wp2_with fail
  refine (Js w1 F b g s i HL.o).mono ?_
  rintro e w1 ⟨rfl,rfl⟩
  by_cases hh:s.has i=true
  ·rw[hh]
   have HS:=aa (show s.read i=match Wl.look i.toNat s.wait with|some t=>(t,0)|none=>s.d.read ((1+s.ring+i.toNat:Nat):Int) by rw[HS.o,if_neg (by rw[hh];decide)])
   have hat:0≤i∧i<s.homes:=by simpa[Wl.Lg.has] using hh
   obtain⟨n,rfl⟩:∃n:Nat,i=n:=⟨i.toNat,by omega⟩
   rw[cX] at HS
   have SH:n≤1000000:=by have:=HB.o.h;omega
   have HN6:=aa SH
   obtain⟨r,hr⟩:∃r,w1.heap.size=r:=⟨_,rfl⟩
   clear hh hat
   cases hlk:Wl.look n s.wait with
   |some t=>
    obtain⟨hat,ht⟩:=CC.iC HH.o.mp SH hlk
    have HE:=aa (show s.read (n:Int)=(t,0) by rw[HS.o,hlk])
    have HHt:=aa ht
    clear HS hlk ht SH
    go_wp2_with (first
     |(refine oD rfl _ _ rfl r t zeros rfl rfl HHt.o (by rw[←hr];exact Ah.new w1 Z HZ.o) ?_;intro w5 uu dX;have hxs:=I5 w5 r;have hbk:=uu.back;have H5:=aa dX;clear dX uu)
     |fail)
    go_ret2
    exact⟨by rw[HE.o];rfl,qa (by rw[hr];exact H5.o)⟩
   |none=>
    have hat:=CC.dU HH.o.mp SH hlk
    have HE:=aa (show s.read (n:Int)=s.d.read ((1+s.ring+n:Nat):Int) by rw[HS.o,hlk])
    clear HS hlk SH
    go_wp2_with (first
     |(refine oD rfl _ _ rfl r zeros zeros rfl rfl iD (by rw[←hr];exact Ah.new w1 Z HZ.o) ?_;intro w5 uu dX;have H5:=aa (qa (show aE (fun k=>k=w1.heap.size) (w1.alloc (.cells Z CT)) w5 by rw[hr];exact dX));clear dX uu)
     |fail)
    have ZD:=aa (HL.o.below H5.o)
    have WA:=aa (HH.o.below H5.o)
    have c0:=WA.o.c0
    go_quiet (first
     |(go_at_call 220;exact Calls.quiet_of_same (yM _ F b g s n (by first|exact ZD.o|exact ZD.o.but ((aE.refl (fun _=>False) w5).drewN _) (fun _ _ h=>h)) HB.o.r2 HN6.o))
     |(go_at_call 97;exact Calls.quiet_of_same (Aa _ FD g s.d _ (by first|exact WA.o.sec|exact WA.o.sec.but ((aE.refl (fun _=>False) w5).drewN _) (fun _ _ h=>h)))))
    have WB:=aa (show s.read (n:Int)=s.d.read (1+(s.ring:Int)+n) by rw[HE.o,show ((1+s.ring+n:Nat):Int)=1+(s.ring:Int)+n by omega])
    rw[←WB.o]
    go_wp2
    go_ret2
    exact⟨rfl,H5.o.trans ((ep w5 _).mono H5.o.size)⟩
  ·have Ow:s.has i=false:=by simpa using hh
   have HE:=aa (show s.read i=([],2) by rw[HS.o,Ow];rfl)
   rw[Ow]
   clear hh Ow HS
   go_wp2
   go_ret2
   exact⟨by rw[HE.o];rfl,Below.refl _ _⟩
end
end Go.Proofs.YtebbahjombdalaaGreatDoor
