/- Elder texts, cut down and merged (17). -/
import Derived.Test.YtebbahjombdalaaGreatDoorP7
import Derived.Test.YtebbahjombdalaaGreatDoorP16
import Derived.Test.YtebbahjombdalaaGreatDoorP9
import Derived.Test.YtebbahjombdalaaGreatDoorP15
import Derived.Test.YtebbahjombdalaaGreatDoorP13
import Derived.Test.YtebbahjombdalaaGreatDoorP12
import Derived.Test.YtebbahjombdalaaGreatDoorPTk
set_option maxRecDepth 100000
set_option maxHeartbeats 8000000
namespace Go.Proofs.YtebbahjombdalaaGreatDoor
open List renaming mem_cons→aQ,take_succ_eq_append_getElem→cI,map_append→bI,getElem_mem→bB,setIfInBounds_toArray→az,set_cons_succ→ay,set_cons_zero→au,length_append→aq,length_singleton→eH,take_of_length_le→bZ,mem_cons_self→aA,mem_cons_of_mem→aF,length_cons→aW,length_map→aM,mem_filter→dy,drop_eq_getElem_cons→cm,pairwise_cons→cw,getElem?_eq_getElem→aJ,nodup_append→aL,getD_eq_getElem?_getD→bT,length_take→aN,length_drop→aT,getElem?_append_right→gN,length_set→bP,getElem?_map→cJ,mem_append→ah,mem_singleton→cH
open Nat renaming le_refl→af,zero_le→aC,zero_add→bV,lt_or_ge→dw,le_trans→aG,min_eq_left→b_,lt_succ_self→jF
open World renaming block_lt_of_cell?→bt,size_alloc→bk
section
open Go.RowKit Lib
def kK:Elem (Tr.Tx×Tr.Tx):=⟨fun p=>[.string (bs p.1),.string (bs p.2)],2,by decide,fun _=>rfl,by
 intro a u hu
 simp only[aQ,List.not_mem_nil,or_false] at hu
 rcases hu with rfl|rfl<;>rfl⟩
theorem KX:dD Tryz.prog 95 89 kK.size:=dD.of (size:=2) (bytes:=32) (z:=.agg #[.string .empty,.string .empty]) Tryz.underlying95 (by kernel_rfl) rfl (by decide)
abbrev qH (B:Nat) (w:World) (v:Value) (l:Tr.eZ):Prop:=Own kK 89 B w v l
def eP (lim:Int) (lo hi:Tr.Tx) (s:Tr.eZ) (p:Tr.Tx×Tr.Tx):Tr.eZ:=if (s.length:Int)<lim∧hasB lo hi p.1=true then s++[p] else s
structure Sn (cb:Nat) (w0:World) (v0:Value) (s:Tr.eZ) (v:Value) (X:World):Prop where
 blk:aS X cb 95 [v]
 own:qH 0 X v s
 but:aE (fun b=>b=cb∨v0.ownBlock=some b) w0 X
 new:v.ownBlock=v0.ownBlock∨∀b,v.ownBlock=some b→w0.heap.size≤b
theorem Sn.below {cb:Nat} {w0 X X':World} {v0 v:Value} {s:Tr.eZ} (h:Sn cb w0 v0 s v X) (hb:Below X.heap.size X X'):Sn cb w0 v0 s v X':=
 ⟨h.blk.below hb h.blk.lt,Own.below h.own hb (af _),h.but.trans (aE.aH hb (fun _=>False)) (fun _ _ f=>f.elim),h.new⟩
theorem Sn.lit {cb:Nat} {w0 X:World} {v0 v:Value} {s:Tr.eZ} (h:Sn cb w0 v0 s v X) (kx vx:List UInt8):Sn cb w0 v0 s v (X.alloc (.cells #[.string (bs kx),.string (bs vx)] 89))∧a_ kK (X.alloc (.cells #[.string (bs kx),.string (bs vx)] 89)) X.heap.size 0 [(kx,vx)]:=
 ⟨h.below ((Below.refl _ X).alloc (af _) _),a_.gh (aS.new X _ _) rfl⟩
structure Sa (cb:Nat) (w0:World) (v0:Value) (s:Tr.eZ) (v v':Value) (X:World):Prop where
 blk:aS X cb 95 [v]
 own:qH 0 X v' s
 but:aE (fun b=>b=cb∨v0.ownBlock=some b) w0 X
 new:v'.ownBlock=v0.ownBlock∨∀b,v'.ownBlock=some b→w0.heap.size≤b
theorem Sn.app {cb:Nat} {w0 X X':World} {v0 v v':Value} {s s':Tr.eZ} (h:Sn cb w0 v0 s v X) (ho:qH 0 X' v' s') (hg:X.grownBy X' v.ownBlock) (hw:v'.ownBlock=v.ownBlock∨∀k,v'.ownBlock=some k→X.heap.size≤k):Sa cb w0 v0 s' v v' X':=by
 have hb:aE (fun k=>v.ownBlock=some k) X X':=(aE.refl _ X).grown hg fun k e _=>e
 have h0:=h.but.size
 refine⟨h.blk.but hb (Own.cY h.own h.blk (by decide)),ho,h.but.trans hb fun b hlt e=> ?_, ?_⟩
 ·rcases h.new with h1|h1
  ·exact .inr (by rw[←h1];exact e)
  ·have:=h1 b e;omega
 ·rcases hw with e|e
  ·rw[e];exact h.new
  ·exact .inr fun b aP=>by have:=e b aP;omega
theorem Sa.fin {cb:Nat} {w0 X:World} {v0 v v':Value} {s:Tr.eZ} (h:Sa cb w0 v0 s v v' X):Sn cb w0 v0 s v' (X.setCell ⟨cb,0,none⟩ v'):=
 ⟨h.blk.set 0 _,Own.but h.own ((aE.refl (fun b=>b=cb) X).setCell _ _ fun _=>rfl) (fun g hg e=>Own.cY h.own h.blk (by decide) (by rw[hg,e])),h.but.setCell _ _ fun _=>.inl rfl,h.new⟩
structure Sb (cb lb kb q:Nat) (lo hi:ByteArray) (lim:Int) (n:NV) (w0:World) (v0:Value):Prop where
 lim:w0.cell? ⟨lb,0,none⟩=some (.int .i64 lim)
 ks:aS w0 kb 125 [.string lo,.string hi]
 nd:Nd w0 q n
 n1:∀b,(b=cb∨v0.ownBlock=some b)→b≠lb∧b≠kb∧b≠q∧b≠n.rg
theorem Fb {N i:Nat} {its:List It} {s s1:Tr.eZ} {lim:Int} {lo hi:Tr.Tx} (hN:N=its.length) (hi1:i<N) (h:s1=((its.take i).map fun i=>((i.key,i.val):Tr.Tx×Tr.Tx)).foldl (eP lim lo hi) s) (hc:¬(s1.length:Int)<lim∨hasB lo hi (its[i]'(by omega)).key=false):s1=((its.take (i+1)).map fun i=>((i.key,i.val):Tr.Tx×Tr.Tx)).foldl (eP lim lo hi) s:=by
 rw[cI (by omega),bI,List.foldl_append,←h]
 show s1=eP lim lo hi s1 _
 unfold eP
 rw[if_neg]
 rintro⟨h1,h2⟩
 rcases hc with hc|hc
 ·exact hc h1
 ·rw[hc] at h2;cases h2
theorem KY {N i:Nat} {its:List It} {s s1:Tr.eZ} {lim:Int} {lo hi:Tr.Tx} (hN:N=its.length) (hi1:i<N) (h:s1=((its.take i).map fun i=>((i.key,i.val):Tr.Tx×Tr.Tx)).foldl (eP lim lo hi) s) (h1:(s1.length:Int)<lim) (h2:hasB lo hi (its[i]'(by omega)).key=true):s1++[((its[i]'(by omega)).key,(its[i]'(by omega)).val)]=((its.take (i+1)).map fun i=>((i.key,i.val):Tr.Tx×Tr.Tx)).foldl (eP lim lo hi) s:=by
 rw[cI (by omega),bI,List.foldl_append,←h]
 show _=eP lim lo hi s1 _
 unfold eP
 rw[if_pos ⟨h1,h2⟩]
theorem KZ (w0:World) (cb lb kb q:Nat) (v0:Value) (s:Tr.eZ) (lo hi:List UInt8) (lim:Int) (n:NV) (hB:Sb cb lb kb q (bs lo) (bs hi) lim n w0 v0) (hS:Sn cb w0 v0 s v0 w0) (hs:s.length≤100000000):
  Calls Tryz.prog 93 #[ptr q,ptr cb,ptr lb,ptr kb] w0 fun e w'=>∃v s',e=.returned (.bool (decide ((s'.length:Int)<lim)))∧s'=(if n.level=0 then (n.its.map fun i=>((i.key,i.val):Tr.Tx×Tr.Tx)).foldl (eP lim lo hi) s else s)∧Sn cb w0 v0 s' v w':=by
 have HB:=aa hB
 have HS:=aa hS
 have Jm:=hB.nd.small.len
 have ij:=aa (CR hB.nd)
 have RO:=aa Jm
 have c0:=hS.blk.cell (j:=0) rfl
 clear hB hS Jm c0
 unfold ptr at ij ⊢
 by_cases h0:n.level=0
 ·simp only[h0,if_true] at ij ⊢
  obtain⟨N,hN⟩:∃N,N=n.its.length:=⟨_,rfl⟩
  have Rp:(N:Int)≤400:=by have:=RO.o;omega
  have HN:=aa hN
  rw[←hN] at ij
  have ZY:=aa (show N≤n.cap by rw[hN];exact HB.o.nd.small.cap.1)
  have aa2:(N:Int)≤n.cap:=by have:=ZY.o;omega
  clear hN
  go_enter Tryz.func93,Tryz.ntmps93
  go_wp2_with fail
  refine ij.o.mono ?_
  rintro e w1 ⟨rfl,rfl⟩
  go_wp2_with fail
  go_loopw [11] (fun iv wr=>∃(i:Nat) (s1:Tr.eZ) (v1:Value),i≤N∧iv=.int .i64 i∧Hid (Sn cb w1 v0 s1 v1 wr∧s1.length≤s.length+i∧s1=((n.its.take i).map fun i=>((i.key,i.val):Tr.Tx×Tr.Tx)).foldl (eP lim lo hi) s)) (fun iv _=>N-(RowKit.intOf iv).toNat)
  case atStart=>exact⟨0,s,v0,aC _,rfl,aa ⟨HS.o,af _,by rw[List.take_zero];rfl⟩⟩
  case round=>
   obtain⟨i,s1,v1,hi4,rfl,hR⟩:=hrel
   have jG:=hR.o.1.but
   have cl:=jG.cell HB.o.lim (fun h=>(HB.o.n1 _ h).1 rfl)
   have hks:=HB.o.ks.but jG (fun h=>(HB.o.n1 _ h).2.1 rfl)
   have hnd:=HB.o.nd.but jG (fun h=>(HB.o.n1 _ h).2.2.1 rfl) (fun h=>(HB.o.n1 _ h).2.2.2 rfl)
   obtain⟨a1,cp1,QN,hc1⟩:=Own.slice hR.o.1.own
   obtain⟨L1,Gt⟩:∃L1,L1=s1.length:=⟨_,rfl⟩
   rw[←Gt] at QN hc1
   subst QN
   have L3:=aa Gt
   have cc:=hR.o.1.blk.cell (j:=0) rfl
   have fc:=hR.o.1.blk.frozen 0
   have YG:(L1:Int)≤100001000:=by have:=hR.o.2.1;have:=RO.o;omega
   have k0:=hks.cell (j:=0) rfl
   have YH:=hR.o.1.blk.lt
   have UB:=hks.lt
   have NZ:=bt _ _ cl
   have k1:=hks.cell (j:=1) rfl
   by_cases hlt:i<N
   ·have hI:(i:Int)<N:=by omega
    obtain⟨i0,i1,i2⟩:=aV hnd.row i (by rw[←HN.o];exact hlt)
    obtain⟨kx,Cr⟩:∃kx,kx=(n.its[i]'(by rw[←HN.o];exact hlt)).key:=⟨_,rfl⟩
    obtain⟨vx,VM⟩:∃vx,vx=(n.its[i]'(by rw[←HN.o];exact hlt)).val:=⟨_,rfl⟩
    rw[←Cr] at i0
    rw[←VM] at i1
    have YI:=aa (And.intro Cr VM)
    have UC:=aa (show kx.length≤200∧vx.length≤200 by rw[Cr,VM];exact hnd.small.each _ (bB _))
    have HNX:=aa (And.intro hnd hks)
    clear jG hnd hks Cr VM hc1 Gt
    by_cases hlim:(L1:Int)<lim
    ·go_wp2_with fail
     obtain⟨W,hW⟩:∃W,W=wr.alloc (.cells #[.string (bs kx),.string (bs vx),.pointer (pa (n.its[i]'(by rw[←HN.o];exact hlt)).node)] 122):=⟨_,rfl⟩
     obtain⟨ib,hib⟩:∃ib,ib=wr.heap.size:=⟨_,rfl⟩
     have hbW:Below wr.heap.size wr W:=by rw[hW];exact (Below.refl _ wr).alloc (af _) _
     have YJ:aS W ib 122 [.string (bs kx),.string (bs vx),.pointer (pa (n.its[i]'(by rw[←HN.o];exact hlt)).node)]:=by rw[hW,hib];exact aS.new wr _ _
     rw[←hW,←hib]
     have hSW:=hR.o.1.below hbW
     refine (mV W lo hi kx).mono ?_
     rintro e w2 ⟨rfl,aP⟩
     have HO:=aa (hSW.below aP)
     have LR:=YJ.below aP YJ.lt
     have HI:=aa LR
     have HR:=aa hR.o.2
     have hne:cb≠ib:=by omega
     have j0:=LR.cell (j:=0) rfl
     have j1:=LR.cell (j:=1) rfl
     clear hW hib hbW YJ hSW aP LR hR cc cl k0 k1 i0 i1 i2 fc YH UB NZ
     generalize oZ:(!Tr.lt kx lo&& !(!hi.isEmpty&& !Tr.lt kx hi))=b
     cases b with
     |false=>
      go_wp2_with fail
      go_roundw
      case rel=>exact⟨i+1,s1,_,hlt,by go_num,aa ⟨HO.o,by have:=HR.o.1;omega,Fb HN.o hlt HR.o.2 (.inr (by rw[←YI.o.1];exact oZ))⟩⟩
      case measure=>simp[RowKit.intOf];omega
     |true=>
      go_wp2_with fail
      go_wp2_with (refine wp_region_held_drew (S:=(fun X=>X.cell? ⟨ib,0,none⟩=some (.string (bs kx))∧X.cell? ⟨ib,1,none⟩=some (.string (bs vx)))) (by kernel_rfl) ?_ (fun aD=> ?_);focus skip;rotate_left;refine Hid.o ?_)
      refine aa ?_
      ·first|trivial|exact⟨j0,j1⟩
      replace HO:=aa (HO.o.below (Below.refl _ _).drew)
      replace HI:=aa (HI.o.drew)
      refine aU 1 aD ?_
      refine aU 2 aD ?_
      refine aU 3 aD ?_
      refine aU 5 aD ?_
      refine aU 6 aD ?_
      refine aU 7 aD ?_
      try simp only[Act.put,az,ay,au]
      refine iL [0,4] (AllReadyH.cons rfl (fun K hK=> ?_) (iM fun K hK=> ?_))
      focus
       have c0:=HO.o.blk.cell (j:=0) rfl
       go_simp
       refine hK.out _ _ aD (fun aD=> ?_);clear hK K c0
       refine iL [4] (iM fun K hK=> ?_)
       go_simp
       refine (iG (bs kx) _ (by rw[aK];have:=UC.o;omega)).mono ?_
       rintro e w' ⟨rfl,hb⟩
       replace HO:=aa (HO.o.below hb)
       replace HI:=aa (HI.o.below hb HI.o.lt)
       refine hK.out _ _ ⟨HI.o.cell (j:=0) rfl,HI.o.cell (j:=1) rfl⟩ (fun aD=> ?_);clear hK K hb
       refine iL [8] (iM fun K hK=> ?_)
       go_simp
       refine (iG (bs vx) _ (by rw[aK];have:=UC.o;omega)).mono ?_
       rintro e w' ⟨rfl,hb⟩
       replace HO:=aa (HO.o.below hb)
       replace HI:=aa (HI.o.below hb HI.o.lt)
       refine hK.out _ _ ⟨HI.o.cell (j:=0) rfl,HI.o.cell (j:=1) rfl⟩ (fun aD=> ?_);clear hK K hb
       refine iL [9] (iM fun K hK=> ?_)
       go_simp
       refine hK.out _ _ aD (fun aD=> ?_);clear hK K
       refine iL [10] (iM fun K hK=> ?_)
       go_simp
       have dJ:=aa (HO.o.lit kx vx)
       replace HO:=aa dJ.o.1
       have Fc:=aa dJ.o.2
       replace HI:=aa (HI.o.alloc (.cells #[.string (bs kx),.string (bs vx)] 89))
       clear dJ
       refine hK.out _ _ ⟨HI.o.cell (j:=0) rfl,HI.o.cell (j:=1) rfl⟩ (fun aD=> ?_);clear hK K
       refine iL [11] (iM fun K hK=> ?_)
       refine fQ (K:=kK) KX _ _ rfl rfl HO.o.own (aC _) _ 0 1 1 [(kx,vx)] rfl rfl Fc.o (by have:=L3.o;show s1.length+1≤1000000000;omega) ?_
       intro v5 w5 pL gS AO
       have HA:=aa (HO.o.app pL gS AO)
       replace HI:=aa (HI.o.but ((aE.refl _ _).grown gS (fun k e _=>e)) (Own.cY HO.o.own HI.o (by decide)))
       clear gS AO Fc
       obtain⟨a5,mY,xC,uu⟩:=Own.slice pL
       clear pL HO
       generalize N0:(s1++[(kx,vx)]).length=N5 at xC uu
       clear N0 uu
       subst xC
       refine hK.out _ _ ⟨HI.o.cell (j:=0) rfl,HI.o.cell (j:=1) rfl⟩ (fun aD=> ?_);clear hK K
       refine iL [12] (iM fun K hK=> ?_)
       have c5:=HA.o.blk.cell (j:=0) rfl
       have f5:=HA.o.blk.frozen 0
       go_simp
       have HO:=aa HA.o.fin
       replace HI:=aa (HI.o.but ((aE.refl (fun b=>b=cb) _).setCell ⟨cb,0,none⟩ (.slice a5 N5 mY) fun _=>rfl) fun e=>hne e.symm)
       refine hK.out _ _ ⟨HI.o.cell (j:=0) rfl,HI.o.cell (j:=1) rfl⟩ (fun aD=> ?_);clear hK K c5 f5 HA
      rotate_left
      focus
       go_simp
       refine (iG (bs kx) _ (by rw[aK];have:=UC.o;omega)).mono ?_
       rintro e w' ⟨rfl,hb⟩
       replace HO:=aa (HO.o.below hb)
       replace HI:=aa (HI.o.below hb HI.o.lt)
       refine hK.out _ _ ⟨HI.o.cell (j:=0) rfl,HI.o.cell (j:=1) rfl⟩ (fun aD=> ?_);clear hK K hb
       refine iL [0,8] (AllReadyH.cons rfl (fun K hK=> ?_) (iM fun K hK=> ?_))
       focus
        have c0:=HO.o.blk.cell (j:=0) rfl
        go_simp
        refine hK.out _ _ aD (fun aD=> ?_);clear hK K c0
        refine iL [8] (iM fun K hK=> ?_)
        go_simp
        refine (iG (bs vx) _ (by rw[aK];have:=UC.o;omega)).mono ?_
        rintro e w' ⟨rfl,hb⟩
        replace HO:=aa (HO.o.below hb)
        replace HI:=aa (HI.o.below hb HI.o.lt)
        refine hK.out _ _ ⟨HI.o.cell (j:=0) rfl,HI.o.cell (j:=1) rfl⟩ (fun aD=> ?_);clear hK K hb
        refine iL [9] (iM fun K hK=> ?_)
        go_simp
        refine hK.out _ _ aD (fun aD=> ?_);clear hK K
        refine iL [10] (iM fun K hK=> ?_)
        go_simp
        have dJ:=aa (HO.o.lit kx vx)
        replace HO:=aa dJ.o.1
        have Fc:=aa dJ.o.2
        replace HI:=aa (HI.o.alloc (.cells #[.string (bs kx),.string (bs vx)] 89))
        clear dJ
        refine hK.out _ _ ⟨HI.o.cell (j:=0) rfl,HI.o.cell (j:=1) rfl⟩ (fun aD=> ?_);clear hK K
        refine iL [11] (iM fun K hK=> ?_)
        refine fQ (K:=kK) KX _ _ rfl rfl HO.o.own (aC _) _ 0 1 1 [(kx,vx)] rfl rfl Fc.o (by have:=L3.o;show s1.length+1≤1000000000;omega) ?_
        intro v5 w5 pL gS AO
        have HA:=aa (HO.o.app pL gS AO)
        replace HI:=aa (HI.o.but ((aE.refl _ _).grown gS (fun k e _=>e)) (Own.cY HO.o.own HI.o (by decide)))
        clear gS AO Fc
        obtain⟨a5,mY,xC,uu⟩:=Own.slice pL
        clear pL HO
        generalize N0:(s1++[(kx,vx)]).length=N5 at xC uu
        clear N0 uu
        subst xC
        refine hK.out _ _ ⟨HI.o.cell (j:=0) rfl,HI.o.cell (j:=1) rfl⟩ (fun aD=> ?_);clear hK K
        refine iL [12] (iM fun K hK=> ?_)
        have c5:=HA.o.blk.cell (j:=0) rfl
        have f5:=HA.o.blk.frozen 0
        go_simp
        have HO:=aa HA.o.fin
        replace HI:=aa (HI.o.but ((aE.refl (fun b=>b=cb) _).setCell ⟨cb,0,none⟩ (.slice a5 N5 mY) fun _=>rfl) fun e=>hne e.symm)
        refine hK.out _ _ ⟨HI.o.cell (j:=0) rfl,HI.o.cell (j:=1) rfl⟩ (fun aD=> ?_);clear hK K c5 f5 HA
       rotate_left
       focus
        go_simp
        refine (iG (bs vx) _ (by rw[aK];have:=UC.o;omega)).mono ?_
        rintro e w' ⟨rfl,hb⟩
        replace HO:=aa (HO.o.below hb)
        replace HI:=aa (HI.o.below hb HI.o.lt)
        refine hK.out _ _ ⟨HI.o.cell (j:=0) rfl,HI.o.cell (j:=1) rfl⟩ (fun aD=> ?_);clear hK K hb
        refine iL [0,9] (AllReadyH.cons rfl (fun K hK=> ?_) (iM fun K hK=> ?_))
        focus
         have c0:=HO.o.blk.cell (j:=0) rfl
         go_simp
         refine hK.out _ _ aD (fun aD=> ?_);clear hK K c0
         refine iL [9] (iM fun K hK=> ?_)
         go_simp
         refine hK.out _ _ aD (fun aD=> ?_);clear hK K
         refine iL [10] (iM fun K hK=> ?_)
         go_simp
         have dJ:=aa (HO.o.lit kx vx)
         replace HO:=aa dJ.o.1
         have Fc:=aa dJ.o.2
         replace HI:=aa (HI.o.alloc (.cells #[.string (bs kx),.string (bs vx)] 89))
         clear dJ
         refine hK.out _ _ ⟨HI.o.cell (j:=0) rfl,HI.o.cell (j:=1) rfl⟩ (fun aD=> ?_);clear hK K
         refine iL [11] (iM fun K hK=> ?_)
         refine fQ (K:=kK) KX _ _ rfl rfl HO.o.own (aC _) _ 0 1 1 [(kx,vx)] rfl rfl Fc.o (by have:=L3.o;show s1.length+1≤1000000000;omega) ?_
         intro v5 w5 pL gS AO
         have HA:=aa (HO.o.app pL gS AO)
         replace HI:=aa (HI.o.but ((aE.refl _ _).grown gS (fun k e _=>e)) (Own.cY HO.o.own HI.o (by decide)))
         clear gS AO Fc
         obtain⟨a5,mY,xC,uu⟩:=Own.slice pL
         clear pL HO
         generalize N0:(s1++[(kx,vx)]).length=N5 at xC uu
         clear N0 uu
         subst xC
         refine hK.out _ _ ⟨HI.o.cell (j:=0) rfl,HI.o.cell (j:=1) rfl⟩ (fun aD=> ?_);clear hK K
         refine iL [12] (iM fun K hK=> ?_)
         have c5:=HA.o.blk.cell (j:=0) rfl
         have f5:=HA.o.blk.frozen 0
         go_simp
         have HO:=aa HA.o.fin
         replace HI:=aa (HI.o.but ((aE.refl (fun b=>b=cb) _).setCell ⟨cb,0,none⟩ (.slice a5 N5 mY) fun _=>rfl) fun e=>hne e.symm)
         refine hK.out _ _ ⟨HI.o.cell (j:=0) rfl,HI.o.cell (j:=1) rfl⟩ (fun aD=> ?_);clear hK K c5 f5 HA
        rotate_left
        focus
         go_simp
         refine hK.out _ _ aD (fun aD=> ?_);clear hK K
         refine iL [0,10] (AllReadyH.cons rfl (fun K hK=> ?_) (iM fun K hK=> ?_))
         focus
          have c0:=HO.o.blk.cell (j:=0) rfl
          go_simp
          refine hK.out _ _ aD (fun aD=> ?_);clear hK K c0
          refine iL [10] (iM fun K hK=> ?_)
          go_simp
          have dJ:=aa (HO.o.lit kx vx)
          replace HO:=aa dJ.o.1
          have Fc:=aa dJ.o.2
          replace HI:=aa (HI.o.alloc (.cells #[.string (bs kx),.string (bs vx)] 89))
          clear dJ
          refine hK.out _ _ ⟨HI.o.cell (j:=0) rfl,HI.o.cell (j:=1) rfl⟩ (fun aD=> ?_);clear hK K
          refine iL [11] (iM fun K hK=> ?_)
          refine fQ (K:=kK) KX _ _ rfl rfl HO.o.own (aC _) _ 0 1 1 [(kx,vx)] rfl rfl Fc.o (by have:=L3.o;show s1.length+1≤1000000000;omega) ?_
          intro v5 w5 pL gS AO
          have HA:=aa (HO.o.app pL gS AO)
          replace HI:=aa (HI.o.but ((aE.refl _ _).grown gS (fun k e _=>e)) (Own.cY HO.o.own HI.o (by decide)))
          clear gS AO Fc
          obtain⟨a5,mY,xC,uu⟩:=Own.slice pL
          clear pL HO
          generalize N0:(s1++[(kx,vx)]).length=N5 at xC uu
          clear N0 uu
          subst xC
          refine hK.out _ _ ⟨HI.o.cell (j:=0) rfl,HI.o.cell (j:=1) rfl⟩ (fun aD=> ?_);clear hK K
          refine iL [12] (iM fun K hK=> ?_)
          have c5:=HA.o.blk.cell (j:=0) rfl
          have f5:=HA.o.blk.frozen 0
          go_simp
          have HO:=aa HA.o.fin
          replace HI:=aa (HI.o.but ((aE.refl (fun b=>b=cb) _).setCell ⟨cb,0,none⟩ (.slice a5 N5 mY) fun _=>rfl) fun e=>hne e.symm)
          refine hK.out _ _ ⟨HI.o.cell (j:=0) rfl,HI.o.cell (j:=1) rfl⟩ (fun aD=> ?_);clear hK K c5 f5 HA
         rotate_left
         focus
          go_simp
          have dJ:=aa (HO.o.lit kx vx)
          replace HO:=aa dJ.o.1
          have Fc:=aa dJ.o.2
          replace HI:=aa (HI.o.alloc (.cells #[.string (bs kx),.string (bs vx)] 89))
          clear dJ
          refine hK.out _ _ ⟨HI.o.cell (j:=0) rfl,HI.o.cell (j:=1) rfl⟩ (fun aD=> ?_);clear hK K
          refine iL [0] (iM fun K hK=> ?_)
          have c0:=HO.o.blk.cell (j:=0) rfl
          go_simp
          refine hK.out _ _ aD (fun aD=> ?_);clear hK K c0
          refine iL [11] (iM fun K hK=> ?_)
          refine fQ (K:=kK) KX _ _ rfl rfl HO.o.own (aC _) _ 0 1 1 [(kx,vx)] rfl rfl Fc.o (by have:=L3.o;show s1.length+1≤1000000000;omega) ?_
          intro v5 w5 pL gS AO
          have HA:=aa (HO.o.app pL gS AO)
          replace HI:=aa (HI.o.but ((aE.refl _ _).grown gS (fun k e _=>e)) (Own.cY HO.o.own HI.o (by decide)))
          clear gS AO Fc
          obtain⟨a5,mY,xC,uu⟩:=Own.slice pL
          clear pL HO
          generalize N0:(s1++[(kx,vx)]).length=N5 at xC uu
          clear N0 uu
          subst xC
          refine hK.out _ _ ⟨HI.o.cell (j:=0) rfl,HI.o.cell (j:=1) rfl⟩ (fun aD=> ?_);clear hK K
          refine iL [12] (iM fun K hK=> ?_)
          have c5:=HA.o.blk.cell (j:=0) rfl
          have f5:=HA.o.blk.frozen 0
          go_simp
          have HO:=aa HA.o.fin
          replace HI:=aa (HI.o.but ((aE.refl (fun b=>b=cb) _).setCell ⟨cb,0,none⟩ (.slice a5 N5 mY) fun _=>rfl) fun e=>hne e.symm)
          refine hK.out _ _ ⟨HI.o.cell (j:=0) rfl,HI.o.cell (j:=1) rfl⟩ (fun aD=> ?_);clear hK K c5 f5 HA
      all_goals
       refine wpAnyH_done (by kernel_rfl) ?_ _
       try simp only[Act.put,az,ay,au]
       go_wp2_with fail
       go_roundw
       case rel=>exact⟨i+1,_,_,hlt,by go_num,aa ⟨HO.o,by have:=HR.o.1;rw[aq,eH];omega,by have e1:=YI.o.1;have e2:=YI.o.2;have:=KY HN.o hlt HR.o.2 (by rw[←L3.o];exact hlim) (by rw[←e1];exact oZ);rw[←e1,←e2] at this;exact this⟩⟩
       case measure=>simp[RowKit.intOf];omega
    ·go_wp2_with fail
     go_roundw
     case rel=>exact⟨i+1,s1,_,hlt,by go_num,aa ⟨hR.o.1.below ((Below.refl _ wr).alloc (af _) _),by have:=hR.o.2.1;omega,Fb HN.o hlt hR.o.2.2 (.inl (by rw[←L3.o];exact hlim))⟩⟩
     case measure=>simp[RowKit.intOf];omega
   ·obtain rfl:i=N:=by omega
    have hI:¬(i:Int)<i:=by omega
    go_wp2_with fail
    go_ret
    refine⟨_,s1, ?_, ?_,hR.o.1⟩
    ·rw[←L3.o];rfl
    ·have h5:=hR.o.2.2
     rw[bZ (by rw[←HN.o];exact af _)] at h5
     exact h5
 ·simp only[h0,if_false] at ij ⊢
  obtain⟨a1,cp1,QN,hc1⟩:=Own.slice HS.o.own
  obtain⟨L1,Gt⟩:∃L1,L1=s.length:=⟨_,rfl⟩
  rw[←Gt] at QN hc1
  subst QN
  have L3:=aa Gt
  have YG:(L1:Int)≤100001000:=by omega
  have cc:=HS.o.blk.cell (j:=0) rfl
  have cl:=HB.o.lim
  clear Gt hc1
  go_enter Tryz.func93,Tryz.ntmps93
  go_wp2_with fail
  refine ij.o.mono ?_
  rintro e w1 ⟨rfl,rfl⟩
  go_wp2_with fail
  go_loopw [11] (fun iv wr=>iv=.int .i64 0∧Hid (wr=w1)) (fun _ _=>0)
  case atStart=>exact⟨rfl,aa rfl⟩
  case round=>
   obtain⟨rfl,hwr⟩:=hrel
   have hwr:=hwr.o
   subst hwr
   go_wp2_with fail
   go_ret
   exact⟨_,s,by rw[←L3.o];rfl,rfl,HS.o⟩
section
variable {w:World} {tb:Nat}
theorem wY {lo hi:ByteArray} {fn:Nat} {caps:Array Value} {G:World→Prop}
  (hR:∀W,W=w.alloc (.cells #[.string lo,.string hi] 125)→Calls Tryz.prog 77 #[ptr tb] W fun e X=>(e=.returned (.tuple #[.pointer none,.int .i64 0])∧G X)∨
   ∃q,e=.returned (.tuple #[ptr q,.int .i64 0])∧X.cell? ⟨w.heap.size,0,none⟩=some (.string lo)∧X.cell? ⟨w.heap.size,1,none⟩=some (.string hi)∧
    Calls Tryz.prog 143 #[ptr tb,ptr q,.agg #[.string lo,.string hi],.func (.func fn) #[] caps] X fun e X'=>∃b,e=.returned (.tuple #[.bool b,.int .i64 0])∧G X'):
  Calls Tryz.prog 92 #[ptr tb,.agg #[.string lo,.string hi],.func (.func fn) #[] caps] w fun e w'=>e=.returned (.int .i64 0)∧G w':=by
 obtain⟨W0,lP⟩:∃W0,W0=w.alloc (.cells #[.string lo,.string hi] 125):=⟨_,rfl⟩
 have HR:=aa (hR W0 lP)
 clear hR
 unfold ptr at HR ⊢
 go_enter Tryz.func92,Tryz.ntmps92
 go_wp2_with fail
 rw[←lP]
 refine HR.o.mono ?_
 rintro e X (⟨rfl,hG⟩|⟨q,rfl,s0,s1,cG⟩)
 ·have HG:=aa hG
  clear hG lP
  go_wp2_with fail
  go_ret
  exact⟨rfl,HG.o⟩
 ·have HC:=aa cG
  clear cG lP
  go_wp2_with fail
  refine HC.o.mono ?_
  rintro e w9 ⟨b,rfl,hG⟩
  have HG:=aa hG
  clear hG s0 s1
  go_wp2_with fail
  go_ret
  exact⟨rfl,HG.o⟩
end
section
variable {E:Ev} {X0 X X' X1 X2 Y V w:World} {R0 R R' R1 R2:Nat→Prop} {ps:List (Nat×List UInt8)} {pg:List (Option Wl.Text)} {rt:List Nat} {M M' M1 M2:Nat→Option NV} {σ:Type} {s s1 s2:σ} {J:σ→(Nat→Prop)→(Nat→Option NV)→World→Prop} {f:(k:Nat)→Tr.E (k+1)→σ→σ×Bool} {fn:Nat} {caps:Array Value} {sz:σ→Nat} {lo hi:Tr.Tx}
theorem Pf:∀(k:Nat) (c:Tr.E (k+1)) {lo:Tr.Tx} {h:Option Tr.Tx},cK pg (k+1) c→Tr.Ok (k+1) lo h c→tw k c≤256*(Tr.b8 (k+1) c).length
 |0,c,lo,h,hs,ho=>by
  obtain⟨page,hp,_⟩:=hs.1
  have h2:2*(Tr.its c).length≤Tr.sz 0 (Tr.its c):=Tr.iJ 0 (Tr.its c)
  have h3:Tr.sz 0 (Tr.its c)≤510:=ho.2.1
  rw[Tr.bp,hp]
  show 1+(Tr.its c).length≤256*(([page]:List Nat)++_).length
  rw[aq,eH]
  omega
 |k+1,c,lo,h,hs,ho=>by
  obtain⟨page,hp,_⟩:=hs.1
  have h2:=Tr.iJ (k+1) (Tr.its c)
  have h3:=ho.2.1
  have key:∀l:List (Tr.Tx×Tr.E (k+1)),(∀p∈l,cK pg (k+1) p.2∧∃lo h,Tr.Ok (k+1) lo h p.2)→KH l≤256*(Tr.dI (k+1) l).length:=by
   intro l
   induction l with
   |nil=>intro _;exact aC _
   |cons p l ih=>
    intro hl
    obtain⟨h4,lo',h',h5⟩:=hl p aA
    have h6:=Pf k p.2 h4 h5
    have h7:=ih fun x hx=>hl x (aF _ hx)
    rw[qG,Tr.fI,aq]
    omega
  have h4:=key (Tr.its c) fun p hp=>⟨hs.2.2 p hp,tG ho p hp⟩
  rw[Tr.bp,hp]
  show 1+(Tr.its c).length+KH (Tr.its c)≤256*(([page]:List Nat)++_).length
  rw[aq,eH]
  omega
def Seen (J:σ→(Nat→Prop)→(Nat→Option NV)→World→Prop) (f:(k:Nat)→Tr.E (k+1)→σ→σ×Bool) (lo hi:Tr.Tx) (R:Nat→Prop) (M:Nat→Option NV) (s:σ) (l:List (Tr.Tx×Tr.Tx)) (pages:List Nat) (X X':World):Prop:=
 (l=[]∧pages=[]∧z7 J R M X s X')∨∃(K:Nat) (T:Tr.E (K+1)),l=Tr.ct K (Tr.its T)∧pages=Tr.b8 (K+1) T∧pages.Nodup∧Tr.Ok (K+1) [] none T∧cK pg (K+1) T∧z7 J R M X (visit f lo hi K T s).1 X'
theorem K3 (A:Acc E X0 R0 ps pg rt fn caps f sz J) (hj:J s R M X) {l:List (Tr.Tx×Tr.Tx)} {pages:List Nat} (hm:iz pg (rt.getD E.place 0) l pages) (dH:E.place<16) (hB:sz s≤1000000):
  Calls Tryz.prog 92 #[ptr E.tb,.agg #[.string (bs lo),.string (bs hi)],.func (.func fn) #[] caps] X fun e X'=>e=.returned (.int .i64 0)∧Seen (pg:=pg) J f lo hi R M s l pages X X':=by
 refine wY fun W hW=> ?_
 have hbW:Below X.heap.size X W:=by rw[hW];exact (Below.refl _ X).alloc (af _) _
 have hts:=A.ts _ _ _ _ hj
 have N1:=hts.still hbW (fun _ h=>h) (fun _ h=>.inl h)
 have Uz:=A.grow _ _ _ _ R M W hj N1 hbW (fun _ h=>.inl h) (fun _ h=>h)
 have QJ:aS W X.heap.size 125 [.string (bs lo),.string (bs hi)]:=by rw[hW];exact aS.new X _ _
 have hmm:=hm
 rcases hm with⟨h0,h1,h2⟩|⟨K,T,page,h1,h2,h3,h4,h5,h6,h7,h8⟩
 ·refine (ni N1 dH h0).mono ?_
  rintro e X1 ⟨rfl,hb⟩
  exact .inl ⟨rfl,.inl ⟨h1,h2,A.below (z7.of hj) (hbW.trans (hb.mono hbW.size))⟩⟩
 ·have lC:=gL (lo:=[]) (hi:=[]) h3 h4 h2 h5
  have YK:page<pg.length:=cE (by rw[lC.page];rfl)
  refine (nj N1 dH page K (ak K (Tr.its T)) h1 lC YK).mono ?_
  rintro e X1 ⟨p,rg,cap,R',rfl,QI,hb,hp,wv,hR,Cq⟩
  have hmb:∀b,MB (upd M p (NV.got K (ak K (Tr.its T)) rg cap page [] [])) b→MB M b∨W.heap.size≤b:=by
   rintro b ⟨r,y,hr,hkk⟩
   rcases aI hr with⟨rfl,rfl⟩|⟨_,hr⟩
   ·right
    rcases hkk with rfl|rfl<;>assumption
   ·exact .inl ⟨r,y,hr,hkk⟩
  have QK:=A.grow _ _ _ _ R' _ X1 Uz QI hb hmb hR
  have hx1:=QJ.below hb QJ.lt
  refine .inr ⟨p,rfl,hx1.cell (j:=0) rfl,hx1.cell (j:=1) rfl,(KI A lo hi K T _ p s R' _ X1 h3 QK (bz _ _ _) ⟨rfl,rfl,by rw[h2];rfl,h4,h5⟩ (by have:=Pf K T h4 h5;have:=eM (h7▸h8) fun x hx=>cE (nx hmm x (by rw[h7];exact hx));have:=hts.rm.rep.few;omega)).mono ?_⟩
  rintro e X2 ⟨rfl,R5,M5,YD,dX,h51,h52,h53⟩
  refine⟨_,rfl,.inr ⟨K,T,h6,h7,h8,h5,h4,R5,M5,YD, ?_,fun b hb=>h51 b (hR b hb),fun b aP=> ?_,fun r y hr=>h53 r y ?_⟩⟩
  ·refine ((aE.aH (hbW.trans (hb.mono hbW.size)) (fun b=>R b))).trans dX fun b hlt h=> ?_
   rcases Cq b h with h|h
   ·exact h
   ·have:=hbW.size;omega
  ·have:=hbW.size
   have:=hb.size
   rcases h52 b aP with h|h
   ·grind
   ·right;omega
  ·rw[aO (fun e=> ?_)]
   ·exact hr
   ·have:=(N1.mem.lt hr).1
    omega
end
def fS (lim:Int) (lo hi:Tr.Tx) (k:Nat) (c:Tr.E (k+1)) (s:Tr.eZ):Tr.eZ×Bool:=
 ((if k=0 then ((ak k (Tr.its c)).map fun i=>((i.key,i.val):Tr.Tx×Tr.Tx)).foldl (eP lim lo hi) s else s),decide (((if k=0 then ((ak k (Tr.its c)).map fun i=>((i.key,i.val):Tr.Tx×Tr.Tx)).foldl (eP lim lo hi) s else s).length:Int)<lim))
theorem BS (lim:Int) (lo hi:Tr.Tx):∀(l:Tr.eZ) (s:Tr.eZ),(l.foldl (eP lim lo hi) s).length≤s.length+l.length
 |[],s=>af _
 |p::l,s=>by
  rw[List.foldl_cons]
  have h1:=BS lim lo hi l (eP lim lo hi s p)
  have h2:(eP lim lo hi s p).length≤s.length+1:=by
   unfold eP
   split
   ·grind
   ·omega
  rw[aW]
  omega
section
variable {E:Ev} {X0 X X' w:World} {R0 R R':Nat→Prop} {ps:List (Nat×List UInt8)} {pg:List (Option Wl.Text)} {rt:List Nat} {M M':Nat→Option NV} {cb lb kb:Nat} {lim:Int} {lo hi:Tr.Tx}
structure JS (E:Ev) (X0:World) (R0:Nat→Prop) (ps:List (Nat×List UInt8)) (pg:List (Option Wl.Text)) (rt:List Nat) (cb lb kb:Nat) (lim:Int) (lo hi:Tr.Tx) (s:Tr.eZ) (R:Nat→Prop) (M:Nat→Option NV) (X:World):Prop where
 ts:TS E X0 R0 R ps pg rt M X
 own:R cb∧X0.heap.size≤cb∧¬MB M cb
 lim:X.cell? ⟨lb,0,none⟩=some (.int .i64 lim)
 ks:aS X kb 125 [.string (bs lo),.string (bs hi)]
 n1:lb≠cb∧kb≠cb
 row:∃v,aS X cb 95 [v]∧qH 0 X v s∧∀b,v.ownBlock=some b→R b∧X0.heap.size≤b∧¬MB M b∧b≠lb∧b≠kb
theorem DZ (W:World) (args:Array Value):Sem.run Tryz.prog (callFunc 93 args) W=.ok (.enter 93 args) W:=by
 simp[callFunc,go_sem,Tryz.f93]
theorem K4:Acc E X0 R0 ps pg rt 93 #[ptr cb,ptr lb,ptr kb] (fS lim lo hi) List.length (JS E X0 R0 ps pg rt cb lb kb lim lo hi):=by
 refine⟨fun k c s=> ?_,DZ,fun _ _ _ _ h=>h.ts,fun s R M X R' M' X' h hts hb hmb hR=> ?_,fun s R M X q k m c h hm hn hs=> ?_⟩
 ·show (if k=0 then _ else s).length≤_
  split
  ·grind [BS,ak,aM]
  ·omega
 ·obtain⟨v,hk,ho,hv⟩:=h.row
  refine⟨hts,⟨hR _ h.own.1,h.own.2.1,fun hm=> ?_⟩,(hb.cell (bt _ _ h.lim)).trans h.lim,h.ks.below hb h.ks.lt,h.n1,v,hk.below hb hk.lt,Own.below ho hb (af _),fun b aP=>⟨hR _ (hv b aP).1,(hv b aP).2.1,fun hm=> ?_,(hv b aP).2.2.2⟩⟩
  ·rcases hmb _ hm with h1|h1
   ·exact h.own.2.2 h1
   ·have:=hk.lt;omega
  ·rcases hmb _ hm with h1|h1
   ·grind
   ·have:=(Own.block ho b aP).2;omega
 ·obtain⟨v,hk,ho,hv⟩:=h.row
  have hnd:=h.ts.mem.nd q m hm
  have RP:∀b,(b=cb∨v.ownBlock=some b)→R b∧X0.heap.size≤b∧¬MB M b:=fun b aP=>by
   rcases aP with rfl|aP
   ·exact h.own
   ·grind
  have hsb:Sb cb lb kb q (bs lo) (bs hi) lim m X v:=⟨h.lim,h.ks,hnd,fun b aP=>by
   refine⟨?_, ?_,fun e=>(RP b aP).2.2 ⟨q,m,hm,.inl e⟩,fun e=>(RP b aP).2.2 ⟨q,m,hm,.inr e⟩⟩
   ·rcases aP with rfl|aP
    ·exact h.n1.1.symm
    ·grind
   ·rcases aP with rfl|aP
    ·exact h.n1.2.symm
    ·exact (hv b aP).2.2.2.2⟩
  refine (KZ X cb lb kb q v s lo hi lim m hsb ⟨hk,ho,aE.refl _ _,.inl rfl⟩ hs).mono ?_
  rintro e X' ⟨v',s',rfl,hs',zW⟩
  have UD:m.level=k:=hn.level
  have kN:s'=(fS lim lo hi k c s).1:=by
   rw[hs',UD,hn.its];rfl
  have hx0:=h.ts.but.size
  have hb:=zW.but
  have NZ:=bt _ _ h.lim
  have UB:=h.ks.lt
  have NZ:lb<X.heap.size:=NZ
  have hnew:∀b,v'.ownBlock=some b→(R b∧X0.heap.size≤b∧¬MB M b∧b≠lb∧b≠kb)∨X.heap.size≤b:=fun b aP=>by
   rcases zW.new with e|e
   ·grind
   ·exact .inr (e b aP)
  refine⟨by rw[kN];rfl,fun b=>R b∨v'.ownBlock=some b,⟨h.ts.own hb (fun b _ e=>⟨(RP b e).1,(RP b e).2.1⟩) (h.ts.mem.keep hb fun b hm2 e=>(RP b e).2.2 hm2) (fun b hm2=>⟨.inl (h.ts.jR b hm2).1,(h.ts.jR b hm2).2⟩) (fun _ h=>.inl h) (fun b aP=> ?_),⟨.inl h.own.1,h.own.2⟩,hb.cell h.lim (fun e=>(hsb.n1 _ e).1 rfl),h.ks.but hb (fun e=>(hsb.n1 _ e).2.1 rfl),h.n1,v',zW.blk,by rw[←kN];exact zW.own,fun b aP=> ?_⟩,hb.mono fun b _ e=>(RP b e).1,fun _ h=>.inl h,fun b aP=> ?_⟩
  ·rcases aP with aP|aP
   ·exact .inl aP
   ·exact (hnew b aP).imp (fun h=>h.1) fun h=>⟨h,(Own.block zW.own b aP).2⟩
  ·refine⟨.inr aP, ?_⟩
   rcases hnew b aP with h1|h1
   ·exact h1.2
   ·exact⟨by omega,fun hm2=>by have:=h.ts.mem.lg hm2;omega,by omega,by omega⟩
  ·grind
end
section
variable {w:World} {tb:Nat}
theorem Hl {lo hi:ByteArray} {lim:Int} {Q:Value→World→Prop}
  (hE:∀W,W=((w.alloc (.cells #[.int .i64 lim] 3)).alloc (.cells #[.slice none 0 0] 95)).alloc (.cells #[.string lo,.string hi] 125)→Calls Tryz.prog 92 #[ptr tb,.agg #[.string lo,.string hi],.func (.func 93) #[] #[ptr (w.heap.size+1),ptr w.heap.size,ptr (w.heap.size+2)]] W fun e X=>e=.returned (.int .i64 0)∧∃(a:Option Addr) (n c:Nat),X.cell? ⟨w.heap.size+1,0,none⟩=some (.slice a n c)∧Q (.slice a n c) X):
  Calls Tryz.prog 58 #[ptr tb,.string lo,.string hi,.int .i64 lim] w fun e w'=>∃v,e=.returned (.tuple #[v,.int .i64 0])∧Q v w':=by
 obtain⟨W0,lP⟩:∃W0,W0=((w.alloc (.cells #[.int .i64 lim] 3)).alloc (.cells #[.slice none 0 0] 95)).alloc (.cells #[.string lo,.string hi] 125):=⟨_,rfl⟩
 have HE:=aa (hE W0 lP)
 clear hE
 unfold ptr at HE ⊢
 go_enter Tryz.func58,Tryz.ntmps58
 go_wp2_with fail
 rw[←lP]
 refine HE.o.mono ?_
 rintro e X ⟨rfl,a,n,c,c0,hQ⟩
 have HQ:=aa hQ
 clear hQ lP
 go_wp2_with fail
 go_ret2
 exact⟨_,rfl,HQ.o⟩
end
structure YL (tb:Nat) (key:ByteArray) (vl:List UInt8) (L:Nat→Nat→Nat→Nat→World→Prop) (G:Int→World→Prop):Prop where
 search:∀q pr n cap X,L q pr n cap X→X.cell? ⟨pr,n,none⟩=some (.pointer (some ⟨q,0,none⟩))∧n≤100∧Calls Tryz.prog 52 #[ptr q,.string key] X fun e X'=>
  (∃a:Nat,e=.returned (.tuple #[.int .i64 a,.bool false])∧a≤400∧∃rv rn rc,X'.cell? ⟨q,1,none⟩=some (.slice rv rn rc)∧∀W ib,W=X'.alloc (.cells #[.string key,.string ⟨#[]⟩,.pointer none] 122)→ib=X'.heap.size→Calls Tryz.prog 70 #[.slice rv rn rc,.int .i64 a,.slice (some ⟨ib,0,none⟩) 1 1] W fun e gm=>
   ∃g n' c',e=.returned (.slice (some ⟨g,0,none⟩) n' c')∧a<n'∧n'≤c'∧n'≤401∧(∃v,gm.cell? ⟨q,1,none⟩=some v)∧gm.frozen? ⟨q,1,none⟩=false∧(∃v,gm.cell? ⟨g,a*3+1,none⟩=some v)∧gm.frozen? ⟨g,a*3+1,none⟩=false∧g≠q∧
    Calls Tryz.prog 57 #[ptr tb,.slice (some ⟨pr,0,none⟩) (n+1) cap] ((gm.setCell ⟨q,1,none⟩ (.slice (some ⟨g,0,none⟩) n' c')).setCell ⟨g,a*3+1,none⟩ (.string (bs vl))) fun e w'=>∃c:Int,e=.returned (.int .i64 c)∧G c w')∨
  (∃(a g o n' c':Nat) (v0:List UInt8),e=.returned (.tuple #[.int .i64 a,.bool true])∧a<n'∧n'≤400∧X'.cell? ⟨q,1,none⟩=some (.slice (some ⟨g,o,none⟩) n' c')∧X'.cell? ⟨g,o+a*3+1,none⟩=some (.string (bs v0))∧X'.frozen? ⟨g,o+a*3+1,none⟩=false∧(v0=vl→G 0 X')∧
   (v0≠vl→Calls Tryz.prog 57 #[ptr tb,.slice (some ⟨pr,0,none⟩) (n+1) cap] (X'.setCell ⟨g,o+a*3+1,none⟩ (.string (bs vl))) fun e w'=>∃c:Int,e=.returned (.int .i64 c)∧G c w'))
section
variable {w:World} {tb:Nat}
theorem K5 {key:ByteArray} {vl:List UInt8} {L:Nat→Nat→Nat→Nat→World→Prop} {G:Int→World→Prop} (hW:YL tb key vl L G) (hk:key.size≤96) (hv:vl.length≤56)
  (hF:Calls Tryz.prog 51 #[ptr tb,.string key] w fun e X=>(e=.returned (.tuple #[.slice none 0 0,.int .i64 0])∧∀W,W=(X.alloc (.cells #[.int .i64 0,.slice none 0 0,.int .i64 (-1),.string ⟨#[]⟩,.string ⟨#[]⟩,.int .i64 0,.int .i64 0,.bool false] 127)).alloc (.cells #[.pointer (some ⟨X.heap.size,0,none⟩)] 118)→L X.heap.size (X.heap.size+1) 0 1 W)∨
   ∃q pr n cap,e=.returned (.tuple #[.slice (some ⟨pr,0,none⟩) (n+1) cap,.int .i64 0])∧L q pr n cap X):
  Calls Tryz.prog 45 #[ptr tb,.string key,.string (bs vl)] w fun e w'=>∃c:Int,e=.returned (.int .i64 c)∧G c w':=by
 have HW:=aa hW
 have HF:=aa hF
 have s9:¬(key.size:Int)>96:=by omega
 have MD:¬((bs vl).size:Int)>56:=by rw[aK];omega
 clear hW hF hk hv
 unfold ptr at HW HF ⊢
 go_enter Tryz.func45,Tryz.ntmps45
 go_wp2_with fail
 refine HF.o.mono ?_
 rintro e X (⟨rfl,hL⟩|⟨q,pr,n,cap,rfl,hL⟩)
 ·obtain⟨W0,lP⟩:∃W0,W0=(X.alloc (.cells #[.int .i64 0,.slice none 0 0,.int .i64 (-1),.string ⟨#[]⟩,.string ⟨#[]⟩,.int .i64 0,.int .i64 0,.bool false] 127)).alloc (.cells #[.pointer (some ⟨X.heap.size,0,none⟩)] 118):=⟨_,rfl⟩
  have JX:=hL W0 lP
  obtain⟨p0,sL,xy⟩:=HW.o.search _ _ _ _ _ JX
  simp only[bV] at xy
  have GX:=aa xy
  have HW0:=aa lP
  clear hL JX xy p0 sL lP
  go_wp2_with fail
  rw[←HW0.o]
  obtain⟨pr,DT⟩:∃pr,pr=X.heap.size+1:=⟨_,rfl⟩
  rw[←DT] at GX ⊢
  clear DT HW0
  obtain⟨q,hq⟩:∃q,q=X.heap.size:=⟨_,rfl⟩
  rw[←hq] at GX ⊢
  clear hq
  refine GX.o.mono ?_
  rintro e X2 (⟨a,rfl,ha,rv,rn,rc,c1,hins⟩|⟨a,g,o,n',c',v0,rfl,UA,Jm,c1,i1,fz,heq,hne⟩)
  ·have MZ:(a:Int)≤400:=by omega
   obtain⟨W2,rC⟩:∃W2,W2=X2.alloc (.cells #[.string key,.string ⟨#[]⟩,.pointer none] 122):=⟨_,rfl⟩
   obtain⟨ib,hib⟩:∃ib,ib=X2.heap.size:=⟨_,rfl⟩
   have YM:=aa (hins W2 ib rC hib)
   clear hins
   go_wp2_with fail
   rw[←rC,←hib]
   clear rC hib
   refine YM.o.mono ?_
   rintro e X3 ⟨g,n',c',rfl,UA,hnc,Jm,⟨v1,d1⟩,f1,⟨v2,d2⟩,f2,Ho,hst⟩
   have KN:(a:Int)<n':=by omega
   have KO:(n':Int)≤401:=by omega
   obtain⟨X4,Hp⟩:∃X4,X4=X3.setCell ⟨q,1,none⟩ (.slice (some ⟨g,0,none⟩) n' c'):=⟨_,rfl⟩
   have e1:X4.cell? ⟨q,1,none⟩=some (.slice (some ⟨g,0,none⟩) n' c'):=by rw[Hp];exact World.cell?_setCell_same _ _ _ d1
   have e2:X4.cell? ⟨g,a*3+1,none⟩=some v2:=by rw[Hp,World.cell?_setCell_other _ _ _ _ (by intro e;injection e with e;exact Ho e.symm)];exact d2
   have hbk:X4.heap[g]?=X3.heap[g]?:=by rw[Hp];exact ((aE.refl (fun b=>b=q) X3).setCell ⟨q,1,none⟩ _ fun _=>rfl).block g (bt _ _ d2) Ho
   have e3:X4.frozen? ⟨g,a*3+1,none⟩=false:=by unfold World.frozen? at f2 ⊢;rw[hbk];exact f2
   rw[←Hp] at hst
   have jO:=aa hst
   clear hst
   go_wp2_with fail
   rw[←Hp]
   clear Hp d1 f1 d2 f2 c1
   go_wp2_with fail
   refine jO.o.mono ?_
   rintro e w9 ⟨c,rfl,hG⟩
   have HG:=aa hG
   clear hG
   go_wp2_with fail
   go_ret
   exact⟨c,rfl,HG.o⟩
  ·have KN:(a:Int)<n':=by omega
   have KO:(n':Int)≤400:=by omega
   by_cases hv:v0=vl
   ·have HG:=aa (heq hv)
    have EM:(bs v0).toList=(bs vl).toList:=by rw[hv]
    clear heq hne
    go_wp2_with fail
    go_ret
    exact⟨0,rfl,HG.o⟩
   ·have jO:=aa (hne hv)
    have EM:((bs v0).toList==(bs vl).toList)=false:=by rw[bE,bE];exact beq_eq_false_iff_ne.2 hv
    clear heq hne hv
    go_wp2_with fail
    refine jO.o.mono ?_
    rintro e w9 ⟨c,rfl,hG⟩
    have HG:=aa hG
    clear hG
    go_wp2_with fail
    go_ret
    exact⟨c,rfl,HG.o⟩
 ·have HL:=aa hL
  clear hL
  obtain⟨p0,sL,xy⟩:=HW.o.search _ _ _ _ _ HL.o
  have OB:(n:Int)≤100:=by omega
  have GX:=aa xy
  clear xy
  go_wp2_with fail
  clear p0
  refine GX.o.mono ?_
  rintro e X2 (⟨a,rfl,ha,rv,rn,rc,c1,hins⟩|⟨a,g,o,n',c',v0,rfl,UA,Jm,c1,i1,fz,heq,hne⟩)
  ·have MZ:(a:Int)≤400:=by omega
   obtain⟨W2,rC⟩:∃W2,W2=X2.alloc (.cells #[.string key,.string ⟨#[]⟩,.pointer none] 122):=⟨_,rfl⟩
   obtain⟨ib,hib⟩:∃ib,ib=X2.heap.size:=⟨_,rfl⟩
   have YM:=aa (hins W2 ib rC hib)
   clear hins
   go_wp2_with fail
   rw[←rC,←hib]
   clear rC hib
   refine YM.o.mono ?_
   rintro e X3 ⟨g,n',c',rfl,UA,hnc,Jm,⟨v1,d1⟩,f1,⟨v2,d2⟩,f2,Ho,hst⟩
   have KN:(a:Int)<n':=by omega
   have KO:(n':Int)≤401:=by omega
   obtain⟨X4,Hp⟩:∃X4,X4=X3.setCell ⟨q,1,none⟩ (.slice (some ⟨g,0,none⟩) n' c'):=⟨_,rfl⟩
   have e1:X4.cell? ⟨q,1,none⟩=some (.slice (some ⟨g,0,none⟩) n' c'):=by rw[Hp];exact World.cell?_setCell_same _ _ _ d1
   have e2:X4.cell? ⟨g,a*3+1,none⟩=some v2:=by rw[Hp,World.cell?_setCell_other _ _ _ _ (by intro e;injection e with e;exact Ho e.symm)];exact d2
   have hbk:X4.heap[g]?=X3.heap[g]?:=by rw[Hp];exact ((aE.refl (fun b=>b=q) X3).setCell ⟨q,1,none⟩ _ fun _=>rfl).block g (bt _ _ d2) Ho
   have e3:X4.frozen? ⟨g,a*3+1,none⟩=false:=by unfold World.frozen? at f2 ⊢;rw[hbk];exact f2
   rw[←Hp] at hst
   have jO:=aa hst
   clear hst
   go_wp2_with fail
   rw[←Hp]
   clear Hp d1 f1 d2 f2 c1
   go_wp2_with fail
   refine jO.o.mono ?_
   rintro e w9 ⟨c,rfl,hG⟩
   have HG:=aa hG
   clear hG
   go_wp2_with fail
   go_ret
   exact⟨c,rfl,HG.o⟩
  ·have KN:(a:Int)<n':=by omega
   have KO:(n':Int)≤400:=by omega
   by_cases hv:v0=vl
   ·have HG:=aa (heq hv)
    have EM:(bs v0).toList=(bs vl).toList:=by rw[hv]
    clear heq hne
    go_wp2_with fail
    go_ret
    exact⟨0,rfl,HG.o⟩
   ·have jO:=aa (hne hv)
    have EM:((bs v0).toList==(bs vl).toList)=false:=by rw[bE,bE];exact beq_eq_false_iff_ne.2 hv
    clear heq hne hv
    go_wp2_with fail
    refine jO.o.mono ?_
    rintro e w9 ⟨c,rfl,hG⟩
    have HG:=aa hG
    clear hG
    go_wp2_with fail
    go_ret
    exact⟨c,rfl,HG.o⟩
end
section
variable {E:Ev} {X0 X X' Y V w:World} {R0 R R':Nat→Prop} {ps:List (Nat×List UInt8)} {pg:List (Option Wl.Text)} {rt:List Nat} {M M':Nat→Option NV} {K:Nat} {T:Tr.E (K+1)} {key vl:List UInt8} {q pr n cap:Nat} {pw:Value} {m:NV} {c:Tr.E 1} {path out:List Nat} {pre post:List (Tr.Tx×Tr.Tx)}
theorem gq.still {lv:Nat} {c:Tr.E (lv+1)} {rl:List Nat} (f:gq E X0 R0 ps pg rt key K T lv q pw X R M m c path pre post out rl) (hb:Below X.heap.size X X'):gq E X0 R0 ps pg rt key K T lv q pw X' R M m c path pre post out rl:=
 ⟨f.ts.still hb (fun _ h=>h) (fun _ h=>.inl h),f.above,f.kI,f.lG,f.its,f.own,f.was,f.st,f.ok,f.nd,Own.below f.row hb (af _),f.zH,f.QD,f.QE,f.wO,f.NR,f.NS⟩
theorem rU (l:Tr.eZ):ak 0 l=l.map fun p:Tr.Tx×Tr.Tx=>(⟨p.1,p.2,none⟩:It):=rfl
theorem qI (l:Tr.eZ) (key:List UInt8):posOf (ak 0 l) key=(l.takeWhile fun x=>Tr.lt x.1 key).length:=by
 rw[rU]
 unfold posOf
 rw[List.takeWhile_map,aM]
 rfl
theorem pF {l:Tr.eZ} {key:List UInt8} (hs:Tr.ck l):(ec (ak 0 l) key=false→∀x∈l,x.1≠key)∧(ec (ak 0 l) key=true→∃h:posOf (ak 0 l) key<l.length,(l[posOf (ak 0 l) key]).1=key):=by
 have hp:=qI l key
 constructor
 ·intro ht x hx e
  obtain⟨h1,h2⟩:=Tr.jx hs hp
  have hd:x∈l.drop (posOf (ak 0 l) key):=by rw[h2];exact dy.2 ⟨hx,by rw[e,Tr.lt_irrefl];rfl⟩
  have hlt:posOf (ak 0 l) key<l.length:=by
   rcases dw (posOf (ak 0 l) key) l.length with h|h
   ·exact h
   ·rw[List.drop_eq_nil_of_le h] at hd;cases hd
  have hk:(l[posOf (ak 0 l) key]).1=key:=by
   have hc:l.drop (posOf (ak 0 l) key)=l[posOf (ak 0 l) key]::l.drop (posOf (ak 0 l) key+1):=cm hlt
   rw[hc] at hd
   have hr:(l.drop (posOf (ak 0 l) key)).Pairwise fun a b=>Tr.lt a.1 b.1=true:=hs.sublist (List.drop_sublist _ _)
   rw[hc] at hr
   rcases aQ.1 hd with rfl|hd
   ·exact e
   ·have h3:=(cw.1 hr).1 x hd
    rw[e] at h3
    have h4:l[posOf (ak 0 l) key]∈l.filter (fun x=> !Tr.lt x.1 key):=by rw[←h2,hc];exact aA
    have h5:=(dy.1 h4).2
    rw[h3] at h5;cases h5
  have hg:(ak 0 l)[posOf (ak 0 l) key]?=some ⟨(l[posOf (ak 0 l) key]).1,(l[posOf (ak 0 l) key]).2,none⟩:=by
   grind [rU,aJ]
  unfold ec at ht
  rw[hg] at ht
  have:decide ((l[posOf (ak 0 l) key]).1=key)=false:=ht
  rw[hk] at this
  simp at this
 ·grind [ec,dw,posOf,ak,rU,aJ,List.getElem?_eq_none]
theorem QO (f:gq E X0 R0 ps pg rt key K T 0 q (.slice (some ⟨pr,0,none⟩) n cap) X R M m c path pre post out (q::path).reverse) {S:Nat→Prop} (hb:aE S X Y) (hS:∀b,S b→b=q∨b=m.rg) {l:List (Tr.Tx×Tr.E 0)} {g c':Nat} {m':NV} (hm':m'=⟨m.level,ak 0 l,g,0,c',m.page,m.lo,m.hi,m.was,m.at_,m.fresh,true⟩) (hnd:Nd Y q m') (how:aR 0 Y (.slice (some ⟨g,0,none⟩) (ak 0 l).length c') (ak 0 l)) (hg:g=m.rg∨X.heap.size≤g)
  (jK:Tr.Ord m.lo (iV m.hi) (l:Tr.eZ)) (hsz:Tr.sz 0 l≤664) (htk:(Tr.b8 (K+1) T).Nodup) (htn:∀x∈Tr.b8 (K+1) T,(pg.getD x none).isSome=true):
  ∃R',E8 E X0 R0 R' ps pg rt (upd M q m') Y q m' c l K T path pre post out pr:=by
 have ya:=f.ts.mem
 have hmb:∀b,MB (upd M q m') b→MB M b∨b=g:=by
  rintro b ⟨r,y,hr,hk⟩
  rcases aI hr with⟨rfl,rfl⟩|⟨_,hr⟩
  ·rcases hk with rfl|hk
   ·exact .inl ⟨_,m,f.kI,.inl rfl⟩
   ·grind
  ·exact .inl ⟨r,y,hr,hk⟩
 have hSM:∀b,S b→MB M b:=fun b hb=>by
  rcases hS b hb with e|e
  ·exact⟨q,m,f.kI,.inl e⟩
  ·exact⟨q,m,f.kI,.inr e⟩
 have hmem:Mem Y (upd M q m'):=ya.renew f.kI m' hb (fun b hb=>(hS b hb).imp_right fun e=>⟨e,f.own⟩) hnd (by rw[hm']) (by rw[hm'];exact how) (by
  rw[hm']
  rcases hg with e|e
  ·exact .inl ⟨e,f.own⟩
  ·exact .inr e)
 have ER:g<Y.heap.size:=(Own.block how g rfl).2
 have hts:TS E X0 R0 (fun b=>R b∨b=g) ps pg rt (upd M q m') Y:=f.ts.own hb (fun b _ hb=>f.ts.jR b (hSM b hb)) hmem (fun b hb=>by
  rcases hmb b hb with h|rfl
  ·exact⟨.inl (f.ts.jR b h).1,(f.ts.jR b h).2⟩
  ·refine⟨.inr rfl, ?_⟩
   rcases hg with e|e
   ·rw[e];exact (f.ts.jR _ ⟨q,m,f.kI,.inr rfl⟩).2
   ·exact aG f.ts.but.size e) (fun _ h=>.inl h) (fun b hb=>by
  rcases hb with hb|rfl
  ·exact .inl hb
  ·rcases hg with e|e
   ·rw[e];exact .inl (f.ts.jR _ ⟨q,m,f.kI,.inr rfl⟩).1
   ·exact .inr ⟨e,ER⟩)
 have YN:q∉path:=fun h=>(aL.1 f.nd).2.2 q h q aA rfl
 have DT:=f.zH pr rfl
 have Yz:=(Own.block f.row pr rfl).2
 obtain⟨page,cy,-⟩:=f.st.1
 have hlo:m'.lo=m.lo∧m'.hi=m.hi:=by rw[hm'];exact⟨rfl,rfl⟩
 refine⟨_,hts, ?_,bz _ _ _,by rw[hm'];exact f.lG.level,by rw[hm'],by rw[hm'];exact f.lG.page,by rw[hm'];exact f.was,⟨hsz,by rw[hlo.1,hlo.2];exact Tr.KU jK⟩,.inl (by rw[cy];rfl),f.nd, ?_,⟨.inl DT.1,fun hm=> ?_⟩,htk,htn,f.wO⟩
 ·rw[hlo.1,hlo.2]
  exact f.above.frame fun r hr=>aO fun e=>YN (by rw[←e];exact hr)
 ·exact (Own.lies f.row).but hb fun hs=>DT.2 (hSM _ hs)
 ·rcases hmb _ hm with hm|hm
  ·exact DT.2 hm
  ·rcases hg with e|e
   ·exact DT.2 (by rw[hm,e];exact⟨q,m,f.kI,.inr rfl⟩)
   ·omega
end
section
variable {E:Ev} {X0 X X' Y V w:World} {R0 R R':Nat→Prop} {ps:List (Nat×List UInt8)} {pg:List (Option Wl.Text)} {rt:List Nat} {M M':Nat→Option NV} {K:Nat} {T:Tr.E (K+1)} {key vl:List UInt8} {q pr cap:Nat} {m:NV} {c:Tr.E 1} {path out:List Nat} {pre post:List (Tr.Tx×Tr.Tx)}
def vK (p:Tr.Tx×Tr.Tx):It:=⟨p.1,p.2,none⟩
theorem Hq {lo:Tr.Tx} {h:Option Tr.Tx} {l:Tr.eZ} (o:Tr.Ord lo h l):∀i∈ak 0 l,i.key.length≤200∧i.val.length≤200:=by
 intro i hi
 rw[rU] at hi
 obtain⟨p,hp,rfl⟩:=List.mem_map.1 hi
 exact⟨aG (o.keys p hp) (by decide),aG (o.vals p hp) (by decide)⟩
theorem N2 (l:Tr.eZ):2*l.length≤Tr.sz 0 (l:List (Tr.Tx×Tr.E 0)):=Tr.iJ 0 (l:List (Tr.Tx×Tr.E 0))
theorem D1 (l:Tr.eZ):(ak 0 l).length=l.length:=by rw[rU,aM]
theorem rV {n:Nat} (hrow:a_ cZ X pr 0 (q::path).reverse) (hn:path.length=n):X.cell? ⟨pr,n,none⟩=some (.pointer (some ⟨q,0,none⟩)):=by
 subst hn
 have RN:(q::path).reverse.getD path.length 0=q:=lI (path:=path) (by rw[bZ (by simp)]) rfl
 have hjl:path.length<(q::path).reverse.length:=by simp
 have:=hrow.at path.length 0 (by decide) hjl (.pointer (some ⟨(q::path).reverse[path.length],0,none⟩)) rfl
 rw[show 0+(path.length*cZ.size+0)=path.length from by show 0+(path.length*1+0)=path.length;omega] at this
 rw[bT,aJ hjl] at RN
 have e:(q::path).reverse[path.length]=q:=RN
 rw[e] at this
 exact this
theorem rW (f:gq E X0 R0 ps pg rt key K T 0 q (.slice (some ⟨pr,0,none⟩) (path.length+1) cap) X R M m c path pre post out (q::path).reverse) {S:Nat→Prop} (hb:aE S X Y) (hS:∀b,S b→b=q∨b=m.rg) {l:Tr.eZ} {g c':Nat} (hblk:aS Y q 127 (m.cells.set 1 (.slice (some ⟨g,0,none⟩) l.length c'))) (how:aR 0 Y (.slice (some ⟨g,0,none⟩) l.length c') (ak 0 l)) (hg:g=m.rg∨X.heap.size≤g)
  (jK:Tr.Ord m.lo (iV m.hi) l) (hsz:Tr.sz 0 (l:List (Tr.Tx×Tr.E 0))≤664) (htk:(Tr.b8 (K+1) T).Nodup) (htn:∀x∈Tr.b8 (K+1) T,(pg.getD x none).isSome=true) (hq:ps.length≤60000000) (dH:E.place<16):
  Calls Tryz.prog 57 #[ptr E.tb,.slice (some ⟨pr,0,none⟩) (path.length+1) cap] Y fun e w'=>∃c:Int,e=.returned (.int .i64 c)∧Done E X0 R0 ps pg rt (pre++l++post) (Tr.b8 (K+1) T) c w'∧(Tr.sz 0 (l:List (Tr.Tx×Tr.E 0))≤510→c=0):=by
 obtain⟨m',hm'⟩:∃m':NV,m'=⟨m.level,ak 0 l,g,0,c',m.page,m.lo,m.hi,m.was,m.at_,m.fresh,true⟩:=⟨_,rfl⟩
 have hcap:=gQ how
 have hlen:=D1 l
 have hl2:=N2 l
 have hnd:Nd Y q m':=by
  refine⟨?_,by rw[hm'];exact Own.lies how, ?_⟩
  ·rw[hm']
   have e:NV.cells ⟨m.level,ak 0 l,g,0,c',m.page,m.lo,m.hi,m.was,m.at_,m.fresh,true⟩=m.cells.set 1 (.slice (some ⟨g,0,none⟩) l.length c'):=by
    unfold NV.cells
    simp only[hlen]
    rfl
   rw[e]
   exact hblk
  ·rw[hm']
   exact⟨by show (ak 0 l).length≤400;omega,Hq jK,by show (ak 0 l).length≤c'∧_;rw[hlen];exact hcap.2⟩
 rw[←hlen] at how
 obtain⟨R',s⟩:=QO f hb hS hm' hnd how hg jK hsz htk htn
 refine (vF s hq dH).mono ?_
 rintro e w' ⟨z,rfl,h1,h2⟩
 obtain⟨page,cy,-⟩:=f.st.1
 exact⟨z,rfl,h1,fun h=>h2 h (by rw[cy];rfl)⟩
theorem rX (f:gq E X0 R0 ps pg rt key K T 0 q (.slice (some ⟨pr,0,none⟩) (path.length+1) cap) X R M m c path pre post out (q::path).reverse):∃lf:Tr.eZ,m.its=lf.map vK∧Tr.Ord m.lo (iV m.hi) lf∧Tr.sz 0 (lf:List (Tr.Tx×Tr.E 0))≤510∧Jg m.its∧Tr.ct K (Tr.its T)=pre++lf++post∧lf.length≤255∧m.ro=0∧aR 0 X (.slice (some ⟨m.rg,0,none⟩) m.its.length m.cap) m.its:=by
 have h1:Tr.Ord m.lo (iV m.hi) (Tr.ct 0 (Tr.its c)):=Tr.rR f.ok
 have h2:Tr.sz 0 (Tr.its c)≤510:=f.ok.2.1
 have h3:2*(Tr.its c).length≤Tr.sz 0 (Tr.its c):=Tr.iJ 0 (Tr.its c)
 have h4:=f.ts.mem.own q m f.kI f.own
 have h5:(Tr.its c).length≤255:=by omega
 exact⟨(Tr.its c:Tr.eZ),f.its,h1,h2,uR (by rw[f.its,c9];exact (gY f.ok.2.2).1),f.above.ct,h5,h4.1,h4.2⟩
theorem N3 (f:gq E X0 R0 ps pg rt key K T 0 q (.slice (some ⟨pr,0,none⟩) (path.length+1) cap) X R M m c path pre post out (q::path).reverse) (hk:key.length≤96) (hv:vl.length≤56) (hm:iz pg (rt.getD E.place 0) (Tr.ct K (Tr.its T)) (Tr.b8 (K+1) T)) (htk:(Tr.b8 (K+1) T).Nodup) (hq:ps.length≤60000000) (dH:E.place<16):
  Calls Tryz.prog 52 #[ptr q,.string (bs key)] X fun e X'=>
  (∃a:Nat,e=.returned (.tuple #[.int .i64 a,.bool false])∧a≤400∧∃rv rn rc,X'.cell? ⟨q,1,none⟩=some (.slice rv rn rc)∧∀W ib,W=X'.alloc (.cells #[.string (bs key),.string ⟨#[]⟩,.pointer none] 122)→ib=X'.heap.size→Calls Tryz.prog 70 #[.slice rv rn rc,.int .i64 a,.slice (some ⟨ib,0,none⟩) 1 1] W fun e gm=>
   ∃g n' c',e=.returned (.slice (some ⟨g,0,none⟩) n' c')∧a<n'∧n'≤c'∧n'≤401∧(∃v,gm.cell? ⟨q,1,none⟩=some v)∧gm.frozen? ⟨q,1,none⟩=false∧(∃v,gm.cell? ⟨g,a*3+1,none⟩=some v)∧gm.frozen? ⟨g,a*3+1,none⟩=false∧g≠q∧
    Calls Tryz.prog 57 #[ptr E.tb,.slice (some ⟨pr,0,none⟩) (path.length+1) cap] ((gm.setCell ⟨q,1,none⟩ (.slice (some ⟨g,0,none⟩) n' c')).setCell ⟨g,a*3+1,none⟩ (.string (bs vl))) fun e w'=>∃c:Int,e=.returned (.int .i64 c)∧Done E X0 R0 ps pg rt (Tr.put (Tr.ct K (Tr.its T)) key vl) (Tr.b8 (K+1) T) c w')∨
  (∃(a g o n' c':Nat) (v0:List UInt8),e=.returned (.tuple #[.int .i64 a,.bool true])∧a<n'∧n'≤400∧X'.cell? ⟨q,1,none⟩=some (.slice (some ⟨g,o,none⟩) n' c')∧X'.cell? ⟨g,o+a*3+1,none⟩=some (.string (bs v0))∧X'.frozen? ⟨g,o+a*3+1,none⟩=false∧(v0=vl→Done E X0 R0 ps pg rt (Tr.put (Tr.ct K (Tr.its T)) key vl) (Tr.b8 (K+1) T) 0 X')∧
   (v0≠vl→Calls Tryz.prog 57 #[ptr E.tb,.slice (some ⟨pr,0,none⟩) (path.length+1) cap] (X'.setCell ⟨g,o+a*3+1,none⟩ (.string (bs vl))) fun e w'=>∃c:Int,e=.returned (.int .i64 c)∧Done E X0 R0 ps pg rt (Tr.put (Tr.ct K (Tr.its T)) key vl) (Tr.b8 (K+1) T) c w')):=by
 obtain⟨lf,fA,jK,hsz,BK,qB,Jw,hro,hown⟩:=rX f
 have hlen:m.its.length=lf.length:=by rw[fA,aM]
 have htn:=nx hm
 have hnd:=f.ts.mem.nd q m f.kI
 have oL:posOf m.its key=(lf.takeWhile fun x=>Tr.lt x.1 key).length:=by rw[fA];exact qI lf key
 have NQ:=uh m.its key
 have BT:Tr.put (Tr.ct K (Tr.its T)) key vl=pre++Tr.put lf key vl++post:=by rw[qB];exact Tr.NW f.QD f.QE
 have Pg:=jK.put (v:=vl) f.NR f.NS hk hv
 have UE:Tr.sz 0 (Tr.put lf key vl:List (Tr.Tx×Tr.E 0))≤664:=by
  have:=Tr.KW (key:=key) (v:=vl) lf
  omega
 have xJ:m.rg≠q:=by have:=f.ts.mem.Dg f.kI f.kI;exact this
 refine (ke hnd BK key).mono ?_
 rintro e X' ⟨rfl,hb⟩
 have f':=f.still hb
 have nr:=hnd.still hb
 have hown':aR 0 X' (.slice (some ⟨m.rg,0,none⟩) m.its.length m.cap) m.its:=Own.below hown hb (af _)
 have EZ:=(f'.ts.mem.lt f.kI)
 have hc1:=nr.c1
 rw[hro] at hc1
 have jM:=pF (key:=key) jK.lE
 rw[←show m.its=ak 0 lf from fA] at jM
 obtain⟨a,ha⟩:∃a,a=posOf m.its key:=⟨_,rfl⟩
 rw[←ha] at oL NQ ⊢
 have UF:=Tr.KR (v:=vl) jK.lE oL
 cases ht:ec m.its key with
 |false=>
  have hno:=jM.1 ht
  have hput:=Tr.KQ (v:=vl) jK.lE oL hno
  left
  refine⟨a,rfl,by omega,_,_,_,hc1,fun W ib hW hib=> ?_⟩
  have hbW:Below X'.heap.size X' W:=by rw[hW];exact (Below.refl _ X').alloc (af _) _
  have hbk:aS W ib 122 [.string (bs key),.string ⟨#[]⟩,.pointer none]:=by rw[hW,hib];exact aS.new X' _ _
  have iY:a_ aj W ib 0 [⟨key,[],none⟩]:=a_.gh hbk rfl
  have UG:aR 0 W (.slice (some ⟨m.rg,0,none⟩) m.its.length m.cap) m.its:=Own.below hown' hbW (af _)
  refine (vk UG (aC _) (by omega) iY (fun k hk=> ?_) ⟨_,hbk⟩ NQ).mono ?_
  ·have e:m.rg=k:=Option.some.inj hk
   have:=EZ.2
   omega
  rintro e gm ⟨v',rfl,ho,ID,Ud,RG⟩
  obtain⟨iT,Fe⟩:∃iT,iT=m.its.take a++⟨key,[],none⟩::m.its.drop a:=⟨_,rfl⟩
  rw[←Fe] at ho
  have aad:iT.length=m.its.length+1:=by rw[Fe,aq,aW,aN,aT];omega
  obtain⟨g,c',rfl,-,ER,YO⟩:=Own.form ho (by omega)
  have VN:g=m.rg∨W.heap.size≤g:=by
   rcases Ud with e|e
   ·left;exact Option.some.inj e
   ·exact .inr (e g rfl)
  have hsW:=hbW.size
  have Ho:g≠q:=by
   rcases VN with e|e
   ·rw[e];exact xJ
   ·have:=EZ.1;omega
  have hnb:¬(Value.slice (some ⟨m.rg,0,none⟩) m.its.length m.cap).ownBlock=some q:=fun e=>xJ (Option.some.inj e)
  have D2:aS gm q 127 m.cells:=(nr.blk.below hbW EZ.1).but ID hnb
  have hal:a<iT.length:=by omega
  have jf:iT[a]=⟨key,[],none⟩:=by
   have e:iT[a]?=some ⟨key,[],none⟩:=by rw[Fe,gN (by rw[aN];omega),aN,b_ (by omega),Nat.sub_self];rfl
   rw[aJ hal] at e
   exact Option.some.inj e
  have hit:=aV (Own.lies ho) a hal
  have hcells:=uG iT a 1 hal (by decide) ⟨key,vl,none⟩ (.string (bs vl)) (by rw[jf];rfl)
  have BU:iT.set a ⟨key,vl,none⟩=(Tr.put lf key vl).map vK:=by
   rw[←hput,Fe,List.set_append_right _ _ (by rw[aN];omega),aN,b_ (by omega),Nat.sub_self,au]
   rw[fA,←List.map_take,←List.map_drop,bI]
   rfl
  have hl2:(Tr.put lf key vl).length=iT.length:=by rw[←aM (f:=vK),←BU,bP]
  obtain⟨Y1,K6⟩:∃Y1,Y1=gm.setCell ⟨q,1,none⟩ (.slice (some ⟨g,0,none⟩) iT.length c'):=⟨_,rfl⟩
  have D3:aE (fun b=>b=q) gm Y1:=by rw[K6];exact (aE.refl (fun b=>b=q) gm).setCell _ _ fun _=>rfl
  have QR:aR 0 Y1 (.slice (some ⟨g,0,none⟩) iT.length c') iT:=Own.but ho D3 fun b hb e=>Ho (by have e2:g=b:=Option.some.inj hb;rw[e2,e])
  have Hr:aR 0 (Y1.setCell ⟨g,a*3+1,none⟩ (.string (bs vl))) (.slice (some ⟨g,0,none⟩) (Tr.put lf key vl).length c') ((Tr.put lf key vl).map vK):=by
   have h1:=(World.ownsRow.stored QR (a*3+1) (.string (bs vl))).1
   rw[←BU,hl2]
   unfold aR Own
   rw[hcells,bP]
   exact h1
  have QS:aS (Y1.setCell ⟨g,a*3+1,none⟩ (.string (bs vl))) q 127 (m.cells.set 1 (.slice (some ⟨g,0,none⟩) (Tr.put lf key vl).length c')):=by
   rw[hl2]
   have h1:aS Y1 q 127 (m.cells.set 1 (.slice (some ⟨g,0,none⟩) iT.length c')):=by rw[K6];exact D2.set 1 _
   exact h1.but ((aE.refl (fun b=>b=g) Y1).setCell _ _ fun _=>rfl) fun e=>Ho e.symm
  refine⟨g,iT.length,c',rfl,hal,YO,by omega,⟨_,D2.cell (j:=1) rfl⟩,D2.frozen 1,⟨_,by have:=hit.2.1;rw[bV] at this;exact this⟩,Own.frozen ho _,Ho, ?_⟩
  rw[←K6,BT]
  have Rl:aE (fun b=>b=q∨b=m.rg) X' Y1:=((aE.aH hbW (fun b=>b=q∨b=m.rg)).trans ID (fun b _ e=>.inr (Option.some.inj e).symm)).trans D3 fun b _ e=>.inl e
  refine (rW f' (Rl.trans ((aE.refl (fun b=>b=g) Y1).setCell ⟨g,a*3+1,none⟩ (.string (bs vl)) fun _=>rfl) (fun b hlt e=> ?_)) (fun b h=>h) QS Hr (VN.imp_right fun h=>aG hsW h) Pg UE htk htn hq dH).mono fun _ _ h=>h.imp fun _ h=>⟨h.1,h.2.1⟩
  rcases VN with e2|e2
  ·exact .inr (by rw[e,e2])
  ·have e3:b=g:=e
   omega
 |true=>
  right
  obtain⟨jm,hkk⟩:=jM.2 ht
  rw[←ha] at jm
  have hkk':(lf[a]'jm).1=key:=by
   have h:=hkk
   simp only[←ha] at h
   exact h
  have hal:a<m.its.length:=by omega
  have hput:=UF jm hkk'
  have jf:m.its[a]=⟨key,(lf[a]'jm).2,none⟩:=by
   have e:m.its[a]?=some ⟨(lf[a]'jm).1,(lf[a]'jm).2,none⟩:=by
    rw[fA,cJ,aJ jm];rfl
   rw[aJ hal] at e
   rw[Option.some.inj e,hkk']
  have hit:=aV nr.row a hal
  rw[jf,hro] at hit
  obtain⟨cur,mP⟩:=f'.ts.mem.ty q m f.kI
  refine⟨a,m.rg,0,m.its.length,m.cap,(lf[a]'jm).2,rfl,hal,by omega,hc1,hit.2.1,by simp[World.frozen?,mP],fun he=> ?_,fun _=> ?_⟩
  ·have hmem:(key,vl)∈Tr.ct K (Tr.its T):=by
    rw[qB,←he,←hkk']
    exact ah.2 (.inl (ah.2 (.inr (bB jm))))
   have hris:Tr.ck (Tr.ct K (Tr.its T)):=by
    have h5:=hm
    rcases h5 with⟨_,e,_⟩|⟨k',t',_,_,_,_,_,h6,h7,_⟩
    ·rw[e];exact .nil
    ·rw[h7];exact (Tr.rR h6).lE
   refine .inl ⟨rfl,R,M,ps,pg,rt.getD E.place 0,Tr.b8 (K+1) T, ?_,by omega, ?_,⟨rfl,fun _ _ _=>rfl,fun x h1 h2=>absurd h1 h2,fun x h1 h2=>absurd h1 h2,rfl⟩⟩
   ·rw[gz rfl (by rw[f'.ts.rm.rep.t_];exact dH)]
    exact f'.ts
   ·rw[Tr.KT hris hmem];exact hm
  ·have BU:m.its.set a ⟨key,vl,none⟩=(Tr.put lf key vl).map vK:=by
    rw[←hput,fA,List.map_set]
    rfl
   have hl2:(Tr.put lf key vl).length=m.its.length:=by rw[←aM (f:=vK),←BU,bP]
   have hcells:=uG m.its a 1 hal (by decide) ⟨key,vl,none⟩ (.string (bs vl)) (by rw[jf];rfl)
   rw[show 0+a*3+1=a*3+1 by omega,BT]
   have YP:aR 0 (X'.setCell ⟨m.rg,a*3+1,none⟩ (.string (bs vl))) (.slice (some ⟨m.rg,0,none⟩) (Tr.put lf key vl).length m.cap) ((Tr.put lf key vl).map vK):=by
    have h1:=(World.ownsRow.stored hown' (a*3+1) (.string (bs vl))).1
    rw[←BU,hl2]
    unfold aR Own
    rw[hcells,bP]
    exact h1
   have OM:aE (fun b=>b=m.rg) X' (X'.setCell ⟨m.rg,a*3+1,none⟩ (.string (bs vl))):=(aE.refl (fun b=>b=m.rg) X').setCell _ _ fun _=>rfl
   have QS:aS (X'.setCell ⟨m.rg,a*3+1,none⟩ (.string (bs vl))) q 127 (m.cells.set 1 (.slice (some ⟨m.rg,0,none⟩) (Tr.put lf key vl).length m.cap)):=by
    have e:m.cells.set 1 (.slice (some ⟨m.rg,0,none⟩) (Tr.put lf key vl).length m.cap)=m.cells:=by
     rw[hl2]
     unfold NV.cells
     rw[hro]
     rfl
    rw[e]
    exact nr.blk.but OM fun e=>xJ e.symm
   exact (rW f' OM (fun b e=>.inr e) QS YP (.inl rfl) Pg UE htk htn hq dH).mono fun _ _ h=>h.imp fun _ h=>⟨h.1,h.2.1⟩
end
section
variable {E:Ev} {X0 X X' Y V w:World} {R0 R R':Nat→Prop} {ps:List (Nat×List UInt8)} {pg:List (Option Wl.Text)} {rt:List Nat} {key vl:List UInt8} {q pr:Nat}
def Ph:Tr.E 1:=Tr.mk ⟨none,false⟩ ([]:List (Tr.Tx×Tr.E 0))
theorem N7 (h:TS E X0 R0 R ps pg rt (fun _=>none) V) (hb:Below V.heap.size V Y) (hq:V.heap.size≤q) (DT:V.heap.size≤pr) (YN:pr≠q) {g c':Nat} {m:NV} (hg:V.heap.size≤g) (LV:g≠pr) (hm:m=⟨0,ak 0 [((key,vl):Tr.Tx×Tr.E 0)],g,0,c',-1,[],[],0,0,false,true⟩) (hnd:Nd Y q m) (how:aR 0 Y (.slice (some ⟨g,0,none⟩) 1 c') (ak 0 [((key,vl):Tr.Tx×Tr.E 0)])) (hrow:a_ cZ Y pr 0 [q]) (dH:pr<Y.heap.size) (hk:key.length≤96) (hv:vl.length≤56):
  ∃R',E8 E X0 R0 R' ps pg rt (upd (fun _=>none) q m) Y q m Ph ([(key,vl)]:List (Tr.Tx×Tr.E 0)) 0 Ph [] [] [] [] pr:=by
 have jK:Tr.Ord [] none ([(key,vl)]:Tr.eZ):=Tr.Ord.put (key:=key) (v:=vl) (l:=[]) ⟨.nil,fun _ h=>(by cases h),fun _ h=>(by cases h),fun _ h=>(by cases h),fun _ h=>(by cases h)⟩ (Tr.nil_le _) trivial hk hv
 have hlt:q<Y.heap.size∧g<Y.heap.size:=⟨hnd.blk.lt,(Own.block how g rfl).2⟩
 have UH:m.rg=g:=by rw[hm]
 have hmem:Mem Y (upd (fun _=>none) q m):=h.mem.add hb hq (by rw[UH];exact hg) hnd ⟨by rw[hm],by rw[hm];exact how⟩
 have hmb:∀b,MB (upd (fun _=>none) q m) b→b=q∨b=g:=by
  rintro b ⟨r,y,hr,hk⟩
  rcases aI hr with⟨rfl,rfl⟩|⟨_,hr⟩
  ·rcases hk with rfl|hk
   ·exact .inl rfl
   ·exact .inr (hk.trans UH)
  ·cases hr
 have h0:=h.but.size
 have hts:TS E X0 R0 (fun b=>R b∨b=q∨b=g∨b=pr) ps pg rt (upd (fun _=>none) q m) Y:=h.own (S:=fun _=>False) (aE.aH hb _) (fun _ _ f=>f.elim) hmem (fun b hb=>by
  rcases hmb b hb with rfl|rfl
  ·exact⟨.inr (.inl rfl),by omega⟩
  ·exact⟨.inr (.inr (.inl rfl)),by omega⟩) (fun _ h=>.inl h) (fun b hb=>by
  rcases hb with hb|rfl|rfl|rfl
  ·exact .inl hb
  ·right;omega
  ·right;omega
  ·right;omega)
 have e1:m.lo=[]:=by rw[hm]
 have e2:m.hi=[]:=by rw[hm]
 refine⟨_,hts, ?_,bz _ _ _,by rw[hm],by rw[hm],by rw[hm];rfl,by rw[hm];rfl,⟨?_, ?_⟩,.inr ⟨rfl,List.cons_ne_nil _ _⟩,by simp,hrow,⟨.inr (.inr (.inr rfl)),fun hm2=> ?_⟩,List.nodup_nil,fun x hx=>(by cases hx),by decide⟩
 ·rw[e1,e2]
  exact .top
 ·show Tr.sz 0 ([(key,vl)]:List (Tr.Tx×Tr.E 0))≤664
  have h1:=Tr.KW (key:=key) (v:=vl) ([]:Tr.eZ)
  refine aG h1 ?_
  show 0+_≤664
  omega
 ·show Tr.Rw 0 m.lo (iV m.hi) _
  rw[e1,e2]
  exact Tr.KU jK
 ·rcases hmb _ hm2 with e|e
  ·exact YN e
  ·exact LV e.symm
theorem N9 (h:TS E X0 R0 R ps pg rt (fun _=>none) V) (hX:X=(V.alloc (.cells #[.int .i64 0,.slice none 0 0,.int .i64 (-1),.string ⟨#[]⟩,.string ⟨#[]⟩,.int .i64 0,.int .i64 0,.bool false] 127)).alloc (.cells #[.pointer (some ⟨V.heap.size,0,none⟩)] 118)) (hq:q=V.heap.size) (DT:pr=V.heap.size+1) (hk:key.length≤96) (hv:vl.length≤56) (RQ:ps.length≤60000000) (dH:E.place<16):
  X.cell? ⟨pr,0,none⟩=some (.pointer (some ⟨q,0,none⟩))∧Calls Tryz.prog 52 #[ptr q,.string (bs key)] X fun e X'=>
  (∃a:Nat,e=.returned (.tuple #[.int .i64 a,.bool false])∧a≤400∧∃rv rn rc,X'.cell? ⟨q,1,none⟩=some (.slice rv rn rc)∧∀W ib,W=X'.alloc (.cells #[.string (bs key),.string ⟨#[]⟩,.pointer none] 122)→ib=X'.heap.size→Calls Tryz.prog 70 #[.slice rv rn rc,.int .i64 a,.slice (some ⟨ib,0,none⟩) 1 1] W fun e gm=>
   ∃g n' c',e=.returned (.slice (some ⟨g,0,none⟩) n' c')∧a<n'∧n'≤c'∧n'≤401∧(∃v,gm.cell? ⟨q,1,none⟩=some v)∧gm.frozen? ⟨q,1,none⟩=false∧(∃v,gm.cell? ⟨g,a*3+1,none⟩=some v)∧gm.frozen? ⟨g,a*3+1,none⟩=false∧g≠q∧
    Calls Tryz.prog 57 #[ptr E.tb,.slice (some ⟨pr,0,none⟩) (0+1) 1] ((gm.setCell ⟨q,1,none⟩ (.slice (some ⟨g,0,none⟩) n' c')).setCell ⟨g,a*3+1,none⟩ (.string (bs vl))) fun e w'=>∃c:Int,e=.returned (.int .i64 c)∧Done E X0 R0 ps pg rt (Tr.put [] key vl) [] c w'):=by
 obtain⟨V1,UI⟩:∃V1,V1=V.alloc (.cells #[.int .i64 0,.slice none 0 0,.int .i64 (-1),.string ⟨#[]⟩,.string ⟨#[]⟩,.int .i64 0,.int .i64 0,.bool false] 127):=⟨_,rfl⟩
 have YQ:Below V.heap.size V V1:=by rw[UI];exact (Below.refl _ V).alloc (af _) _
 have UJ:V1.heap.size=V.heap.size+1:=by rw[UI,bk]
 have hk1:aS V1 q 127 [.int .i64 0,.slice none 0 0,.int .i64 (-1),.string ⟨#[]⟩,.string ⟨#[]⟩,.int .i64 0,.int .i64 0,.bool false]:=by rw[UI,hq];exact aS.new V _ _
 rw[←UI] at hX
 have aP:Below V1.heap.size V1 X:=by rw[hX];exact (Below.refl _ V1).alloc (af _) _
 have RK:Below V.heap.size V X:=YQ.trans (aP.mono (by omega))
 have hsX:X.heap.size=V.heap.size+2:=by rw[hX,bk,UJ]
 have hkX:=hk1.below aP (by omega)
 have hrX:aS X pr 118 [.pointer (some ⟨q,0,none⟩)]:=by
  rw[hX,DT,←UJ,hq];exact aS.new V1 _ _
 have UK:a_ cZ X pr 0 [q]:=a_.gh hrX rfl
 clear UI hX
 refine⟨hrX.cell (j:=0) rfl,(CO q (hkX.cell (j:=1) rfl) key).mono ?_⟩
 rintro e X' ⟨rfl,hb⟩
 have UL:=hkX.below hb (by omega)
 refine⟨0,rfl,by decide,none,0,0,UL.cell (j:=1) rfl,fun W ib hW hib=> ?_⟩
 have hbW:Below X'.heap.size X' W:=by rw[hW];exact (Below.refl _ X').alloc (af _) _
 have hbk:aS W ib 122 [.string (bs key),.string ⟨#[]⟩,.pointer none]:=by rw[hW,hib];exact aS.new X' _ _
 have iY:a_ aj W ib 0 [⟨key,[],none⟩]:=a_.gh hbk rfl
 have hs1:=hb.size
 have kN:=hbW.size
 refine (vk (B:=0) (l:=[]) (it:=⟨key,[],none⟩) (i:=0) (Own.nil aj _ 0 W) (aC _) (by decide) iY (fun k hk=>by cases hk) ⟨_,hbk⟩ (af _)).mono ?_
 rintro e gm ⟨v',rfl,ho,ID,Ud,RG⟩
 have ho:aR 0 gm v' [⟨key,[],none⟩]:=ho
 obtain⟨g,c',rfl,-,ER,YO⟩:=Own.form ho (jF 0)
 have VN:W.heap.size≤g:=by
  rcases Ud with e|e
  ·cases e
  ·exact e g rfl
 have Ho:g≠q:=by omega
 have LV:g≠pr:=by omega
 have K7:Below W.heap.size W gm:=ID.below (af _) fun k _ e=>by cases e
 have YR:=(UL.below hbW (by omega)).below K7 (by omega)
 have hit:=aV (Own.lies ho) 0 (jF 0)
 have hcells:=uG [⟨key,[],none⟩] 0 1 (jF 0) (by decide) ⟨key,vl,none⟩ (.string (bs vl)) rfl
 obtain⟨Y1,K6⟩:∃Y1,Y1=gm.setCell ⟨q,1,none⟩ (.slice (some ⟨g,0,none⟩) 1 c'):=⟨_,rfl⟩
 have D3:aE (fun b=>b=q) gm Y1:=by rw[K6];exact (aE.refl (fun b=>b=q) gm).setCell _ _ fun _=>rfl
 have QR:aR 0 Y1 (.slice (some ⟨g,0,none⟩) 1 c') [⟨key,[],none⟩]:=Own.but ho D3 fun b hb e=>Ho (by have e2:g=b:=Option.some.inj hb;rw[e2,e])
 have Hr:aR 0 (Y1.setCell ⟨g,0*3+1,none⟩ (.string (bs vl))) (.slice (some ⟨g,0,none⟩) 1 c') [⟨key,vl,none⟩]:=by
  have h1:=(World.ownsRow.stored QR (0*3+1) (.string (bs vl))).1
  unfold aR Own
  have hc2:aj.cells ([⟨key,vl,none⟩]:List It)=_:=hcells
  rw[hc2]
  exact h1
 have K8:aE (fun b=>b=g) Y1 (Y1.setCell ⟨g,0*3+1,none⟩ (.string (bs vl))):=(aE.refl (fun b=>b=g) Y1).setCell _ _ fun _=>rfl
 have YS:aS Y1 q 127 [.int .i64 0,.slice (some ⟨g,0,none⟩) 1 c',.int .i64 (-1),.string ⟨#[]⟩,.string ⟨#[]⟩,.int .i64 0,.int .i64 0,.bool false]:=by rw[K6];exact YR.set 1 _
 have UM:=YS.but K8 (fun e=>Ho e.symm)
 have Pj:Below V.heap.size V (Y1.setCell ⟨g,0*3+1,none⟩ (.string (bs vl))):=
  (((RK.trans (hb.mono (by omega))).trans (hbW.mono (by omega))).trans (K7.mono (by omega))).trans (((D3.mono (T:=fun b=>b=q∨b=g) fun _ _ e=>.inl e).trans K8 fun b _ e=>.inr e).below (by have:=K7.size;omega) fun k hk e=>by omega)
 have hlY:=D3.size
 have YT:=K8.size
 have aa3:=K7.size
 obtain⟨Y2,hY2⟩:∃Y2,Y2=Y1.setCell ⟨g,0*3+1,none⟩ (.string (bs vl)):=⟨_,rfl⟩
 refine⟨g,1,c',rfl,jF 0,YO,by decide,⟨_,YR.cell (j:=1) rfl⟩,YR.frozen 1,⟨_,by have:=hit.2.1;rw[bV] at this;exact this⟩,Own.frozen ho _,Ho, ?_⟩
 rw[←K6,←hY2]
 rw[←hY2] at Hr K8 UM Pj YT
 have hrY:a_ cZ Y2 pr 0 [q]:=((((UK.below hb (by omega)).below hbW (by omega)).below K7 (by omega)).but D3 (by omega)).but K8 (by omega)
 obtain⟨m,hm⟩:∃m:NV,m=⟨0,ak 0 [((key,vl):Tr.Tx×Tr.E 0)],g,0,c',-1,[],[],0,0,false,true⟩:=⟨_,rfl⟩
 have xh:=gQ Hr
 have hnd:Nd Y2 q m:=by
  refine⟨?_,by rw[hm];exact Own.lies Hr, ?_⟩
  ·rw[hm];exact UM
  ·rw[hm]
   refine⟨Nat.succ_le_succ (aC _),fun i hi=> ?_,xh.2⟩
   have e:i=⟨key,vl,none⟩:=cH.1 hi
   rw[e]
   exact⟨aG hk (by decide),aG hv (by decide)⟩
 obtain⟨R',s⟩:=N7 (key:=key) (vl:=vl) h Pj (by omega) (by omega) (by omega) (by omega) LV hm hnd Hr hrY (by omega) hk hv
 exact (vF s RQ dH).mono fun _ _ h=>h.imp fun _ h=>⟨h.1,h.2.1⟩
theorem rY {lv:Nat} {pw:Value} {K:Nat} {T:Tr.E (K+1)} (h:E9 E X0 R0 ps pg rt key K T lv q pw X):∃pr cap R M m c path pre post out,pw=.slice (some ⟨pr,0,none⟩) (path.length+1) cap∧gq E X0 R0 ps pg rt key K T lv q (.slice (some ⟨pr,0,none⟩) (path.length+1) cap) X R M m c path pre post out (q::path).reverse:=by
 obtain⟨R,M,m,c,path,pre,post,out,f⟩:=h
 have hl:(q::path).reverse.length=path.length+1:=by simp
 obtain⟨pr,cap,e,_⟩:=Own.form f.row (by rw[hl];omega)
 rw[hl] at e
 subst e
 exact⟨pr,cap,R,M,m,c,path,pre,post,out,rfl,f⟩
theorem N_ {l:List (Tr.Tx×Tr.Tx)} {pages:List Nat} (h:TS E X0 R0 R ps pg rt (fun _=>none) w) (hm:iz pg (rt.getD E.place 0) l pages) (hk:key.length≤96) (hv:vl.length≤56) (RQ:ps.length≤60000000) (dH:E.place<16):
  Calls Tryz.prog 45 #[ptr E.tb,.string (bs key),.string (bs vl)] w fun e w'=>∃c:Int,e=.returned (.int .i64 c)∧Done E X0 R0 ps pg rt (Tr.put l key vl) pages c w':=by
 refine K5 (L:=fun q pr n cap X=>(∃(K:Nat) (T:Tr.E (K+1)) (R:Nat→Prop) (M:Nat→Option NV) (m:NV) (c:Tr.E 1) (path:List Nat) (pre post:List (Tr.Tx×Tr.Tx)) (out:List Nat),path.length=n∧l=Tr.ct K (Tr.its T)∧pages=Tr.b8 (K+1) T∧pages.Nodup∧gq E X0 R0 ps pg rt key K T 0 q (.slice (some ⟨pr,0,none⟩) (path.length+1) cap) X R M m c path pre post out (q::path).reverse)∨
   ∃V,n=0∧cap=1∧l=[]∧pages=[]∧q=V.heap.size∧pr=V.heap.size+1∧X=(V.alloc (.cells #[.int .i64 0,.slice none 0 0,.int .i64 (-1),.string ⟨#[]⟩,.string ⟨#[]⟩,.int .i64 0,.int .i64 0,.bool false] 127)).alloc (.cells #[.pointer (some ⟨V.heap.size,0,none⟩)] 118)∧TS E X0 R0 R ps pg rt (fun _=>none) V) (G:=fun c w'=>Done E X0 R0 ps pg rt (Tr.put l key vl) pages c w') ⟨?_⟩ (by rw[aK];exact hk) hv ((vG h dH hm key).mono ?_)
 ·rintro q pr n cap X (⟨K,T,R1,M,m,c,path,pre,post,out,rfl,rfl,rfl,hnd,f⟩|⟨V,rfl,rfl,rfl,rfl,hq,DT,hX,hts⟩)
  ·have h1:=f.above.level
   have h2:=f.wO
   exact⟨rV (Own.lies f.row) rfl,by omega,N3 f hk hv hm hnd RQ dH⟩
  ·have h1:=N9 (key:=key) (vl:=vl) hts hX hq DT hk hv RQ dH
   exact⟨h1.1,aC _,h1.2.mono fun e X' h=>.inl h⟩
 ·rintro e X (⟨rfl,h0,h1,h2,hb⟩|⟨K,T,q,pw,rfl,h1,h2,h3,hf⟩)
  ·exact .inl ⟨rfl,fun W hW=>.inr ⟨X,rfl,rfl,h1,h2,rfl,rfl,hW,h.still hb (fun _ h=>h) (fun _ h=>.inl h)⟩⟩
  ·obtain⟨pr,cap,R1,M,m,c,path,pre,post,out,rfl,f⟩:=rY hf
   exact .inr ⟨q,pr,path.length,cap,rfl,.inl ⟨K,T,R1,M,m,c,path,pre,post,out,rfl,h1,h2,h3,f⟩⟩
end
section
variable {E:Ev} {X0 X X' Y V w:World} {R0 R R':Nat→Prop} {ps:List (Nat×List UInt8)} {pg:List (Option Wl.Text)} {rt:List Nat} {M M':Nat→Option NV} {K:Nat} {T:Tr.E (K+1)} {key vl:List UInt8} {q pr cap:Nat} {m:NV} {c:Tr.E 1} {path out:List Nat} {pre post:List (Tr.Tx×Tr.Tx)}
def sM (E:Ev) (X0:World) (R0:Nat→Prop) (ps:List (Nat×List UInt8)) (pg:List (Option Wl.Text)) (rt:List Nat) (X:World):Prop:=∃R M,TS E X0 R0 R ps pg rt M X
theorem Oa (f:gq E X0 R0 ps pg rt key K T 0 q (.slice (some ⟨pr,0,none⟩) (path.length+1) cap) X R M m c path pre post out (q::path).reverse):
  Calls Tryz.prog 52 #[ptr q,.string (bs key)] X fun e X'=>
  (∃a:Nat,e=.returned (.tuple #[.int .i64 a,.bool false])∧Tr.got (Tr.ct K (Tr.its T)) key=none∧sM E X0 R0 ps pg rt X')∨
  (∃(a g o n' c':Nat) (v0:List UInt8),e=.returned (.tuple #[.int .i64 a,.bool true])∧a<n'∧n'≤400∧X'.cell? ⟨q,1,none⟩=some (.slice (some ⟨g,o,none⟩) n' c')∧X'.cell? ⟨g,o+a*3+1,none⟩=some (.string (bs v0))∧v0.length≤200∧∀gm,Below X'.heap.size X' gm→Tr.got (Tr.ct K (Tr.its T)) key=some v0∧sM E X0 R0 ps pg rt gm):=by
 obtain⟨lf,fA,jK,hsz,BK,qB,Jw,hro,hown⟩:=rX f
 have hlen:m.its.length=lf.length:=by rw[fA,aM]
 have hnd:=f.ts.mem.nd q m f.kI
 have oL:posOf m.its key=(lf.takeWhile fun x=>Tr.lt x.1 key).length:=by rw[fA];exact qI lf key
 have BT:Tr.got (Tr.ct K (Tr.its T)) key=Tr.got lf key:=by rw[qB];exact Tr.E_ f.QD f.QE
 refine (ke hnd BK key).mono ?_
 rintro e X' ⟨rfl,hb⟩
 have f':=f.still hb
 have nr:=hnd.still hb
 have hc1:=nr.c1
 rw[hro] at hc1
 have jM:=pF (key:=key) jK.lE
 rw[←show m.its=ak 0 lf from fA] at jM
 cases ht:ec m.its key with
 |false=>
  exact .inl ⟨_,rfl,by rw[BT];exact Tr.BQ (jM.1 ht),_,_,f'.ts⟩
 |true=>
  right
  obtain⟨jm,hkk⟩:=jM.2 ht
  obtain⟨a,ha⟩:∃a,a=posOf m.its key:=⟨_,rfl⟩
  rw[←ha] at oL jm ⊢
  have hkk':(lf[a]'jm).1=key:=by
   have h:=hkk
   simp only[←ha] at h
   exact h
  have hal:a<m.its.length:=by omega
  have jf:m.its[a]=⟨key,(lf[a]'jm).2,none⟩:=by
   have e:m.its[a]?=some ⟨(lf[a]'jm).1,(lf[a]'jm).2,none⟩:=by
    rw[fA,cJ,aJ jm];rfl
   rw[aJ hal] at e
   rw[Option.some.inj e,hkk']
  have hit:=aV nr.row a hal
  rw[jf,hro] at hit
  exact⟨a,m.rg,0,m.its.length,m.cap,(lf[a]'jm).2,rfl,hal,by omega,hc1,hit.2.1,aG (jK.vals _ (bB jm)) (by decide),fun gm aP=>⟨by rw[BT];exact Tr.BR jK.lE oL jm hkk',_,_,(f'.still aP).ts⟩⟩
theorem Ob {l:List (Tr.Tx×Tr.Tx)} {pages:List Nat} (h:TS E X0 R0 R ps pg rt (fun _=>none) w) (hm:iz pg (rt.getD E.place 0) l pages) (dH:E.place<16):
  Calls Tryz.prog 32 #[ptr E.tb,.string (bs key)] w fun e w'=>e=.returned (.tuple #[.string (bs ((Tr.got l key).getD [])),.bool (Tr.got l key).isSome,.int .i64 0])∧sM E X0 R0 ps pg rt w':=by
 refine (KM (L:=fun q pr n cap X=>∃(K:Nat) (T:Tr.E (K+1)) (R:Nat→Prop) (M:Nat→Option NV) (m:NV) (c:Tr.E 1) (path:List Nat) (pre post:List (Tr.Tx×Tr.Tx)) (out:List Nat),path.length=n∧l=Tr.ct K (Tr.its T)∧gq E X0 R0 ps pg rt key K T 0 q (.slice (some ⟨pr,0,none⟩) (path.length+1) cap) X R M m c path pre post out (q::path).reverse) (G:=fun v w'=>Tr.got l key=v∧sM E X0 R0 ps pg rt w') ⟨?_⟩ ((vG h dH hm key).mono ?_)).mono ?_
 ·rintro q pr n cap X ⟨K,T,R1,M,m,c,path,pre,post,out,rfl,rfl,f⟩
  have h1:=f.above.level
  have h2:=f.wO
  exact⟨rV (Own.lies f.row) rfl,by omega,Oa f⟩
 ·rintro e X (⟨rfl,h0,h1,h2,hb⟩|⟨K,T,q,pw,rfl,h1,h2,h3,hf⟩)
  ·exact .inl ⟨rfl,by rw[h1];rfl,_,_,h.still hb (fun _ h=>h) (fun _ h=>.inl h)⟩
  ·obtain⟨pr,cap,R1,M,m,c,path,pre,post,out,rfl,f⟩:=rY hf
   exact .inr ⟨q,pr,path.length,cap,rfl,K,T,R1,M,m,c,path,pre,post,out,rfl,h1,f⟩
 ·rintro e w' ⟨v,rfl,hv,hk⟩
  rw[hv]
  exact⟨rfl,hk⟩
theorem Oc (f:gq E X0 R0 ps pg rt key K T 0 q (.slice (some ⟨pr,0,none⟩) (path.length+1) cap) X R M m c path pre post out (q::path).reverse) (hm:iz pg (rt.getD E.place 0) (Tr.ct K (Tr.its T)) (Tr.b8 (K+1) T)) (htk:(Tr.b8 (K+1) T).Nodup) (hq:ps.length≤60000000) (dH:E.place<16):
  Calls Tryz.prog 52 #[ptr q,.string (bs key)] X fun e X'=>
  (∃a:Nat,e=.returned (.tuple #[.int .i64 a,.bool false])∧Tr.got (Tr.ct K (Tr.its T)) key=none∧sM E X0 R0 ps pg rt X')∨
  (∃(a g n' c':Nat),e=.returned (.tuple #[.int .i64 a,.bool true])∧a<n'∧n'≤400∧X'.cell? ⟨q,1,none⟩=some (.slice (some ⟨g,0,none⟩) n' c')∧
   Calls Tryz.prog 56 #[.slice (some ⟨g,0,none⟩) n' c',.int .i64 a,.int .i64 (a+1:Nat)] X' fun e gm=>∃(VL:Nat) (v:Value),e=.returned v∧v=.slice (some ⟨g,0,none⟩) VL c'∧(∃u,gm.cell? ⟨q,1,none⟩=some u)∧gm.frozen? ⟨q,1,none⟩=false∧
    Calls Tryz.prog 57 #[ptr E.tb,.slice (some ⟨pr,0,none⟩) (path.length+1) cap] (gm.setCell ⟨q,1,none⟩ v) fun e w'=>∃c:Int,e=.returned (.int .i64 c)∧(Tr.got (Tr.ct K (Tr.its T)) key).isSome=true∧c=0∧Done E X0 R0 ps pg rt (Tr.del (Tr.ct K (Tr.its T)) key) (Tr.b8 (K+1) T) c w'):=by
 obtain⟨lf,fA,jK,hsz,BK,qB,Jw,hro,hown⟩:=rX f
 have hlen:m.its.length=lf.length:=by rw[fA,aM]
 have htn:=nx hm
 have hnd:=f.ts.mem.nd q m f.kI
 have oL:posOf m.its key=(lf.takeWhile fun x=>Tr.lt x.1 key).length:=by rw[fA];exact qI lf key
 have BT:Tr.got (Tr.ct K (Tr.its T)) key=Tr.got lf key:=by rw[qB];exact Tr.E_ f.QD f.QE
 have YU:Tr.del (Tr.ct K (Tr.its T)) key=pre++Tr.del lf key++post:=by rw[qB];exact Tr.NY f.QD f.QE
 have xJ:m.rg≠q:=by have:=f.ts.mem.Dg f.kI f.kI;exact this
 refine (ke hnd BK key).mono ?_
 rintro e X' ⟨rfl,hb⟩
 have f':=f.still hb
 have nr:=hnd.still hb
 have hown':aR 0 X' (.slice (some ⟨m.rg,0,none⟩) m.its.length m.cap) m.its:=Own.below hown hb (af _)
 have hc1:=nr.c1
 rw[hro] at hc1
 have jM:=pF (key:=key) jK.lE
 rw[←show m.its=ak 0 lf from fA] at jM
 cases ht:ec m.its key with
 |false=>
  exact .inl ⟨_,rfl,by rw[BT];exact Tr.BQ (jM.1 ht),_,_,f'.ts⟩
 |true=>
  right
  obtain⟨jm,hkk⟩:=jM.2 ht
  obtain⟨a,ha⟩:∃a,a=posOf m.its key:=⟨_,rfl⟩
  rw[←ha] at oL jm ⊢
  have hkk':(lf[a]'jm).1=key:=by
   have h:=hkk
   simp only[←ha] at h
   exact h
  have hal:a<m.its.length:=by omega
  have YV:=Tr.KS jK.lE oL jm hkk'
  refine⟨a,m.rg,m.its.length,m.cap,rfl,hal,by omega,hc1,(zv X' m.rg m.cap a m.its hown' hal (by omega)).mono ?_⟩
  rintro e gm ⟨rfl,ho,hbd⟩
  have S5:=nr.blk.but hbd (fun e=>xJ e.symm)
  have UN:m.its.take a++m.its.drop (a+1)=ak 0 (Tr.del lf key:Tr.eZ):=by
   rw[←YV,rU,fA,bI,←List.map_take,←List.map_drop];rfl
  have S8:(Tr.del lf key).length=m.its.length-1:=by
   grind
  rw[UN] at ho
  refine⟨m.its.length-1,_,rfl,rfl,⟨_,S5.cell (j:=1) rfl⟩,S5.frozen 1, ?_⟩
  rw[←S8] at ho ⊢
  obtain⟨Y1,K6⟩:∃Y1,Y1=gm.setCell ⟨q,1,none⟩ (.slice (some ⟨m.rg,0,none⟩) (Tr.del lf key).length m.cap):=⟨_,rfl⟩
  have OM:aE (fun b=>b=q) gm Y1:=by rw[K6];exact (aE.refl (fun b=>b=q) gm).setCell _ _ fun _=>rfl
  have YP:aR 0 Y1 (.slice (some ⟨m.rg,0,none⟩) (Tr.del lf key).length m.cap) (ak 0 (Tr.del lf key:Tr.eZ)):=Own.but ho OM fun b hb e=>xJ (by have e2:m.rg=b:=Option.some.inj hb;rw[e2,e])
  have hkY:aS Y1 q 127 (m.cells.set 1 (.slice (some ⟨m.rg,0,none⟩) (Tr.del lf key).length m.cap)):=by rw[K6];exact S5.set 1 _
  rw[←K6]
  have Rl:aE (fun b=>b=q∨b=m.rg) X' Y1:=(hbd.mono fun _ _ e=>.inr e).trans OM fun b _ e=>.inl e
  have MF:Tr.sz 0 ((Tr.del lf key:Tr.eZ):List (Tr.Tx×Tr.E 0))≤664:=aG (Tr.rT _ lf) (aG hsz (by decide))
  refine (rW f' Rl (fun b h=>h) hkY YP (.inl rfl) jK.del MF htk htn hq dH).mono ?_
  rintro e w' ⟨c,rfl,hd,hz⟩
  exact⟨c,rfl,by rw[BT,Tr.BR jK.lE oL jm hkk'];rfl,hz (aG (Tr.rT _ lf) hsz),by rw[YU];exact hd⟩
theorem Od {l:List (Tr.Tx×Tr.Tx)} {pages:List Nat} (h:TS E X0 R0 R ps pg rt (fun _=>none) w) (hm:iz pg (rt.getD E.place 0) l pages) (RQ:ps.length≤60000000) (dH:E.place<16):
  Calls Tryz.prog 36 #[ptr E.tb,.string (bs key)] w fun e w'=>(e=.returned (.tuple #[.bool false,.int .i64 0])∧Tr.got l key=none∧sM E X0 R0 ps pg rt w')∨(e=.returned (.tuple #[.bool true,.int .i64 0])∧(Tr.got l key).isSome=true∧ko E X0 R0 ps pg rt (Tr.del l key) pages 0 w'):=by
 refine (KP (L:=fun q pr n cap X=>∃(K:Nat) (T:Tr.E (K+1)) (R:Nat→Prop) (M:Nat→Option NV) (m:NV) (c:Tr.E 1) (path:List Nat) (pre post:List (Tr.Tx×Tr.Tx)) (out:List Nat),path.length=n∧l=Tr.ct K (Tr.its T)∧pages=Tr.b8 (K+1) T∧pages.Nodup∧gq E X0 R0 ps pg rt key K T 0 q (.slice (some ⟨pr,0,none⟩) (path.length+1) cap) X R M m c path pre post out (q::path).reverse) (N:=fun w'=>Tr.got l key=none∧sM E X0 R0 ps pg rt w') (G:=fun c w'=>(Tr.got l key).isSome=true∧c=0∧Done E X0 R0 ps pg rt (Tr.del l key) pages c w') ⟨?_⟩ ((vG h dH hm key).mono ?_)).mono ?_
 ·rintro q pr n cap X ⟨K,T,R1,M,m,c,path,pre,post,out,rfl,rfl,rfl,hnd,f⟩
  have h1:=f.above.level
  have h2:=f.wO
  exact⟨rV (Own.lies f.row) rfl,by omega,Oc f hm hnd RQ dH⟩
 ·rintro e X (⟨rfl,h0,h1,h2,hb⟩|⟨K,T,q,pw,rfl,h1,h2,h3,hf⟩)
  ·exact .inl ⟨rfl,by rw[h1];rfl,_,_,h.still hb (fun _ h=>h) (fun _ h=>.inl h)⟩
  ·obtain⟨pr,cap,R1,M,m,c,path,pre,post,out,rfl,f⟩:=rY hf
   exact .inr ⟨q,pr,path.length,cap,rfl,K,T,R1,M,m,c,path,pre,post,out,rfl,h1,h2,h3,f⟩
 ·rintro e w' (h|⟨c,rfl,h1,rfl,h2|⟨h2,_⟩⟩)
  ·exact .inl h
  ·grind
  ·cases h2
end
end
end Go.Proofs.YtebbahjombdalaaGreatDoor
