/- Elder texts, cut down and merged (13). -/
import Derived.Test.YtebbahjombdalaaGreatDoorP12
import Derived.Test.YtebbahjombdalaaGreatDoorP8
import Derived.Test.YtebbahjombdalaaGreatDoorP7
import Derived.LaidEql
import Derived.Laws.StructEq
import Derived.BigRegion
import Derived.BigQuiet
import Derived.Test.YtebbahjombdalaaGreatDoorPTk
set_option maxRecDepth 100000
set_option maxHeartbeats 8000000
namespace Go.Proofs.YtebbahjombdalaaGreatDoor
open List renaming append_assoc→aB,length_take→aN,length_drop→aT,take_of_length_le→bZ,length_append→aq,setIfInBounds_toArray→az,set_cons_succ→ay,set_cons_zero→au,take_append_drop→cL,append_nil→bh,mem_cons→aQ,mem_cons_self→aA,mem_cons_of_mem→aF,nil_append→dF,map_append→bI,mem_append→ah,nodup_cons→cD,length_map→aM,getElem?_append_right→gN,getElem?_eq_getElem→aJ,cons_append→gD,length_cons→aW,drop_eq_getElem_cons→cm,getElem_cons_drop→kJ,getElem_mem→bB,take_succ_eq_append_getElem→cI,take_left→fF,length_eq_zero_iff→ef,flatten_append→dm,flatten_cons→cU
open Nat renaming min_eq_left→b_,zero_add→bV,le_refl→af,lt_or_ge→dw,zero_le→aC,le_trans→aG
open _root_.Array renaming getElem?_eq_some_iff→iA
open World renaming drew→bD
section
open Go.RowKit Lib
section
variable {w:World} {B:Nat} {l ms:List It} {va:Option Addr} {mc:Nat}
theorem zw {g cap i j m:Nat} (h:aR B w (.slice (some ⟨g,0,none⟩) l.length cap) l) (hl:l.length≤400) (hm:m=ms.length) {vr vo:Nat} (hv:a_ aj w vr vo ms∧vr<w.heap.size) (hij:j<i+m) (hi:i<j) (hj:j<l.length) (O8:cap<i+m+(l.length-j)) (hB:B≤w.heap.size) (hml:m≤400):
  Calls Tryz.prog 134 #[.slice (some ⟨g,0,none⟩) l.length cap,.int .i64 i,.int .i64 j,.slice (some ⟨vr,vo,none⟩) m mc] w fun e w'=>f_ B w (.slice (some ⟨g,0,none⟩) l.length cap) (l.take i++ms++l.drop j) e w':=by
 obtain⟨R,hg,zX,-,rE,hcm,hBg⟩:=jr h
 have HH:=aa (And.intro h (And.intro hg (And.intro zX (And.intro hcm hBg))))
 have HV:=aa hv
 have HN:=aa (show j<i+m∧j<l.length∧l.length≤cap∧m=ms.length∧i<j∧cap<i+m+(l.length-j) from⟨hij,hj,rE,hm,hi,O8⟩)
 obtain⟨L,hL⟩:∃L,L=l.length:=⟨_,rfl⟩
 rw[←hL] at hl hj rE O8 ⊢
 have HL:=aa hL
 have iY:(L:Int)≤400:=by omega
 have T0:(i:Int)≤j:=by omega
 have Jj:(i:Int)≤L:=by omega
 have FU:(j:Int)≤L:=by omega
 have T3:(j:Int)<L:=by omega
 have hne:((i:Int)==j)=false:=by rw[beq_eq_false_iff_ne];omega
 have T4:((j:Int)==L)=false:=by rw[beq_eq_false_iff_ne];omega
 have Cm:(L:Int)≤cap:=by omega
 have M9:¬cap=i:=by omega
 have VD:¬cap=j:=by omega
 have MU:(m:Int)≤400:=by omega
 have hTI:(i:Int)+m+(L-j)>cap:=by omega
 have hT0:(0:Int)≤(i:Int)+m+(L-j):=by omega
 have T6:¬(i:Int)+m≤j:=by omega
 have hiT:(i:Int)≤(i:Int)+m+(L-j):=by omega
 have Vp:(0:Int)≤(i:Int)+m:=by omega
 have ilT:(i:Int)+m≤(i:Int)+m+((L-j:Nat):Int):=by omega
 have iw:IntKind.i64.wrap ((i:Int)+m)=(i:Int)+m:=by
  have:=cN (i+m) (by omega)
  rwa [show ((i+m:Nat):Int)=(i:Int)+m by omega] at this
 have Tb:((i:Int)+m).toNat=i+m:=by omega
 obtain⟨Mi,O7⟩:∃Mi,Mi=aj.cells ((l.drop i).take (j-i)):=⟨_,rfl⟩
 have hmid:aj.cells l++R=aj.cells (l.take i)++(Mi++(aj.cells (l.drop j)++R)):=by
  grind [eU,List.drop_drop,aB]
 have HC:=aa (show w.drew.heap[g]?=some (.cells (aj.cells (l.take i)++(Mi++(aj.cells (l.drop j)++R))).toArray 122 (0,0))∧(aj.cells (l.take i)).length=i*3∧Mi.length=(j-i)*3∧(aj.cells (l.drop j)).length=(L-j)*3∧cap≤maxLen∧(aj.cells (l.take i)++(Mi++(aj.cells (l.drop j)++R))).length=cap*3 from
  ⟨by rw[←hmid];exact hg,by rw[bQ,aN,b_ (by omega)],by rw[O7,bQ,aN,aT,b_ (by omega)],by rw[bQ,aT,hL],hcm,by rw[←hmid];exact zX⟩)
 have ER:g<w.heap.size:=(iA.1 hg).1
 have hX:(aj.cells (l.take i)).length=i*3:=HC.o.2.1
 have hlies:=Own.lies h
 have hx:∀k u,(aj.cells (l.take i))[k]?=some u→w.drew.cell? ⟨g,k,none⟩=some u:=by
  intro k u hu
  have:=hlies k u (by rw[eU l i,List.getElem?_append_left (List.getElem?_eq_some_iff.1 hu).1];exact hu)
  rw[bV] at this
  exact this
 have M_:a_ aj w g (j*3) (l.drop j):=by
  have:=hlies.part j (l.length-j) (by omega)
  rw[bV,bZ (by rw[aT];exact af _)] at this
  exact this
 have HG:=aa (And.intro M_ (And.intro ER hB))
 obtain⟨c,Z,hrun,OC,Wr,hz3⟩:=qo w.drew g i cap (m+(L-j)) _ hX hx (by omega) (by omega) (by omega) 123
 rw[show i+(m+(L-j))=i+m+(L-j) by omega] at hrun OC
 have s9:((m+(L-j):Nat):Int)=(i:Int)+m+((L-j:Nat):Int)-i:=by omega
 rw[s9] at hrun
 have HR:=aa hrun
 have HZ:=aa (And.intro OC (And.intro Wr hz3))
 clear ER hX hlies hx M_ hrun OC Wr hz3 s9 hB
 clear h hg zX hcm hBg hv hm hij hi hj hL O7 hmid O8 hml
 go_enter Tryz.func134,Tryz.ntmps134
 go_wp2_with fail
 go_region
 go_wp2_with (at_builtin;refine Hid.o ?_)
 refine aa ?_
 refine Lib.wpList_append_run _ rfl _ _ _ _ rfl _ _ rfl rfl _ _ HR.o ?_
 obtain⟨w1,hw1⟩:∃w1,w1=w.drew.drew.alloc (.cells (aj.cells (l.take i)++Z).toArray 122):=⟨_,rfl⟩
 obtain⟨g2,fK⟩:∃g2,g2=w.drew.heap.size:=⟨_,rfl⟩
 have bF:Below w.heap.size w w1:=by rw[hw1];exact (Below.refl _ w).drew.drew.alloc (af _) _
 have hc1:w1.heap[g2]?=some (.cells (aj.cells (l.take i)++Z).toArray 122 (0,0)):=by rw[hw1,fK];exact heap_alloc_new w.drew.drew _
 have uq:=aa (show Below w.heap.size w w1∧w1.heap[g2]?=some (.cells (aj.cells (l.take i)++Z).toArray 122 (0,0))∧a_ aj w1 vr vo ms∧a_ aj w1 g (j*3) (l.drop j)∧g2=w.heap.size∧w.heap.size≤w1.heap.size from⟨bF,hc1,HV.o.1.below bF HV.o.2,HG.o.1.below bF HG.o.2.1,fK,bF.size⟩)
 rw[←hw1,←fK]
 clear hw1 fK bF hc1
 have M9:¬c=i:=by have:=HZ.o.1;have:=HN.o;omega
 have T7:¬c=i+m:=by have:=HZ.o.1;have:=HN.o;have:=HL.o;omega
 go_wp2_with (refine ez rfl _ _ rfl _ _ _ _ _ _ rfl rfl g2 (i*3) _ uq.o.2.1 ms (by rw[←HN.o.2.2.2.1];exact (b_ (by omega)).symm) (fun h0=>⟨rfl,vr,vo,rfl,uq.o.2.2.1⟩) (by rw[HZ.o.2.2,←HN.o.2.2.2.1];have:=HZ.o.1;omega) ?_;intro w2 fK aP;refine Hid.o ?_)
 refine aa ?_
 have hml:(aj.cells ms).length=m*3:=by rw[bQ,HN.o.2.2.2.1]
 rw[←HC.o.2.1,fo rfl,hml] at fK
 obtain⟨Z1,P0⟩:∃Z1,Z1=Z.drop (m*3):=⟨_,rfl⟩
 rw[←P0,←aB] at fK
 have hp2:(aj.cells (l.take i)++aj.cells ms).length=(i+m)*3:=by rw[aq,HC.o.2.1,hml];omega
 have Td:Z1.length+(i+m)*3=c*3:=by
  have h1:=HZ.o.2.2
  rw[aq,HC.o.2.1] at h1
  rw[P0,aT]
  have:=HZ.o.1
  omega
 have Qm:∀k,k<w.heap.size→¬k=g2:=fun k hk e=>by have:=uq.o.2.2.2.2.1;omega
 have H2:=aa (show w2.heap[g2]?=some (.cells (aj.cells (l.take i)++aj.cells ms++Z1).toArray 122 (0,0))∧Below w.heap.size w w2∧a_ aj w2 g (j*3) (l.drop j)∧(aj.cells (l.take i)++aj.cells ms).length=(i+m)*3∧Z1.length+(i+m)*3=c*3 from
  ⟨fK,uq.o.1.trans (aP.below uq.o.2.2.2.2.2 Qm),uq.o.2.2.2.1.but aP (Qm g HG.o.2.1),hp2,Td⟩)
 clear fK aP hml P0 hp2 Td Qm
 go_wp2_with fail
 go_wp2_with (refine wp_region_any (by kernel_rfl) ?_;refine Hid.o ?_)
 refine aa ?_
 try (change wpAny _ _ _ _ _ _ _ (bD _))
 refine tk 0 ?_
 refine tk 1 ?_
 refine tk 2 ?_
 refine tk 3 ?_
 refine tk 4 ?_
 refine tk 5 ?_
 refine tk 6 ?_
 refine tk 7 ?_
 refine tk 8 ?_
 try simp only[Act.put,az,ay,au]
 refine rd [9] (rn fun K hK=> ?_)
 refine fk _ _ rfl _ _ _ _ _ _ rfl rfl g2 ((i+m)*3) _ H2.o.1 (l.drop j) (by rw[aT,←HL.o];exact (Nat.min_self _).symm) (fun _=>⟨rfl,g,j*3,rfl,H2.o.2.2.1⟩) (by rw[aq,H2.o.2.2.2.1,aT,←HL.o];have:=HZ.o.1;have:=H2.o.2.2.2.2;omega) ?_;intro w3 zU bY
 refine hK _ _ ?_;clear hK K
 refine wpAny_done (by kernel_rfl) ?_ _
 rw[←H2.o.2.2.2.1,fo rfl] at zU
 obtain⟨R2,x9⟩:∃R2,R2=Z1.drop (aj.cells (l.drop j)).length:=⟨_,rfl⟩
 rw[←x9] at zU
 have hcs:aj.cells (l.take i++ms++l.drop j)++R2=aj.cells (l.take i)++aj.cells ms++(aj.cells (l.drop j)++R2):=by
  rw[Elem.bW,Elem.bW]
  simp only[aB]
 have HE:=aa (show f_ B w (.slice (some ⟨g,0,none⟩) L cap) (l.take i++ms++l.drop j) (.returned (.slice (some ⟨g2,0,none⟩) (i+m+(L-j)) c)) w3 from by
  have hb4:Below w.heap.size w w3:=H2.o.2.1.drew.trans (bY.below H2.o.2.1.size (fun k hk e=>by have:=uq.o.2.2.2.2.1;omega))
  refine⟨_,rfl,eX (R:=R2) (by rw[hcs];exact zU) ?_ ?_ HZ.o.1 HZ.o.2.1 (by rw[uq.o.2.2.2.2.1];exact HG.o.2.2),aE.aH hb4 _,.inr fun k hk=> ?_,fun _=>rfl⟩
  ·rw[hcs,aq,H2.o.2.2.2.1,aq,x9,aT,HC.o.2.2.2.1]
   have:=HZ.o.1
   have:=H2.o.2.2.2.2
   omega
  ·rw[aq,aq,aN,aT];have:=HN.o;have:=HL.o;omega
  ·have e:some g2=some k:=hk
   injection e with e
   have:=uq.o.2.2.2.2.1
   omega)
 clear zU bY x9 hcs
 go_wp2_with fail
 go_ret
 exact HE.o
end
section
variable {w:World} {B:Nat} {l ms:List It} {va:Option Addr} {mc:Nat}
theorem zx {g cap i j m:Nat} (h:aR B w (.slice (some ⟨g,0,none⟩) l.length cap) l) (hl:l.length≤400) (hm:m=ms.length) {vr vo:Nat} (hv:a_ aj w vr vo ms∧vr≠g∧∃cur,w.heap[vr]?=some (.cells cur 122 (0,0))∧cur.size≠0) (hij:j<i+m) (hi:i<j) (hj:j<l.length) (O8:i+m+(l.length-j)≤cap) (hml:m≤400):
  Calls Tryz.prog 134 #[.slice (some ⟨g,0,none⟩) l.length cap,.int .i64 i,.int .i64 j,.slice (some ⟨vr,vo,none⟩) m mc] w fun e w'=>f_ B w (.slice (some ⟨g,0,none⟩) l.length cap) (l.take i++ms++l.drop j) e w':=by
 obtain⟨R,hg,zX,-,rE,hcm,hBg⟩:=jr h
 have HH:=aa (And.intro h (And.intro hg (And.intro zX (And.intro hcm hBg))))
 have HV:=aa hv
 have HN:=aa (show j<i+m∧j<l.length∧l.length≤cap∧m=ms.length∧i<j∧i+m+(l.length-j)≤cap from⟨hij,hj,rE,hm,hi,O8⟩)
 obtain⟨L,hL⟩:∃L,L=l.length:=⟨_,rfl⟩
 rw[←hL] at hl hj rE O8 ⊢
 have HL:=aa hL
 have iY:(L:Int)≤400:=by omega
 have T0:(i:Int)≤j:=by omega
 have Jj:(i:Int)≤L:=by omega
 have FU:(j:Int)≤L:=by omega
 have T3:(j:Int)<L:=by omega
 have hne:((i:Int)==j)=false:=by rw[beq_eq_false_iff_ne];omega
 have T4:((j:Int)==L)=false:=by rw[beq_eq_false_iff_ne];omega
 have Cm:(L:Int)≤cap:=by omega
 have M9:¬cap=i:=by omega
 have VD:¬cap=j:=by omega
 have MU:(m:Int)≤400:=by omega
 have hTI:¬(i:Int)+m+(L-j)>cap:=by omega
 have hT0:(0:Int)≤(i:Int)+m+(L-j):=by omega
 have XP:(i:Int)+m+(L-j)≤cap:=by omega
 have T6:¬(i:Int)+m≤j:=by omega
 have hiT:(i:Int)≤(i:Int)+m+(L-j):=by omega
 have T7:¬cap=i+m:=by omega
 have Vp:(0:Int)≤(i:Int)+m:=by omega
 have ilT:(i:Int)+m≤(i:Int)+m+((L-j:Nat):Int):=by omega
 have iw:IntKind.i64.wrap ((i:Int)+m)=(i:Int)+m:=by
  grind [cN]
 have Tb:((i:Int)+m).toNat=i+m:=by omega
 obtain⟨Mi,O7⟩:∃Mi,Mi=aj.cells ((l.drop i).take (j-i)):=⟨_,rfl⟩
 have hmid:aj.cells l++R=aj.cells (l.take i)++(Mi++(aj.cells (l.drop j)++R)):=by
  grind [eU,List.drop_drop,aB]
 have HC:=aa (show w.drew.heap[g]?=some (.cells (aj.cells (l.take i)++(Mi++(aj.cells (l.drop j)++R))).toArray 122 (0,0))∧(aj.cells (l.take i)).length=i*3∧Mi.length=(j-i)*3∧(aj.cells (l.drop j)).length=(L-j)*3∧cap≤maxLen∧(aj.cells (l.take i)++(Mi++(aj.cells (l.drop j)++R))).length=cap*3 from
  ⟨by rw[←hmid];exact hg,by rw[bQ,aN,b_ (by omega)],by rw[O7,bQ,aN,aT,b_ (by omega)],by rw[bQ,aT,hL],hcm,by rw[←hmid];exact zX⟩)
 clear h hg zX hcm hBg hv hm hij hi hj hL O7 hmid O8 hml
 go_enter Tryz.func134,Tryz.ntmps134
 go_wp2_with fail
 go_region
 go_wp2
 rw[ng w.drew g ((i+m)*3) (L-j) (cap-(i+m)) vr vo m mc (fun e=>HV.o.2.1 e.symm) ⟨_,HC.o.1⟩ HV.o.2.2]
 rw[Oper.upon_value]
 go_wp2_with fail
 obtain⟨Nn,XQ⟩:∃Nn,Nn=(Mi++(aj.cells (l.drop j)++R)).take (m*3):=⟨_,rfl⟩
 obtain⟨Q0,XR⟩:∃Q0,Q0=(Mi++(aj.cells (l.drop j)++R)).drop (m*3):=⟨_,rfl⟩
 have O9:Mi++(aj.cells (l.drop j)++R)=Nn++Q0:=by rw[XQ,XR,cL]
 have htot:(Mi++(aj.cells (l.drop j)++R)).length+i*3=cap*3:=by
  have h1:=HC.o.2.2.2.2.2
  rw[aq,HC.o.2.1] at h1
  omega
 have XS:Nn.length=m*3:=by rw[XQ,aN];have:=HN.o;have:=HL.o;omega
 have hQl:Q0.length+m*3+i*3=cap*3:=by rw[XR,aT];have:=HN.o;have:=HL.o;omega
 have hdl:=HC.o.2.2.2.1
 have hml:(aj.cells ms).length=m*3:=by rw[bQ,HN.o.2.2.2.1]
 have Wv:a_ aj w.drew g (j*3) (l.drop j):=by
  have h1:=HC.o.1
  rw[←aB] at h1
  have h2:=kF h1
  have e:(aj.cells (l.take i)++Mi).length=j*3:=by
   rw[aq,HC.o.2.1,HC.o.2.2.1]
   have:=HN.o
   omega
  rw[e] at h2
  exact h2
 have H0:=aa (show w.drew.heap[g]?=some (.cells (aj.cells (l.take i)++Nn++Q0).toArray 122 (0,0))∧a_ aj w.drew g (j*3) (l.drop j)∧(aj.cells (l.take i)++Nn).length=(i+m)*3∧Nn.length=m*3∧Q0.length+m*3+i*3=cap*3∧(aj.cells (l.drop j)).length=(L-j)*3∧(aj.cells ms).length=m*3 from
  ⟨by rw[aB,←O9];exact HC.o.1,Wv,by rw[aq,HC.o.2.1,XS];omega,XS,hQl,hdl,hml⟩)
 clear XQ XR O9 htot XS hQl hdl hml Wv
 go_wp2_with (refine wp_region_any (by kernel_rfl) ?_;refine Hid.o ?_)
 refine aa ?_
 try (change wpAny _ _ _ _ _ _ _ (bD _))
 refine tk 0 ?_
 refine tk 1 ?_
 refine tk 2 ?_
 refine tk 3 ?_
 refine tk 4 ?_
 refine tk 5 ?_
 refine tk 6 ?_
 refine tk 7 ?_
 refine tk 8 ?_
 try simp only[Act.put,az,ay,au]
 refine rd [9] (rn fun K hK=> ?_)
 refine fk _ _ rfl _ _ _ _ _ _ rfl rfl g ((i+m)*3) _ H0.o.1 (l.drop j) (by rw[aT,←HL.o];exact (Nat.min_self _).symm) (fun _=>⟨rfl,g,j*3,rfl,H0.o.2.1⟩) (by rw[aq,H0.o.2.2.1,aT,←HL.o];have:=HN.o;have:=HL.o;have:=H0.o.2.2.2.2.1;omega) ?_;intro w1 rI bF
 refine hK _ _ ?_;clear hK K
 refine wpAny_done (by kernel_rfl) ?_ _
 have Qn:=(aE.refl (fun k=>k=g) w).drew.drew.trans bF (fun _ _ h=>h)
 rw[←H0.o.2.2.1,fo rfl] at rI
 obtain⟨R2,x9⟩:∃R2,R2=Q0.drop (aj.cells (l.drop j)).length:=⟨_,rfl⟩
 rw[←x9,aB] at rI
 have Kj:R2.length+(L-j)*3+m*3+i*3=cap*3:=by rw[x9,aT,H0.o.2.2.2.2.2.1];have:=HN.o;have:=HL.o;have:=H0.o.2.2.2.2.1;omega
 have H1:=aa (show w1.heap[g]?=some (.cells (aj.cells (l.take i)++(Nn++(aj.cells (l.drop j)++R2))).toArray 122 (0,0))∧aE (fun k=>k=g) w w1∧a_ aj w1 vr vo ms∧R2.length+(L-j)*3+m*3+i*3=cap*3 from⟨rI,Qn,HV.o.1.but (S:=fun k=>k=g) Qn HV.o.2.1,Kj⟩)
 clear rI bF Qn x9 Kj
 go_wp2_with (refine ez rfl _ _ rfl _ _ _ _ _ _ rfl rfl g (i*3) _ H1.o.1 ms (by rw[←HN.o.2.2.2.1];exact (b_ (by omega)).symm) (fun h0=>⟨rfl,vr,vo,rfl,H1.o.2.2.1⟩) (by rw[aq,HC.o.2.1,aq,H0.o.2.2.2.1,←HN.o.2.2.2.1];omega) ?_;intro w2 fK aP;refine Hid.o ?_)
 refine aa ?_
 rw[←HC.o.2.1,fo rfl,H0.o.2.2.2.2.2.2,List.drop_left' H0.o.2.2.2.1] at fK
 have hcs:aj.cells (l.take i++ms++l.drop j)++R2=aj.cells (l.take i)++(aj.cells ms++(aj.cells (l.drop j)++R2)):=by
  rw[Elem.bW,Elem.bW]
  simp only[aB]
 have HE:=aa (show f_ B w (.slice (some ⟨g,0,none⟩) L cap) (l.take i++ms++l.drop j) (.returned (.slice (some ⟨g,0,none⟩) (i+m+(L-j)) cap)) w2 from by
  refine⟨_,rfl,eX (R:=R2) (by rw[hcs];exact fK) ?_ ?_ (by have:=HN.o;have:=HL.o;omega) HC.o.2.2.2.2.1 HH.o.2.2.2.2,(H1.o.2.1.trans aP (fun _ _ e=>e)).mono fun k _ e=>by rw[e];rfl,.inl rfl,fun _=>rfl⟩
  ·rw[hcs,aq,aq,aq,HC.o.2.1,H0.o.2.2.2.2.2.1,H0.o.2.2.2.2.2.2]
   have:=H1.o.2.2.2
   omega
  ·rw[aq,aq,aN,aT];have:=HN.o;have:=HL.o;omega)
 clear fK aP hcs
 go_wp2_with fail
 go_ret
 exact HE.o
end
section
variable {w:World} {B:Nat} {l ms:List It} {lv:Value}
theorem Bh {g cap i j:Nat} (h:aR B w (.slice (some ⟨g,0,none⟩) l.length cap) l) (hB:B≤w.heap.size) (hl:l.length≤400) (ho:aR 0 w lv ms) (hne:∀k,lv.ownBlock=some k→k≠g) (hml:ms.length≤400) (hi:i<j) (hj:j≤l.length):
  Calls Tryz.prog 134 #[.slice (some ⟨g,0,none⟩) l.length cap,.int .i64 i,.int .i64 j,lv] w fun e w'=>f_ B w (.slice (some ⟨g,0,none⟩) l.length cap) (l.take i++ms++l.drop j) e w':=by
 obtain⟨hn1,rE,hcm⟩:=gQ h
 rcases dw 0 ms.length with hpos|hz
 ·obtain⟨vr,mc,rfl,-,hvl,hmc⟩:=Own.form ho hpos
  have hvg:=hne vr rfl
  have hv:=Own.lies ho
  obtain⟨R,hg,zX,-,-,-,-⟩:=jr ho
  have hcell:∃cur,w.heap[vr]?=some (.cells cur 122 (0,0))∧cur.size≠0:=⟨_,hg,by rw[List.size_toArray,zX];omega⟩
  by_cases hjn:j=l.length
  ·grind [List.drop_length,qA,rP]
  ·by_cases hij:i+ms.length≤j
   ·exact nv h hl rfl (fun _=>⟨vr,0,rfl,hv,hvg⟩) hij hi (by omega)
   ·grind [zx,zw]
 ·obtain rfl:ms=[]:=List.eq_nil_of_length_eq_zero (by omega)
  obtain⟨a,mc,rfl,hmc⟩:=Own.slice ho
  rw[bh]
  by_cases hjn:j=l.length
  ·subst hjn
   rw[List.drop_length,bh]
   rcases ho.2 with⟨e,_⟩|⟨g',cap',cur,e,_⟩
   ·simp_all[Bg]
   ·rw[e]
    have hv:a_ aj w g' 0 ([]:List It):=by intro k u hu;simp[Elem.cells] at hu
    have:=qA h hl rfl hv hi (by simp only[List.length_nil];omega) (mc:=cap')
    rw[bh] at this
    exact this
  ·have:=nv h hl (m:=0) (ms:=[]) (va:=a) (mc:=mc) rfl (fun h0=>absurd h0 (by simp)) (by omega) hi (by omega) (j:=j)
   rw[bh] at this
   exact this
theorem vk {it:It} {vr vo i:Nat} (h:aR B w lv l) (hB:B≤w.heap.size) (hl:l.length≤400) (hv:a_ aj w vr vo [it]) (hne:∀k,lv.ownBlock=some k→vr≠k) (EM:∃cur,w.heap[vr]?=some (.cells cur 122 (0,0))) (hi:i≤l.length):
  Calls Tryz.prog 70 #[lv,.int .i64 i,.slice (some ⟨vr,vo,none⟩) 1 1] w fun e w'=>f_ B w lv (l.take i++it::l.drop i) e w':=by
 by_cases hil:i=l.length
 ·simp_all[List.take_length,List.drop_length,Dj]
 ·obtain⟨g,cap,rfl,hBg,ER,hc⟩:=Own.form h (by omega)
  by_cases AK:l.length+1≤cap
  ·exact AQ h hl hv (by omega) AK (hne g rfl) EM
  ·grind [AR]
end
section
variable {E:Ev} {X0 Xs X X' V:World} {R0 Rs R R':Nat→Prop} {ps:List (Nat×List UInt8)} {pg:List (Option Wl.Text)} {rt:List Nat} {Ms M M':Nat→Option NV} {k p q sb:Nat} {n0 n m:NV} {ga sv eC lv:Value} {h:Tr.Hd} {P A B N:List (Tr.Tx×Tr.E (k+1))} {kc:Tr.Tx} {c0 c:Tr.E (k+1)} {F:List Nat} {l0:List Int} {sp:List Nat} {I1 I2 LI WI:List It} {fa:List (List Nat)} {st:List (Tr.Tx×Tr.E (k+1))×List Nat}
theorem kj {vg:List It} {W2:List (Tr.Tx×Tr.E (k+1))} {f2:List (List Nat)} (o:lF E X0 R0 ps pg rt Rs Ms Xs sb ga k p n0 I1 I2 F l0 st WI vg W2 f2 R M X sv lv LI fa) (hV:Below X.heap.size X V):lF E X0 R0 ps pg rt Rs Ms Xs sb ga k p n0 I1 I2 F l0 st WI vg W2 f2 R M V sv lv LI fa:=
 ⟨⟨o.row.row.step (o.row.row.ss.still hV) (lQ.still hV),o.row.kids,o.row.got,o.row.nd⟩,o.at_,o.keys,o.rest,o.nd,o.news,o.same,o.low,o.Ba⟩
theorem aX.first {R1:Nat→Tr.E (k+1)→List Nat→Prop} {i:It} {is:List It} {xs:List (Tr.Tx×Tr.E (k+1))} {fs:List (List Nat)} (x:Tr.Tx) (h:aX pg k R1 (i::is) xs fs):aX pg k R1 ({i with key:=x}::is) (Tr.bA x xs) fs:=by
 match xs,fs,h with
 |_::_,_::_,h=>exact⟨⟨rfl,h.1.2.1,h.1.2.2⟩,h.2⟩
 |[],_,h=>exact h.elim
 |_::_,[],h=>exact h.elim
theorem GI {i:It} (o:lF E X0 R0 ps pg rt Rs Ms Xs sb ga k p n0 I1 I2 F l0 st WI [] [] [] R M X sv lv (i::LI) fa) (x:Tr.Tx) {xb:ByteArray} (Rq:bs x=xb) {g L cp:Nat} (hlv:lv=.slice (some ⟨g,0,none⟩) L cp):
  ∃R',lF E X0 R0 ps pg rt Rs Ms Xs sb ga k p n0 I1 I2 F l0 (Tr.bA x st.1,st.2) WI [] [] [] R' M (X.setCell ⟨g,0,none⟩ (.string xb)) sv lv ({i with key:=x}::LI) fa:=by
 subst hlv
 obtain⟨hL,-,-⟩:=gQ o.row.row.own
 subst hL
 have hcells:=uG (i::LI) 0 0 (by simp) (by decide) {i with key:=x} (.string xb) (by rw[←Rq];rfl)
 have hown:aR Xs.heap.size (X.setCell ⟨g,0,none⟩ (.string xb)) (.slice (some ⟨g,0,none⟩) (i::LI).length cp) ({i with key:=x}::LI):=by
  have h1:=(World.ownsRow.stored o.row.row.own 0 (.string xb)).1
  have e:aj.cells ({i with key:=x}::LI)=(aj.cells (i::LI)).set 0 (.string xb):=hcells
  unfold aR Own
  rw[e]
  exact h1
 have hb:aE (fun b=>(Value.slice (some ⟨g,0,none⟩) (i::LI).length cp).ownBlock=some b) X (X.setCell ⟨g,0,none⟩ (.string xb)):=(aE.refl _ X).setCell _ _ fun _=>rfl
 obtain⟨lp,R',he,hr,-,-⟩:=o.row.row.add (e:=.returned (.tuple #[.slice (some ⟨g,0,none⟩) (i::LI).length cp,.int .i64 0])) ⟨_,rfl,hown,hb,.inl rfl⟩
 have he2:Value.slice (some ⟨g,0,none⟩) (i::LI).length cp=lp:=by
  grind
 subst he2
 refine⟨R',⟨⟨hr,o.row.kids.first x,fun j hj=> ?_,o.row.nd⟩,o.at_,o.keys,o.rest,o.nd,o.news,o.same,o.low,o.Ba⟩⟩
 rcases aQ.1 hj with rfl|hj
 ·exact o.row.got i aA
 ·exact o.row.got j (aF _ hj)
theorem vm (o:lF E X0 R0 ps pg rt Rs Ms Xs sb ga k p n0 (ak (k+1) P) (ak (k+1) N) F l0 st WI [] [] [] R M X sv lv LI fa) {W:List (Tr.Tx×Tr.E (k+1))} (hk:n0.its.map It.key=(P++(W++N)).map (·.1)):WI.map It.key=W.map (·.1):=by
 have h1:=o.keys
 rw[dF,hk,bI,bI,bI,bI,c9,c9] at h1
 exact List.append_cancel_right (List.append_cancel_left h1)
theorem Bi {α:Type} {a b:List (Tr.Tx×α)} (h:a.map (·.1)=b.map (·.1)):Tr.b7 a=Tr.b7 b:=by
 cases a with
 |nil=>cases b with
  |nil=>rfl
  |cons _ _=>cases h
 |cons x a=>cases b with
  |nil=>cases h
  |cons y b=>exact (List.cons.inj h).1
theorem all_eq (P A B N:List (Tr.Tx×Tr.E (k+1))) (kc:Tr.Tx) (c:Tr.E (k+1)):(P++A)++(kc,c)::(B++N)=P++((A++(kc,c)::B)++N):=by simp
theorem mw (s:Slot pg Ms k p q n m h (P++A) (B++N) kc c0 c F) (hA:A=[]→P=[]) (hB:B=[]→N=[]) (sp:List Nat):
  Tr.tD k n.lo (iV n.hi) (P++((A++(kc,c)::B)++N)) (P++(Tr.bA (Tr.b7 (A++(kc,c)::B)) ((A++(kc,c)::B).foldl (Tr.bC k) ([],sp)).1++N)) (Tr.big k [(kc,c)]) sp ((A++(kc,c)::B).foldl (Tr.bC k) ([],sp)).2∧∃h',Tr.iI k h' (A++(kc,c)::B):=by
 have hrw:=s.VC
 rw[all_eq] at hrw
 have hn:=s.O6
 have e:(if P++A=[] then n.lo else kc)=if P=[]∧A=[] then n.lo else kc:=by
  simp_all
 rw[e] at hn
 have oA:∀p∈A,Tr.Old (k+1) p.2:=fun x hx=>jH (s.sides x (.inl (ah.2 (.inr hx))))
 have oB:∀p∈B,Tr.Old (k+1) p.2:=fun x hx=>jH (s.sides x (.inr (ah.2 (.inl hx))))
 exact⟨Tr.Gq sp hrw hn hA hB oA s.old oB,Tr.Bf hrw hn oA s.old oB⟩
theorem zy (k:Nat) (kc:Tr.Tx) (c:Tr.E (k+1)):Tr.big k [(kc,c)]≤1:=by
 unfold Tr.big
 split
 ·exact aC _
 ·exact af _
theorem x_ (s:Slot pg Ms k p q n m h (P++A) (B++N) kc c0 c F) {l:List (Tr.Tx×Tr.E (k+1))} {sp sp':List Nat} (hs:Tr.tD k n.lo (iV n.hi) (P++((A++(kc,c)::B)++N)) l (Tr.big k [(kc,c)]) sp sp'):Tr.sz (k+1) l≤610:=by
 have h1:=hs.size
 have h2:=zy k kc c
 have h3:=s.fit
 rw[←all_eq,zu (c0:=c0)] at h1
 omega
theorem Kk (s:Slot pg Ms k p q n m h (P++A) (B++N) kc c0 c F) (hA:A=[]→P=[]) (hB:B=[]→N=[])
  (o:lF E X0 R0 ps pg rt Rs Ms Xs sb ga k p n (ak (k+1) P) (ak (k+1) N) F l0 ((A++(kc,c)::B).foldl (Tr.bC k) ([],sp)) WI [] [] [] R M X sv lv WI fa):
  Bd E X0 R0 Rs ps pg rt Ms Xs sb ga l0 sp k p n h (P++((A++(kc,c)::B)++N)) (Tr.big k [(kc,c)]) F X:=by
 obtain⟨hst,h',Gx⟩:=mw s hA hB sp
 have hks:=s.O5
 rw[all_eq] at hks
 have hwk:=vm o hks
 have hacc:((A++(kc,c)::B).foldl (Tr.bC k) ([],sp)).1.map (·.1)=(A++(kc,c)::B).map (·.1):=o.row.kids.keys.symm.trans hwk
 have Qo:=Tr.GD sp Gx hacc
 rw[←Bi hacc,Tr.uP] at hst
 have hsz:=x_ s hst
 obtain⟨fs,hk,hfl⟩:=nu (pg:=pg) (P:=P) (N:=N) (fun x hx=>s.sides x (.inl (ah.2 (.inl hx)))) (fun x hx=>s.sides x (.inr (ah.2 (.inr hx)))) o.row.kids
 have hnd:=o.nd
 have hnews:=o.news
 rw[show ([]:List (List Nat)).flatten=[] from rfl,bh] at hnd hnews
 refine⟨R,M,sv,_,Tr.mk h (P++(((A++(kc,c)::B).foldl (Tr.bC k) ([],sp)).1++N)),p::fa.flatten,_,o.row.row.ss,o.row.row.xU,o.at_,⟨rfl,rfl,rfl,s.own⟩,⟨_,fs,o.at_,x7 s.lG rfl rfl rfl rfl rfl (by omega) hst.row ?_, ?_,by rw[hfl]⟩,rfl,hst,hnd,fun r hr=> ?_,o.same⟩
 ·rw[all_eq,bI,bI,bI,bI,Qo,x8 s.page]
 ·simp_all
 ·rcases aQ.1 hr with rfl|hr
  ·exact .inl aA
  ·exact (hnews r hr).imp_left (aF _)
theorem Nx (s:Slot pg Ms k p q n m h (P++A) (B++N) kc c0 c F) (hA:A=[]→P=[]) (hB:B=[]→N=[])
  (o:lF E X0 R0 ps pg rt Rs Ms Xs sb ga k p n (ak (k+1) P) (ak (k+1) N) F l0 (Tr.bA (Tr.b7 (A++(kc,c)::B)) ((A++(kc,c)::B).foldl (Tr.bC k) ([],sp)).1,((A++(kc,c)::B).foldl (Tr.bC k) ([],sp)).2) WI [] [] [] R M X sv lv LI fa)
  {v':Value} {NL:Nat} (ho:aR 0 V v' (ak (k+1) P++(LI++ak (k+1) N))) (hb:aE (fun b=>(Value.slice (some ⟨n.rg,0,none⟩) NL n.cap).ownBlock=some b) X V) (hw:v'.ownBlock=(Value.slice (some ⟨n.rg,0,none⟩) NL n.cap).ownBlock∨∀b,v'.ownBlock=some b→X.heap.size≤b) (hs:v'.ownBlock.isSome=true)
  (hX:X'=(V.setCell ⟨p,1,none⟩ v').setCell ⟨p,7,none⟩ (.bool true)):
  Bd E X0 R0 Rs ps pg rt Ms Xs sb ga l0 sp k p n h (P++((A++(kc,c)::B)++N)) (Tr.big k [(kc,c)]) F X':=by
 obtain⟨hst,h',Gx⟩:=mw s hA hB sp
 have hsz:=x_ s hst
 obtain⟨fs,hk,hfl⟩:=nu (pg:=pg) (P:=P) (N:=N) (fun x hx=>s.sides x (.inl (ah.2 (.inl hx)))) (fun x hx=>s.sides x (.inr (ah.2 (.inr hx)))) o.row.kids
 have hnd:=o.nd
 have hnews:=o.news
 rw[show ([]:List (List Nat)).flatten=[] from rfl,bh] at hnd hnews
 obtain⟨iT,fA⟩:∃iT,iT=ak (k+1) P++(LI++ak (k+1) N):=⟨_,rfl⟩
 rw[←fA] at ho hk
 dsimp only at hk
 obtain⟨g',c',rfl⟩:∃g' c',v'=.slice (some ⟨g',0,none⟩) iT.length c':=by
  obtain⟨a,c',rfl,-⟩:=Own.slice ho
  rcases ho.2 with⟨e,_⟩|⟨g',cap',cur,e,_⟩
  ·rw[e] at hs;cases hs
  ·grind
 have hlt:g'<V.heap.size:=(Own.block ho g' rfl).2
 have hcap:=gQ ho
 have hat:=o.at_
 have ya:=o.row.row.ss.ts.mem
 have dH:=ya.lt hat
 have M0:n.rg≠p:=by
  have:=ya.Dg hat hat
  exact this
 have VE:g'=n.rg∨X.heap.size≤g':=by
  rcases hw with e|e
  ·left;exact Option.some.inj e
  ·exact .inr (e g' rfl)
 have LV:g'≠p:=by
  rcases VE with e|e
  ·rw[e];exact M0
  ·intro e2;have:=dH.1;omega
 obtain⟨n',hn'⟩:∃n':NV,n'=⟨n.level,iT,g',0,c',n.page,n.lo,n.hi,n.was,n.at_,true,true⟩:=⟨_,rfl⟩
 have bF:aE (fun b=>b=n.rg∨b=p) X V:=hb.mono fun b _ e=>.inl (Option.some.inj e).symm
 have k_:aE (fun b=>b=p) V X':=by
  rw[hX]
  exact ((aE.refl (fun b=>b=p) V).setCell _ _ fun _=>rfl).setCell _ _ fun _=>rfl
 have oZ:aE (fun b=>b=n.rg∨b=p) X X':=bF.trans k_ fun _ _ e=>.inr e
 have how:aR 0 X' (.slice (some ⟨g',0,none⟩) iT.length c') iT:=Own.but ho k_ fun b hb e=>LV (by have e2:some g'=some b:=hb;injection e2 with e2;rw[e2,e])
 have hlen:=hk.len.1
 have aaL:=hk.sz
 have xj:=Tr.iJ (k+1) (P++(Tr.bA (Tr.b7 (A++(kc,c)::B)) ((A++(kc,c)::B).foldl (Tr.bC k) ([],sp)).1++N))
 have Ap:NV.Small n':=by
  rw[hn']
  refine⟨by show iT.length≤400;omega,fun i hi=> ?_,hcap.2⟩
  have hall:∀{is:List It} {xs:List (Tr.Tx×Tr.E (k+1))} {fs:List (List Nat)},aX pg k (dx M pg k) is xs fs→(∀x∈xs,x.1.length≤96)→∀i∈is,i.key.length≤200∧i.val.length≤200:=by
   intro is
   induction is with
   |nil=>intro _ _ _ _ i hi;cases hi
   |cons j is ih=>
    intro xs fs hks hx i hi
    cases xs with
    |nil=>exact hks.elim
    |cons x xs=>cases fs with
     |nil=>exact hks.elim
     |cons f fs=>
      rcases aQ.1 hi with rfl|hi
      ·have:=hx x aA
       rw[hks.1.1,hks.1.2.1]
       exact⟨by omega,by decide⟩
      ·exact ih hks.2 (fun y hy=>hx y (aF _ hy)) i hi
  exact hall hk (gY hst.row).2.2 i hi
 have Qd:=ya.nd p _ hat
 have XT:Nd X' p n':=by
  refine⟨?_,by rw[hn'];exact Own.lies how,Ap⟩
  rw[hX,hn']
  exact ((Qd.blk.but hb fun e=>M0 (Option.some.inj e)).set 1 _).set 7 _
 have hmem:Mem X' (upd M p n'):=ya.renew hat n' oZ (fun b hb=>by
  rcases hb with e|e
  ·exact .inr ⟨e,s.own⟩
  ·exact .inl e) XT (by rw[hn']) (by rw[hn'];exact how) (by
  rw[hn']
  rcases VE with e|e
  ·exact .inl ⟨e,s.own⟩
  ·exact .inr e)
 have hmb:∀b,MB (upd M p n') b→MB M b∨X.heap.size≤b:=by
  rintro b ⟨r,y,hr,hk⟩
  rcases aI hr with⟨rfl,rfl⟩|⟨_,hr⟩
  ·rcases hk with rfl|hk
   ·exact .inl ⟨_,_,hat,.inl rfl⟩
   ·rw[hn'] at hk
    have hk:b=g':=hk
    rcases VE with e|e
    ·exact .inl ⟨_,_,hat,.inr (by rw[hk,e])⟩
    ·right;omega
  ·exact .inl ⟨r,y,hr,hk⟩
 have hS:∀b,(b=n.rg∨b=p)→MB M b:=fun b hb=>by
  rcases hb with e|e
  ·exact⟨p,_,hat,.inr e⟩
  ·exact⟨p,_,hat,.inl e⟩
 have hss:=o.row.row.ss
 have aaM:=k_.size
 have hgR:∀b,(R b∨b=g')→R b∨X.heap.size≤b:=fun b hb=>by
  rcases hb with hb|rfl
  ·exact .inl hb
  ·rcases VE with e|e
   ·rw[e];exact .inl (hss.ts.jR _ (hS _ (.inl rfl))).1
   ·exact .inr e
 have hts:TS E X0 R0 (fun b=>R b∨b=g') ps pg rt (upd M p n') X':=by
  refine hss.ts.own oZ (fun b _ e=>hss.ts.jR b (hS b e)) hmem (fun b hb=> ?_) (fun _ h=>.inl h) (fun b hb=> ?_)
  ·refine⟨?_, ?_⟩
   ·obtain⟨r,y,hr,hk⟩:=hb
    rcases aI hr with⟨rfl,rfl⟩|⟨_,hr⟩
    ·rcases hk with rfl|hk
     ·exact .inl (hss.ts.jR _ (hS _ (.inr rfl))).1
     ·rw[hn'] at hk;exact .inr hk
    ·exact .inl (hss.ts.jR b ⟨r,y,hr,hk⟩).1
   ·rcases hmb b hb with h1|h1
    ·exact (hss.ts.jR b h1).2
    ·exact aG hss.ts.but.size h1
  ·rcases hb with hb|rfl
   ·exact .inl hb
   ·rcases hgR _ (.inr rfl) with h1|h1
    ·exact .inl h1
    ·exact .inr ⟨h1,by omega⟩
 have hsp:∀r∈fa.flatten,upd M p n' r=M r:=fun r hr=>aO fun e=>(cD.1 hnd).1 (by rw[←e];exact hr)
 refine⟨_,upd M p n',sv,n',Tr.mk ⟨h.page,true⟩ (P++(Tr.bA (Tr.b7 (A++(kc,c)::B)) ((A++(kc,c)::B).foldl (Tr.bC k) ([],sp)).1++N)),p::fa.flatten,_,hss.nodes hts oZ hS (fun _ h=>.inl h) hmb,o.row.row.xU.trans (lQ.nodes oZ hS (fun _ h=>.inl h) hgR hmb (Dom.upd _ _ _)),bz _ _ _,⟨by rw[hn'],by rw[hn'],by rw[hn'],by rw[hn']⟩,
  ⟨n',fs,bz _ _ _,⟨by rw[hn'];exact s.lG.level,by rw[hn'];exact s.lG.page,by rw[hn'];rfl,by rw[hn'];exact⟨by show Tr.sz (k+1) _≤664;exact aG hsz (by decide),hst.row⟩,fun e=>by cases e⟩, ?_,by rw[hfl]⟩,rfl,hst,hnd,fun r hr=> ?_,fun r y hr hy=> ?_⟩
 ·have e:n'.its=iT:=by rw[hn']
  rw[e]
  exact hk.frame fun r hr=>by rw[hfl] at hr;exact hsp r hr
 ·rcases aQ.1 hr with rfl|hr
  ·exact .inl aA
  ·exact (hnews r hr).imp_left (aF _)
 ·rw[aO (fun e=>hr (by rw[e];exact aA))]
  exact o.same r y hr hy
end
section
variable {E:Ev} {X0 Xs X X' V:World} {R0 Rs R R':Nat→Prop} {ps:List (Nat×List UInt8)} {pg:List (Option Wl.Text)} {rt:List Nat} {Ms M M':Nat→Option NV} {k p q sb:Nat} {n m:NV} {ga sv eC lv:Value} {h:Tr.Hd} {P A B N:List (Tr.Tx×Tr.E (k+1))} {kc:Tr.Tx} {c0 c:Tr.E (k+1)} {F:List Nat} {l0:List Int} {sp:List Nat}
def o_ (k:Nat) (A B:List (Tr.Tx×Tr.E (k+1))) (kc:Tr.Tx) (c0:Tr.E (k+1)) (q:Nat):List It:=ak (k+1) A++⟨kc,dS (k+1) c0,some q⟩::ak (k+1) B
def Qp (E:Ev) (X0:World) (R0:Nat→Prop) (ps:List (Nat×List UInt8)) (pg:List (Option Wl.Text)) (rt:List Nat) (Rs:Nat→Prop) (Ms:Nat→Option NV) (Xs:World) (sb:Nat) (ga:Value) (k p:Nat) (n:NV) (P N W:List (Tr.Tx×Tr.E (k+1))) (W0:List It) (F:List Nat) (l0:List Int) (sp:List Nat) (j:Nat) (lv:Value) (X:World):Prop:=
 ∃h_ f2 R M sv LI fa,h_.length=j∧j≤W.length∧lF E X0 R0 ps pg rt Rs Ms Xs sb ga k p n (ak (k+1) P) (ak (k+1) N) F l0 ((W.take j).foldl (Tr.bC k) ([],sp)) h_ (W0.drop j) (W.drop j) f2 R M X sv lv LI fa
def XU (E:Ev) (X0:World) (R0:Nat→Prop) (ps:List (Nat×List UInt8)) (pg:List (Option Wl.Text)) (rt:List Nat) (Rs:Nat→Prop) (Ms:Nat→Option NV) (Xs:World) (sb:Nat) (ga:Value) (k p:Nat) (n:NV) (P N W:List (Tr.Tx×Tr.E (k+1))) (W0:List It) (F:List Nat) (l0:List Int) (sp:List Nat) (j:Nat) (lv:Value) (nq:Nat) (X:World):Prop:=
 ∃h_ i f f2 R M sv LI fa,∃hj:j<W.length,h_.length=j∧Ql E X0 R0 ps pg rt Rs Ms Xs sb ga k p n (ak (k+1) P) (ak (k+1) N) F l0 ((W.take j).foldl (Tr.bC k) ([],sp)) h_ i (W0.drop (j+1)) W[j] (W.drop (j+1)) f f2 nq R M X sv lv LI fa
def WIn (E:Ev) (X0:World) (R0:Nat→Prop) (ps:List (Nat×List UInt8)) (pg:List (Option Wl.Text)) (rt:List Nat) (Rs:Nat→Prop) (Ms:Nat→Option NV) (Xs:World) (sb:Nat) (ga:Value) (k p:Nat) (n:NV) (P N W:List (Tr.Tx×Tr.E (k+1))) (W0:List It) (F:List Nat) (l0:List Int) (sp:List Nat) (j L:Nat) (ra:Option Addr) (jj:Nat) (lv:Value) (X:World):Prop:=
 ∃h_ i f f2 nq Rb Mb Xb RD RE RF fab rv IT fs R M sv LI fa,∃hj:j<W.length,h_.length=j∧Ql E X0 R0 ps pg rt Rs Ms Xs sb ga k p n (ak (k+1) P) (ak (k+1) N) F l0 ((W.take j).foldl (Tr.bC k) ([],sp)) h_ i (W0.drop (j+1)) W[j] (W.drop (j+1)) f f2 nq Rb Mb Xb RD RE RF fab∧
  (∃rc,rv=.slice ra L rc)∧IT.length=L∧(∀t∈IT,t.node.isSome=true)∧jj≤L∧
  uY E X0 R0 ps pg rt Rs Ms Xs sb ga k Mb Xb (fab.flatten++f) l0 rv IT (Tr.parted k W[j]).1 fs (rowAt k W[j].1 (((W.take j).foldl (Tr.bC k) ([],sp)).1,((W.take j).foldl (Tr.bC k) ([],sp)).2++(Tr.parted k W[j]).2) (Tr.parted k W[j]).1 jj) jj R M X sv lv LI fa
theorem Bj {IT LI:List It} {cs:List (Tr.Tx×Tr.E (k+1))} {fs fa:List (List Nat)} {st:List (Tr.Tx×Tr.E (k+1))×List Nat} {jj:Nat} {rv:Value} {Mb:Nat→Option NV} {Xb:World} (o:uY E X0 R0 ps pg rt Rs Ms Xs sb ga k Mb Xb F l0 rv IT cs fs st jj R M X sv lv LI fa) (hV:Below X.heap.size X V):uY E X0 R0 ps pg rt Rs Ms Xs sb ga k Mb Xb F l0 rv IT cs fs st jj R M V sv lv LI fa:=
 ⟨⟨o.row.row.step (o.row.row.ss.still hV) (lQ.still hV),o.row.kids,o.row.got,o.row.nd⟩,o.rest,o.nd,Own.below o.own hV (af _),o.A8,o.news,o.same,aG o.size hV.size,o.low,o.dom⟩
theorem GJ {h_ vg LI:List It} {i:It} {cc:Tr.Tx×Tr.E (k+1)} {W2:List (Tr.Tx×Tr.E (k+1))} {f:List Nat} {f2 fa:List (List Nat)} {st:List (Tr.Tx×Tr.E (k+1))×List Nat} {I1 I2:List It} (o:Ql E X0 R0 ps pg rt Rs Ms Xs sb ga k p n I1 I2 F l0 st h_ i vg cc W2 f f2 q R M X sv lv LI fa) (hV:Below X.heap.size X V):Ql E X0 R0 ps pg rt Rs Ms Xs sb ga k p n I1 I2 F l0 st h_ i vg cc W2 f f2 q R M V sv lv LI fa:=
 ⟨kj o.o hV,o.node,o.xQ⟩
theorem Kl {k:Nat} {x:Tr.Tx} {st:List (Tr.Tx×Tr.E (k+1))×List Nat} {cs:List (Tr.Tx×Tr.E (k+1))} {j:Nat} (hj:j<cs.length):(rowAt k x st cs (j+1)).1≠[]:=by
 rw[o8 hj]
 exact Tr.vf _ _ _ _ _
theorem zz {c:Tr.Tx×Tr.E (k+1)} (hj:0<(Tr.parted k c).1.length):((Tr.parted k c).1[0]).1=c.1:=by
 by_cases e:(Tr.its c.2).isEmpty=true
 ·grind [sI]
 ·grind [u_,ve]
theorem vq (c:Tr.Tx×Tr.E (k+1)):(Tr.parted k c).1.length≤2∧(Tr.parted k c).2.length≤1:=by
 unfold Tr.parted
 split
 ·grind
 ·grind
theorem yc (x:Tr.Tx) (st:List (Tr.Tx×Tr.E (k+1))×List Nat) (cs:List (Tr.Tx×Tr.E (k+1))):∀j,(rowAt k x st cs j).1.length≤st.1.length+j∧(rowAt k x st cs j).2.length≤st.2.length+(k+1)*j
 |0=>⟨af _,Nat.le_add_right _ _⟩
 |j+1=>by
  have ih:=yc x st cs j
  by_cases hj:j<cs.length
  ·rw[o8 hj]
   have:=Tr.sJ k x (rowAt k x st cs j).1 (rowAt k x st cs j).2 cs[j]
   rw[Nat.mul_succ]
   omega
  ·have e:rowAt k x st cs (j+1)=rowAt k x st cs j:=by
    grind [rowAt,bZ]
   rw[e,Nat.mul_succ]
   omega
theorem Km (s:Slot pg Ms k p q n m h (P++A) (B++N) kc c0 c F) {j:Nat} (hj:j<(A++(kc,c)::B).length) (hw:j<(o_ k A B kc c0 q).length) (hn:(o_ k A B kc c0 q)[j].node=none):
  Tr.Ok (k+1) (eF n (P.length+j)) (iV (dW n (P.length+j))) ((A++(kc,c)::B)[j]).2:=by
 have hne:j≠A.length:=by
  rintro rfl
  have e:(o_ k A B kc c0 q)[A.length]?=some ⟨kc,dS (k+1) c0,some q⟩:=by
   simp_all[o_,ak,aM,Nat.sub_self]
  rw[aJ hw] at e
  rw[Option.some.inj e] at hn
  cases hn
 have hj0:j<(A++(kc,c0)::B).length:=by simpa using hj
 have e0:(A++(kc,c)::B)[j]=(A++(kc,c0)::B)[j]:=by
  grind
 rw[e0]
 have hd:(P++A)++(kc,c0)::(B++N)=(P++(A++(kc,c0)::B).take j)++(A++(kc,c0)::B)[j]::((A++(kc,c0)::B).drop (j+1)++N):=by
  have e1:(A++(kc,c0)::B)=(A++(kc,c0)::B).take j++(A++(kc,c0)::B)[j]::(A++(kc,c0)::B).drop (j+1):=by
   simp_all
  rw[all_eq]
  conv=>lhs;rw[e1]
  simp only[aB,gD]
 have hl:(P++(A++(kc,c0)::B).take j).length=P.length+j:=by rw[aq,aN,b_ (by omega)]
 have:=lB (A:=P++(A++(kc,c0)::B).take j) (key:=((A++(kc,c0)::B)[j]).1) (c:=((A++(kc,c0)::B)[j]).2) (B:=(A++(kc,c0)::B).drop (j+1)++N) s.lG.near (by rw[Tr.its_mk,hd]) s.keys
 rwa [hl] at this
theorem Bn:(o_ k A B kc c0 q).length=(A++(kc,c)::B).length:=by
 unfold o_ ak
 simp
theorem GK (s:Slot pg Ms k p q n m h (P++A) (B++N) kc c0 c F) (hA:A.length≤1) (hB:B.length≤1) (hk:k≤15) (hl:l0.length+sp.length≤50000) (Gx:∃h',Tr.iI k h' (A++(kc,c)::B)):
  Steps p q sb E.tb P.length (P.length+(A++(kc,c)::B).length) n.rg n.ro n.its.length n.cap
   (fun a lv X=>∃j,a=P.length+j∧Qp E X0 R0 ps pg rt Rs Ms Xs sb ga k p n P N (A++(kc,c)::B) (o_ k A B kc c0 q) F l0 sp j lv X)
   (fun a lv nq X=>∃j,a=P.length+j∧XU E X0 R0 ps pg rt Rs Ms Xs sb ga k p n P N (A++(kc,c)::B) (o_ k A B kc c0 q) F l0 sp j lv nq X)
   (fun a L ra jj lv X=>∃j,a=P.length+j∧WIn E X0 R0 ps pg rt Rs Ms Xs sb ga k p n P N (A++(kc,c)::B) (o_ k A B kc c0 q) F l0 sp j L ra jj lv X):=by
 obtain⟨h',Gx⟩:=Gx
 have Wg:(o_ k A B kc c0 q).length=(A++(kc,c)::B).length:=Bn
 have hW3:(A++(kc,c)::B).length≤3:=by rw[aq,aW];omega
 have hkeys:∀x∈A++(kc,c)::B,x.1.length≤96:=by
  have h1:=(gY s.VC).2.2
  intro x hx
  rcases ah.1 hx with hx|hx
  ·grind
  ·rcases aQ.1 hx with rfl|hx
   ·exact h1 (kc,c0) (ah.2 (.inr aA))
   ·grind
 have hcell:∀{I1 I2:List It} {R M X},TS E X0 R0 R ps pg rt M X→M p=some {n with its:=I1++I2}→(I1++I2).map It.key=n.its.map It.key→X.cell? ⟨p,1,none⟩=some (.slice (some ⟨n.rg,n.ro,none⟩) n.its.length n.cap):=by
  intro I1 I2 R M X ht hm hks
  have hlen:(I1++I2).length=n.its.length:=by have:=congrArg List.length hks;rwa [aM,aM] at this
  have:=(ht.mem.nd p _ hm).c1
  rw[←hlen]
  exact this
 generalize XV:A++(kc,c)::B=W at*
 generalize hWi:o_ k A B kc c0 q=W0 at*
 refine⟨?_, ?_, ?_, ?_, ?_, ?_, ?_, ?_⟩
 ·rintro a lv X ⟨j,rfl,h_,f2,R,M,sv,LI,fa,h1,h2,o⟩
  exact⟨o.row.row.ss.blk.cell (j:=0) rfl,hcell o.row.row.ss.ts o.at_ o.keys⟩
 ·rintro a lv X V ⟨j,rfl,h_,f2,R,M,sv,LI,fa,h1,h2,o⟩ hV
  exact⟨j,rfl,h_,f2,R,M,sv,LI,fa,h1,h2,kj o hV⟩
 ·rintro a lv X ⟨j,rfl,h_,f2,R,M,sv,LI,fa,h1,h2,o⟩-hlt
  have hj:j<W.length:=by omega
  have hj0:j<W0.length:=by omega
  rw[cm hj,cm hj0] at o
  obtain⟨i1,i2,f,f2,e1,rfl,-,-⟩:=o.rest.cons_inv
  have hI:(ak (k+1) P++h_).length=P.length+j:=by rw[aq,h1];unfold ak;rw[aM]
  refine (Bb o (Below.refl _ _) s.lG.level hk (by rw[hI]) (fun hn=> ?_)).mono ?_
  ·grind [Km]
  ·rintro e X' ⟨nq,R',M',f',rfl,g⟩
   exact⟨nq,rfl,j,rfl,h_,_,f',f2,R',M',sv,LI,fa,hj,h1,g⟩
 ·rintro a lv nq X V ⟨j,rfl,h_,i,f,f2,R,M,sv,LI,fa,hj,h1,g⟩ hV
  exact⟨j,rfl,h_,i,f,f2,R,M,sv,LI,fa,hj,h1,GJ g hV⟩
 ·rintro a lv nq X ⟨j,rfl,h_,i,f,f2,R,M,sv,LI,fa,hj,h1,g⟩
  have hts:=g.o.row.row.ss.ts
  refine⟨hcell hts g.o.at_ g.o.keys,i, ?_, ?_⟩
  ·have GL:=(hts.mem.nd p _ g.o.at_).row
   have hI:(ak (k+1) P++h_).length=P.length+j:=by rw[aq,h1];unfold ak;rw[aM]
   have hidx:P.length+j<(ak (k+1) P++(h_++(i::W0.drop (j+1)++ak (k+1) N))).length:=by rw[←aB,aq,hI];simp
   have:=uK.of (j:=P.length+j) GL hidx
   have e:(ak (k+1) P++(h_++(i::W0.drop (j+1)++ak (k+1) N)))[P.length+j]'hidx=i:=by
    grind
   rw[←e]
   exact this
  ·have hold:=(Tr.iI.at (o9 (W1:=W.take j) (W2:=W[j]::W.drop (j+1)) (by rw[kJ,cL];exact Gx))).2.2.1
   have hfl:=(Tr.nR k (W.take j) ([],sp)).2
   have hlb:(2*k+3)*(W.take j).length≤99:=by
    have:(W.take j).length≤3:=by rw[aN];omega
    calc (2*k+3)*(W.take j).length≤33*3:=Nat.mul_le_mul (by omega) this
     _=99:=rfl
   refine (GF g (Below.refl _ _) hold.1 (by rw[aq];unfold gy;rw[aM];simp only at hfl;omega)).mono ?_
   rintro e X' ⟨rv,R',M',eC,IT,fs,rfl,Qk,hin⟩
   obtain⟨ra,rc,rfl,-⟩:=Own.slice hin.own
   have hlr:=hin.rest.len.1
   have hp2:=(vq W[j]).1
   have hL:IT.length=(Tr.parted k W[j]).1.length:=hlr
   refine⟨IT.length,ra,rc,rfl,by omega,j,rfl,h_,i,f,f2,nq,R,M,X,sv,lv,LI,fa,_,IT,fs,R',M',eC,LI,fa,hj,h1,g,⟨rc,rfl⟩,rfl,Qk,aC _,hin⟩
 ·rintro a L ra jj lv X V ⟨j,rfl,h_,i,f,f2,nq,Rb,Mb,Xb,RD,RE,RF,fab,rv,IT,fs,R,M,sv,LI,fa,hj,h1,g,h2,h3,h4,h5,o⟩ hV
  exact⟨j,rfl,h_,i,f,f2,nq,Rb,Mb,Xb,RD,RE,RF,fab,rv,IT,fs,R,M,sv,LI,fa,hj,h1,g,h2,h3,h4,h5,Bj o hV⟩
 ·rintro a L ra jj lv X ⟨j,rfl,h_,i,f,f2,nq,Rb,Mb,Xb,RD,RE,RF,fab,rv,IT,fs,R,M,sv,LI,fa,hj,h1,g,⟨rc,rfl⟩,h3,h4,h5,o⟩ hlt
  have FU:jj<IT.length:=by omega
  obtain⟨gr,cr,hv,-,ER,-⟩:=Own.form o.own (by omega)
  have hra:ra=some ⟨gr,0,none⟩:=by injection hv
  have hlr:=o.rest.len.1
  rw[aT,aT] at hlr
  have Rj:jj<(Tr.parted k W[j]).1.length:=by omega
  have hap:=o.own
  rw[hv] at hap
  have T8:=uK.of (Own.lies hap) FU
  refine⟨gr,IT[jj],hra,T8,fun V hV=> ?_⟩
  have hfl:=Tr.nR k (W.take j) ([],sp)
  have hrl:=yc W[j].1 (((W.take j).foldl (Tr.bC k) ([],sp)).1,((W.take j).foldl (Tr.bC k) ([],sp)).2++(Tr.parted k W[j]).2) (Tr.parted k W[j]).1 jj
  have htk:(W.take j).length≤3:=by rw[aN];omega
  have hlb:(2*k+3)*(W.take j).length≤99:=by
   calc (2*k+3)*(W.take j).length≤33*3:=Nat.mul_le_mul (by omega) htk
    _=99:=rfl
  have hp2:=vq W[j]
  have aaN:(k+1)*jj≤32:=by
   calc (k+1)*jj≤16*2:=Nat.mul_le_mul (by omega) (by omega)
    _=32:=rfl
  have aaO:=o.row.kids.len.1
  have T9:=DE (x:=[]) sp (((W.take j).foldl (Tr.bC k) ([],sp)).2++(Tr.parted k W[j]).2) (W1:=W.take j) (c:=W[j]) (W2:=W.drop (j+1)) (h:=h') (by rw[kJ,cL];exact Gx) (fun d l _=>Tr.nil_le _) (hkeys _ (bB hj)) jj Rj
  have e2:(((W.take j).foldl (Tr.bC k) ([],sp)).2++(Tr.parted k W[j]).2).length=((W.take j).foldl (Tr.bC k) ([],sp)).2.length+(Tr.parted k W[j]).2.length:=aq
  refine (DD o hV FU Rj h4 (by simp only at hrl hfl;simp only[List.length_nil] at hfl;omega) T9.1 (by
   rw[aq]
   unfold gy
   rw[aM]
   simp only at hrl hfl
   omega) hk T9.2).mono ?_
  rintro e V' ⟨lp,R',M',eC,L0,jt,rfl,o'⟩
  have XW:Tr.bG k ((Tr.parted k W[j]).1[jj]).1 (rowAt k W[j].1 (((W.take j).foldl (Tr.bC k) ([],sp)).1,((W.take j).foldl (Tr.bC k) ([],sp)).2++(Tr.parted k W[j]).2) (Tr.parted k W[j]).1 jj).1 (rowAt k W[j].1 (((W.take j).foldl (Tr.bC k) ([],sp)).1,((W.take j).foldl (Tr.bC k) ([],sp)).2++(Tr.parted k W[j]).2) (Tr.parted k W[j]).1 jj).2 (Tr.parted k W[j]).1[jj]=
    rowAt k W[j].1 (((W.take j).foldl (Tr.bC k) ([],sp)).1,((W.take j).foldl (Tr.bC k) ([],sp)).2++(Tr.parted k W[j]).2) (Tr.parted k W[j]).1 (jj+1):=by
   rw[o8 Rj]
   refine (A_ k _ _ _ _ fun he=> ?_).symm
   cases jj with
   |zero=>exact (zz Rj).symm
   |succ jj=>exact absurd he (Kl (by omega))
  rw[XW] at o'
  exact⟨lp,rfl,j,rfl,h_,i,f,f2,nq,Rb,Mb,Xb,RD,RE,RF,fab,_,IT,fs,R',M',eC,L0,jt,hj,h1,g,⟨rc,rfl⟩,h3,h4,by omega,o'⟩
 ·rintro a L ra lv X ⟨j,rfl,h_,i,f,f2,nq,Rb,Mb,Xb,RD,RE,RF,fab,rv,IT,fs,R,M,sv,LI,fa,hj,h1,g,⟨rc,rfl⟩,h3,h4,h5,o⟩
  have hlr:=o.rest.len.1
  rw[aT,aT] at hlr
  have hod:=DG g o
  have hlen:(Tr.parted k W[j]).1.length≤L:=by omega
  have XW:rowAt k W[j].1 (((W.take j).foldl (Tr.bC k) ([],sp)).1,((W.take j).foldl (Tr.bC k) ([],sp)).2++(Tr.parted k W[j]).2) (Tr.parted k W[j]).1 L=(W.take (j+1)).foldl (Tr.bC k) ([],sp):=by
   have e1:rowAt k W[j].1 (((W.take j).foldl (Tr.bC k) ([],sp)).1,((W.take j).foldl (Tr.bC k) ([],sp)).2++(Tr.parted k W[j]).2) (Tr.parted k W[j]).1 L=rowAt k W[j].1 (((W.take j).foldl (Tr.bC k) ([],sp)).1,((W.take j).foldl (Tr.bC k) ([],sp)).2++(Tr.parted k W[j]).2) (Tr.parted k W[j]).1 (Tr.parted k W[j]).1.length:=by
    unfold rowAt
    rw[bZ hlen,bZ (af _)]
   rw[e1,zo,List.take_add_one,aJ hj,List.foldl_append]
   rfl
  rw[XW] at hod
  exact⟨j+1,by omega,h_++[i],f2,R,M,sv,LI,fa,by rw[aq,h1];rfl,by omega,hod⟩
end
section
variable {w:World} {p q sb tb:Nat} {m:NV}
theorem zA {P:Nat→Value→World→Prop} {PB:Nat→Value→Nat→World→Prop} {Q:Nat→Nat→Option Addr→Nat→Value→World→Prop} {at_ fr to rg ro NL cap:Nat} (h:Nd w q m) (hf:cj m.its≤510) (hs:(cj m.its:Int)<m.was)
  (c6:w.cell? ⟨p,6,none⟩=some (.int .i64 at_)) (c1:w.cell? ⟨p,1,none⟩=some (.slice (some ⟨rg,ro,none⟩) NL cap)) (hp:p<w.heap.size)
  (hfr:fr=at_-1) (hto:to=min (at_+2) NL) (hN:NL≤400) (hat:at_<NL) (OW:∀V,Below w.heap.size w V→P fr (.slice none 0 0) V) (hS:Steps p q sb tb fr to rg ro NL cap P PB Q)
  {G:World→Prop} {PF PG:Option Addr→Nat→Nat→World→Prop} (hE:Ends p fr to rg ro NL cap P G PF PG) (IB:NL≤cap):
  Calls Tryz.prog 87 #[ptr sb,ptr p,ptr q] w fun e w'=>e=.returned (.int .i64 0)∧G w':=by
 have HF:=aa (fun V (hV:Below w.heap.size w V)=>iF (h.still hV))
 have HS:=aa (fun V (hV:Below w.heap.size w V)=>gJ (h.still hV))
 have HW:=aa (fun V (hV:Below w.heap.size w V)=>(h.still hV).c5)
 rw[decide_eq_true hf] at HF
 have xk:¬(cj m.its:Int)≥m.was:=by omega
 have HB:=aa (Below.refl w.heap.size w)
 have HC:=aa (fun V (hV:Below w.heap.size w V)=>And.intro ((hV.cell (p:=⟨p,6,none⟩) hp).trans c6) ((hV.cell (p:=⟨p,1,none⟩) hp).trans c1))
 have HP:=aa OW
 have jO:=aa hS
 have J1:=aa hE
 have Cm:(NL:Int)≤cap:=by omega
 have Te:fr<to∧to≤NL:=by omega
 have HA:=aa (And.intro hfr (And.intro hto (And.intro hN (And.intro hat Te))))
 unfold ptr at HF HS
 have Rp:(NL:Int)≤400:=by omega
 have MZ:(at_:Int)<NL:=by omega
 have q1:IntKind.i64.wrap ((at_:Int)-1)=(at_:Int)-1:=by rw[IntKind.wrap_i64];omega
 have q2:IntKind.i64.wrap ((at_:Int)+2)=(at_:Int)+2:=by rw[IntKind.wrap_i64];omega
 have e1:max ((at_:Int)-1) 0=(fr:Int):=by omega
 have e2:min ((at_:Int)+2) (NL:Int)=(to:Int):=by omega
 clear h hf hs c6 c1 OW hfr hto hN hat hS Te hE IB
 go_enter Tryz.func87,Tryz.ntmps87
 unfold ptr
 go_wp2_with (refine wp_region_any (by kernel_rfl) ?_;refine Hid.o ?_)
 refine aa ?_
 try (change wpAny _ _ _ _ _ _ _ (bD _))
 refine tk 0 ?_
 refine rd [1] (rn fun K hK=> ?_)
 go_simp
 refine (HF.o _ ((Below.refl _ w).drew)).mono ?_;rintro e w1 ⟨rfl,bF⟩
 refine hK _ _ ?_;clear hK K
 have HB:=aa (((Below.refl w.heap.size w).drew).trans bF)
 have T_:=aa (HW.o w1 HB.o)
 have c5:=T_.o
 clear bF
 refine tk 2 ?_
 refine tk 3 ?_
 refine tk 5 ?_
 refine tk 6 ?_
 refine tk 7 ?_
 try simp only[Act.put,az,ay,au]
 refine rd [4,8] (AllReady.cons rfl (fun K hK=> ?_) (rn fun K hK=> ?_))
 focus
  go_simp
  refine (HS.o _ HB.o).mono ?_
  rintro e w4 ⟨rfl,hb4⟩
  have HB:=aa (HB.o.trans (hb4.mono HB.o.size))
  have T_:=aa (HW.o w4 HB.o)
  have c5:=T_.o
  clear hb4
  refine hK _ _ ?_;clear hK K
  refine rd [8] (rn fun K hK=> ?_)
  go_simp
  refine hK _ _ ?_;clear hK K
 rotate_left
 focus
  go_simp
  refine hK _ _ ?_;clear hK K
  refine rd [4] (rn fun K hK=> ?_)
  go_simp
  refine (HS.o _ HB.o).mono ?_
  rintro e w4 ⟨rfl,hb4⟩
  have HB:=aa (HB.o.trans (hb4.mono HB.o.size))
  have T_:=aa (HW.o w4 HB.o)
  have c5:=T_.o
  clear hb4
  refine hK _ _ ?_;clear hK K
 all_goals
  try simp only[Act.put,az,ay,au]
  refine tk 9 ?_
  refine tk 10 ?_
  refine wpAny_done (by kernel_rfl) ?_ _
  clear c5
  have c6:=(HC.o _ HB.o).1
  have c1:=(HC.o _ HB.o).2
  go_wp2_with (refine wp_region_held_drew (S:=(fun X=>X.cell? ⟨p,6,none⟩=some (.int .i64 at_)∧X.cell? ⟨p,1,none⟩=some (.slice (some ⟨rg,ro,none⟩) NL cap))) (by kernel_rfl) ?_ (fun hS=> ?_);focus skip;rotate_left;refine Hid.o ?_)
  refine aa ?_
  ·first|trivial|exact⟨c6,c1⟩
  refine aU 0 hS ?_
  refine aU 1 hS ?_
  refine aU 2 hS ?_
  refine aU 3 hS ?_
  refine aU 4 hS ?_
  refine aU 5 hS ?_
  refine aU 6 hS ?_
  refine aU 7 hS ?_
  refine aU 8 hS ?_
  refine aU 9 hS ?_
  refine aU 10 hS ?_
  refine aU 11 hS ?_
  refine aU 12 hS ?_
  refine aU 13 hS ?_
  refine aU 14 hS ?_
  refine aU 15 hS ?_
  refine aU 16 hS ?_
  refine aU 17 hS ?_
  refine aU 18 hS ?_
  refine wpAnyH_done (by kernel_rfl) ?_ _
  try simp only[Act.put,az,ay,au]
  have HB:=aa (HB.o.drew)
  clear c6 c1
  go_wp2_with fail
  go_loopw [9,10,11,12,14] (fun lv av _ _ _ wr=>∃a:Nat,fr≤a∧a≤to∧av=.int .i64 a∧Hid (P a lv wr)) (fun _ av _ _ _ _=>to-(RowKit.intOf av).toNat)
  case atStart=>exact⟨fr,af _,by have:=HA.o;omega,rfl,aa (HP.o _ HB.o)⟩
  case round=>
   obtain⟨a,hfa,hat,rfl,hP⟩:=hrel
   obtain⟨c0,c1⟩:=jO.o.cells a _ _ hP.o
   unfold ptr at c0
   by_cases hlt:a<to
   ·have hI:(a:Int)<to:=by omega
    have Vq:(a:Int)<NL:=by have:=HA.o;omega
    go_wp2_with fail
    refine (jO.o.below a _ _ hP.o hfa hlt).mono ?_
    rintro e w2 ⟨nq,rfl,WX⟩
    unfold ptr
    obtain⟨d1,it,hit,cG⟩:=jO.o.JZ a _ _ _ WX
    have a0:=hit.key
    have a1:=hit.val
    have a2:=hit.node
    clear c0 c1
    have mN:=aa cG
    clear cG
    go_wp2_with fail
    refine mN.o.mono ?_
    rintro e w3 ⟨L,ra,rc,rfl,hL,hQ⟩
    have Dl:(L:Int)≤1000:=by omega
    have WY:=aa hQ
    clear hQ d1 a0 a1 a2 hit
    go_wp2_with fail
    go_loopw [9,12,14,73] (fun lv _ _ jv wq=>∃j:Nat,j≤L∧jv=.int .i64 j∧Hid (Q a L ra j lv wq)) (fun _ _ _ jv _=>L-(RowKit.intOf jv).toNat)
    case atStart=>exact⟨0,aC _,rfl,WY⟩
    case round=>
     obtain⟨j,hj,rfl,hQ⟩:=hrel
     by_cases uL:j<L
     ·have LR:(j:Int)<L:=by omega
      obtain⟨g,i,rfl,hit,cG⟩:=jO.o.step a L _ j _ _ hQ.o uL
      have a0:=hit.key
      have a1:=hit.val
      have a2:=hit.node
      have mN:=aa cG
      clear cG
      rw[bV] at a0 a1 a2
      obtain⟨W1,jQ⟩:∃W1,W1=wr.alloc (.cells #[.string (bs i.key),.string (bs i.val),.pointer (pa i.node)] 122):=⟨_,rfl⟩
      obtain⟨ib,hib⟩:∃ib,ib=wr.heap.size:=⟨_,rfl⟩
      have k0:W1.cell? ⟨ib,0,none⟩=some (.string (bs i.key)):=by rw[jQ,hib];exact (aS.new wr _ _).cell rfl
      have k1:W1.cell? ⟨ib,1,none⟩=some (.string (bs i.val)):=by rw[jQ,hib];exact (aS.new wr _ _).cell rfl
      have k2:W1.cell? ⟨ib,2,none⟩=some (.pointer (pa i.node)):=by rw[jQ,hib];exact (aS.new wr _ _).cell rfl
      have hbW:Below wr.heap.size wr W1:=by rw[jQ];exact (Below.refl _ wr).alloc (af _) _
      have OX:=aa hbW
      clear hbW
      generalize pa i.node=nd at*
      generalize bs i.key=kb at*
      generalize bs i.val=vb at*
      go_wp2_with fail
      rw[←jQ,←hib]
      clear jQ hib a0 a1 a2 hit
      go_wp2_with fail
      refine (mN.o _ OX.o).mono ?_
      rintro e w4 ⟨lp,rfl,Tf⟩
      have WZ:=aa Tf
      clear Tf k0 k1 k2
      go_wp2_with fail
      go_roundw
      case rel=>exact⟨j+1,uL,by go_num,WZ⟩
      case measure=>simp[RowKit.intOf];omega
     ·obtain rfl:j=L:=by omega
      have LR:¬(j:Int)<j:=by omega
      have HD:=aa (jO.o.done a j ra _ _ hQ.o)
      go_wp2_with fail
      go_roundw
      case rel=>exact⟨a+1,by omega,hlt,by go_num,HD⟩
      case measure=>simp[RowKit.intOf];omega
   ·obtain rfl:a=to:=by omega
    have hI:¬(a:Int)<a:=by omega
    have Tc:(a:Int)≤cap:=by have:=HA.o;omega
    have hI4:(fr:Int)≤a:=by omega
    obtain⟨la,ln,lc,rfl,ES,cG⟩:=J1.o.eq _ _ hP.o
    have mN:=aa cG
    have Gj:(ln:Int)≤1000:=by omega
    clear cG
    go_wp2_with fail
    refine mN.o.mono ?_
    rintro e w5 ⟨b,rfl,bF,aP⟩
    cases b with
    |true=>
     have HG:=aa (bF rfl)
     clear bF aP
     go_wp2_with fail
     go_ret
     exact⟨rfl,HG.o⟩
    |false=>
     have Tg:=aa (aP rfl)
     clear bF aP c0 c1
     by_cases h0:ln=0
     ·subst h0
      have hz:¬((0:Nat):Int)>0:=by decide
      obtain⟨c1,cG⟩:=J1.o.new _ _ _ _ (J1.o.empty _ _ _ Tg.o)
      have FV:=aa cG
      clear cG
      go_wp2_with fail
      refine FV.o.mono ?_
      rintro e w6 ⟨va,vn,vc,rfl,⟨v1,k1⟩,⟨v7,k7⟩,f1,f7,hG⟩
      have HG:=aa hG
      clear hG
      go_wp2_with fail
      go_ret
      exact⟨rfl,HG.o⟩
     ·have hpos:0<ln:=by omega
      have hz:(ln:Int)>0:=by omega
      obtain⟨c1,g,kb,k0,rfl,r0,g0,fz,P5⟩:=J1.o.first _ _ _ _ Tg.o hpos
      obtain⟨X1,Gk⟩:∃X1,X1=w5.setCell ⟨g,0,none⟩ (.string kb):=⟨_,rfl⟩
      rw[←Gk] at P5
      have Gb:=aa Gk
      clear Gk
      have hI5:(fr:Int)<NL:=by have:=HA.o;omega
      go_wp2_with fail
      rw[←Gb.o]
      obtain⟨c1,cG⟩:=J1.o.new _ _ _ _ P5
      have FV:=aa cG
      clear cG P5 r0 g0 fz
      go_wp2_with fail
      refine FV.o.mono ?_
      rintro e w6 ⟨va,vn,vc,rfl,⟨v1,k1⟩,⟨v7,k7⟩,f1,f7,hG⟩
      have HG:=aa hG
      clear hG
      go_wp2_with fail
      go_ret
      exact⟨rfl,HG.o⟩
end
theorem GM (W:World) (d:Nat) (a b:Option Nat) (ha:∀p,a=some p→∃cur t,W.heap[p]?=some (.cells cur t (0,0))) (hb:∀p,b=some p→∃cur t,W.heap[p]?=some (.cells cur t (0,0))):
  (Op.equalIn (d+1) 118 (.pointer (pa a)) (.pointer (pa b))).run Tryz.prog W=.ok (decide (a=b)) W:=by
 have hu:Tryz.prog.underlying 118=some (.pointer 127):=Tryz.underlying118
 have hz:∀w:World,(sizeOf 127).run Tryz.prog w=.ok 8 w:=fun w=>by kernel_rfl
 cases a with
 |none=>cases b<;>simp[pa,Op.equalIn,run_underlying hu]
 |some a=>
  cases b with
  |none=>simp[pa,Op.equalIn,run_underlying hu]
  |some b=>
   obtain⟨ca,ta,hca⟩:=ha a rfl
   obtain⟨cb,tb,hcb⟩:=hb b rfl
   by_cases e:a=b
   ·subst e
    simp[pa,Op.equalIn,run_underlying hu,hz,run_sameAddr_same]
   ·have hne:(⟨a,0,none⟩:Addr)≠⟨b,0,none⟩:=by intro h;injection h with h;exact e h
    have hsa:=run_sameAddr_other (P:=Tryz.prog) (w:=W) hne hca hcb
    simp[pa,Op.equalIn,run_underlying hu,hz,hsa,e]
def zB (l m:List It) (w:World) (e:Ending) (w':World):Prop:=∃b,e=.returned (.bool b)∧(b=true↔l=m)∧Below w.heap.size w w'
def Bo (w:World) (l:List It):Prop:=∀i∈l,∀p,i.node=some p→∃cur t,w.heap[p]?=some (.cells cur t (0,0))
theorem Bo.below {w w':World} {l:List It} (h:Bo w l) (hb:Below w.heap.size w w'):Bo w' l:=fun i hi p hp=>by
 obtain⟨cur,t,hc⟩:=h i hi p hp
 exact⟨cur,t,by rw[hb.block p (iA.1 hc).1];exact hc⟩
theorem Bp (w:World) (g1 o1 c1 g2 o2 c2:Nat) (l m:List It) (h1:a_ aj w g1 o1 l) (h2:a_ aj w g2 o2 m) (hl:l.length≤400) (hm:m.length≤400) (hn1:Bo w l) (hn2:Bo w m):
  Calls Tryz.prog 133 #[.slice (some ⟨g1,o1,none⟩) l.length c1,.slice (some ⟨g2,o2,none⟩) m.length c2] w fun e w'=>zB l m w e w':=by
 have iY:(l.length:Int)≤400:=by omega
 have MU:(m.length:Int)≤400:=by omega
 by_cases hlm:l.length=m.length
 ·have HH:=aa (And.intro h1 (And.intro h2 hlm))
  have HN:=aa (And.intro hn1 hn2)
  rw[←hlm]
  clear h1 h2 hn1 hn2
  obtain⟨L,hL⟩:∃L,L=l.length:=⟨_,rfl⟩
  rw[←hL] at iY ⊢
  have HL:=aa hL
  clear hL
  go_enter Tryz.func133,Tryz.ntmps133
  go_wp2
  go_loopw [13] (fun iv wr=>∃j:Nat,j≤L∧iv=.int .i64 j∧Hid (l.take j=m.take j)∧Hid (Below w.heap.size w wr)) (fun iv _=>L-(RowKit.intOf iv).toNat)
  case atStart=>exact⟨0,aC _,rfl,aa rfl,aa (Below.refl _ _)⟩
  case round=>
   obtain⟨j,hj,rfl,hE,hB⟩:=hrel
   by_cases hlt:j<L
   ·have kX:(j:Int)<L:=by omega
    have hjl:j<l.length:=by rw[←HL.o];exact hlt
    have hjm:j<m.length:=by rw[←HH.o.2.2];exact hjl
    obtain⟨a0,a1,a2⟩:=aV (dZ HH.o.1 hB.o) j hjl
    obtain⟨b0,b1,b2⟩:=aV (dZ HH.o.2.1 hB.o) j hjm
    have HJ:=aa (show j<L∧l.take (j+1)=l.take j++[l[j]]∧m.take (j+1)=m.take j++[m[j]]∧(l[j]=m[j]∨l≠m) from⟨hlt,cI hjl,cI hjm,by
     by_cases h:l[j]=m[j]
     ·exact .inl h
     ·exact .inr (by rintro rfl;exact h rfl)⟩)
    have hN1:Bo wr.drew l:=HN.o.1.below hB.o.drew
    have hN2:Bo wr.drew m:=HN.o.2.below hB.o.drew
    have hq:(Op.equalIn 9999 118 (.pointer (pa l[j].node)) (.pointer (pa m[j].node))).run Tryz.prog wr.drew=.ok (decide (l[j].node=m[j].node)) wr.drew:=GM wr.drew 9998 _ _ (hN1 _ (bB hjl)) (hN2 _ (bB hjm))
    have hsame:(l[j].key=m[j].key∧l[j].val=m[j].val∧l[j].node=m[j].node)↔l[j]=m[j]:=by
     cases l[j];cases m[j]
     simp only[It.mk.injEq]
    generalize l[j]=x at*
    generalize m[j]=y at*
    clear hlt hj hjl hjm hN1 hN2
    by_cases hk:x.key=y.key
    ·have hkb:(bs x.key).toList=(bs y.key).toList:=by rw[hk]
     by_cases hv:x.val=y.val
     ·have EM:(bs x.val).toList=(bs y.val).toList:=by rw[hv]
      by_cases hn:x.node=y.node
      ·have hxy:x=y:=hsame.1 ⟨hk,hv,hn⟩
       have hdn:decide (x.node=y.node)=true:=decide_eq_true hn
       rw[hdn] at hq
       have Qq:=aa hxy
       clear hk hv hn hdn hsame hxy
       go_wp2_with fail
       go_wp2_with (refine wp_region_any (by kernel_rfl) ?_;refine Hid.o ?_)
       refine aa ?_
       try (change wpAny _ _ _ _ _ _ _ (bD _))
       refine tk 0 ?_
       refine tk 1 ?_
       refine tk 2 ?_
       refine tk 4 ?_
       refine tk 5 ?_
       refine tk 6 ?_
       try simp only[Act.put,az,ay,au]
       refine rd [3,7] (AllReady.cons rfl (fun K hK=> ?_) (rn fun K hK=> ?_))
       focus
        go_simp
        refine hK _ _ ?_;clear hK K
        refine rd [7] (rn fun K hK=> ?_)
        go_simp
        refine hK _ _ ?_;clear hK K
        refine rd [8] (rn fun K hK=> ?_)
        go_simp
        refine hK _ _ ?_;clear hK K
       rotate_left
       focus
        go_simp
        refine hK _ _ ?_;clear hK K
        refine rd [3] (rn fun K hK=> ?_)
        go_simp
        refine hK _ _ ?_;clear hK K
        refine rd [8] (rn fun K hK=> ?_)
        go_simp
        refine hK _ _ ?_;clear hK K
       all_goals
        refine wpAny_done (by kernel_rfl) ?_ _
        have WB:=aa (show l.take (j+1)=m.take (j+1) by rw[HJ.o.2.1,HJ.o.2.2.1,hE.o,Qq.o])
        have fC:=aa (show Below w.heap.size w wr.drew from hB.o.drew)
        go_wp2
        go_roundw
        case rel=>exact⟨j+1,HJ.o.1,by go_num,WB,fC⟩
        case measure=>have:=HJ.o.1;simp[RowKit.intOf];omega
      ·have hdn:decide (x.node=y.node)=false:=decide_eq_false hn
       rw[hdn] at hq
       have Qq:=aa (show ¬x=y from fun e=>hn (hsame.2 e).2.2)
       clear hk hv hn hdn hsame
       go_wp2_with fail
       go_wp2_with (refine wp_region_any (by kernel_rfl) ?_;refine Hid.o ?_)
       refine aa ?_
       try (change wpAny _ _ _ _ _ _ _ (bD _))
       refine tk 0 ?_
       refine tk 1 ?_
       refine tk 2 ?_
       refine tk 4 ?_
       refine tk 5 ?_
       refine tk 6 ?_
       try simp only[Act.put,az,ay,au]
       refine rd [3,7] (AllReady.cons rfl (fun K hK=> ?_) (rn fun K hK=> ?_))
       focus
        go_simp
        refine hK _ _ ?_;clear hK K
        refine rd [7] (rn fun K hK=> ?_)
        go_simp
        refine hK _ _ ?_;clear hK K
        refine rd [8] (rn fun K hK=> ?_)
        go_simp
        refine hK _ _ ?_;clear hK K
       rotate_left
       focus
        go_simp
        refine hK _ _ ?_;clear hK K
        refine rd [3] (rn fun K hK=> ?_)
        go_simp
        refine hK _ _ ?_;clear hK K
        refine rd [8] (rn fun K hK=> ?_)
        go_simp
        refine hK _ _ ?_;clear hK K
       all_goals
        refine wpAny_done (by kernel_rfl) ?_ _
        have fC:=aa (show zB l m w (.returned (.bool false)) wr.drew from⟨false,rfl,⟨fun h=>(by cases h),fun h=>absurd h (HJ.o.2.2.2.resolve_left Qq.o)⟩,hB.o.drew⟩)
        go_wp2
        go_ret
        exact fC.o
     ·have EM:¬(bs x.val).toList=(bs y.val).toList:=by rw[bE,bE];exact hv
      have Qq:=aa (show ¬x=y from fun e=>hv (hsame.2 e).2.1)
      clear hk hv hq hsame
      go_wp2_with fail
      go_wp2_with (refine wp_region_any (by kernel_rfl) ?_;refine Hid.o ?_)
      refine aa ?_
      try (change wpAny _ _ _ _ _ _ _ (bD _))
      refine tk 0 ?_
      refine tk 1 ?_
      refine tk 2 ?_
      refine tk 4 ?_
      refine tk 5 ?_
      refine tk 6 ?_
      try simp only[Act.put,az,ay,au]
      refine rd [3,7] (AllReady.cons rfl (fun K hK=> ?_) (rn fun K hK=> ?_))
      focus
       go_simp
       refine hK _ _ ?_;clear hK K
       refine rd [7] (rn fun K hK=> ?_)
       go_simp
       refine hK _ _ ?_;clear hK K
       refine rd [8] (rn fun K hK=> ?_)
       go_simp
       refine hK _ _ ?_;clear hK K
      rotate_left
      focus
       go_simp
       refine hK _ _ ?_;clear hK K
       refine rd [3] (rn fun K hK=> ?_)
       go_simp
       refine hK _ _ ?_;clear hK K
       refine rd [8] (rn fun K hK=> ?_)
       go_simp
       refine hK _ _ ?_;clear hK K
      all_goals
       refine wpAny_done (by kernel_rfl) ?_ _
       have fC:=aa (show zB l m w (.returned (.bool false)) wr.drew from⟨false,rfl,⟨fun h=>(by cases h),fun h=>absurd h (HJ.o.2.2.2.resolve_left Qq.o)⟩,hB.o.drew⟩)
       go_wp2
       go_ret
       exact fC.o
    ·have hkb:¬(bs x.key).toList=(bs y.key).toList:=by rw[bE,bE];exact hk
     have Qq:=aa (show ¬x=y from fun e=>hk (hsame.2 e).1)
     clear hk hq hsame
     go_wp2_with fail
     go_wp2_with (refine wp_region_any (by kernel_rfl) ?_;refine Hid.o ?_)
     refine aa ?_
     try (change wpAny _ _ _ _ _ _ _ (bD _))
     refine tk 0 ?_
     refine tk 1 ?_
     refine tk 2 ?_
     refine tk 4 ?_
     refine tk 5 ?_
     refine tk 6 ?_
     try simp only[Act.put,az,ay,au]
     refine rd [3,7] (AllReady.cons rfl (fun K hK=> ?_) (rn fun K hK=> ?_))
     focus
      go_simp
      refine hK _ _ ?_;clear hK K
      refine rd [7] (rn fun K hK=> ?_)
      go_simp
      refine hK _ _ ?_;clear hK K
      refine rd [8] (rn fun K hK=> ?_)
      go_simp
      refine hK _ _ ?_;clear hK K
     rotate_left
     focus
      go_simp
      refine hK _ _ ?_;clear hK K
      refine rd [3] (rn fun K hK=> ?_)
      go_simp
      refine hK _ _ ?_;clear hK K
      refine rd [8] (rn fun K hK=> ?_)
      go_simp
      refine hK _ _ ?_;clear hK K
     all_goals
      refine wpAny_done (by kernel_rfl) ?_ _
      have fC:=aa (show zB l m w (.returned (.bool false)) wr.drew from⟨false,rfl,⟨fun h=>(by cases h),fun h=>absurd h (HJ.o.2.2.2.resolve_left Qq.o)⟩,hB.o.drew⟩)
      go_wp2
      go_ret
      exact fC.o
   ·have kX:¬(j:Int)<L:=by omega
    have HF:=aa (show l=m by
     have:=hE.o
     rwa [bZ (by rw[←HL.o];omega),bZ (by rw[←HH.o.2.2,←HL.o];omega)] at this)
    clear hlt hj
    go_wp2
    go_ret
    exact (show zB l m w (.returned (.bool true)) wr from⟨true,rfl,⟨fun _=>HF.o,fun _=>rfl⟩,hB.o⟩)
 ·have hne:((l.length:Int)==m.length)=false:=by rw[beq_eq_false_iff_ne];omega
  go_enter Tryz.func133,Tryz.ntmps133
  go_wp2
  go_ret
  exact (show zB l m w (.returned (.bool false)) w from⟨false,rfl,⟨fun h=>(by cases h),fun h=>absurd (congrArg List.length h) hlm⟩,Below.refl _ _⟩)
theorem Bq (w:World) (a:Option Addr) (c1 g2 o2 c2:Nat) (l m:List It) (hl:l.length≤400) (hm:m.length≤400) (hlm:l.length≠m.length):
  Calls Tryz.prog 133 #[.slice a l.length c1,.slice (some ⟨g2,o2,none⟩) m.length c2] w fun e w'=>zB l m w e w':=by
 have iY:(l.length:Int)≤400:=by omega
 have MU:(m.length:Int)≤400:=by omega
 have hne:((l.length:Int)==m.length)=false:=by rw[beq_eq_false_iff_ne];omega
 go_enter Tryz.func133,Tryz.ntmps133
 go_wp2
 go_ret
 exact (show zB l m w (.returned (.bool false)) w from⟨false,rfl,⟨fun h=>(by cases h),fun h=>absurd (congrArg List.length h) hlm⟩,Below.refl _ _⟩)
theorem Kn {α:Type} {w0:It} {WI:List It} {W:List (Tr.Tx×α)} (h:(w0::WI).map It.key=W.map (·.1)):w0.key=Tr.b7 W:=by
 cases W with
 |nil=>cases h
 |cons x W=>exact (List.cons.inj h).1
theorem Br {X:World} {M:Nat→Option NV} {q:Nat} {y:NV} (h:Mem X M) (hq:M q=some y):∃cur t,X.heap[q]?=some (.cells cur t (0,0)):=⟨_,_,(h.nd q y hq).blk⟩
theorem aX.Ba {X:World} {M:Nat→Option NV} {pg:List (Option Wl.Text)} {k:Nat} (hm:Mem X M):∀{is:List It} {xs:List (Tr.Tx×Tr.E (k+1))} {fs:List (List Nat)},aX pg k (dx M pg k) is xs fs→Bo X is
 |[],[],[],_=>fun i hi=>by cases hi
 |i::is,x::xs,f::fs,h=>fun j hj q hq=>by
  rcases aQ.1 hj with rfl|hj
  ·rcases h.1.2.2 with⟨hn,_⟩|⟨q',lN,hr⟩
   ·grind
   ·rw[lN] at hq
    cases hq
    obtain⟨y,hy,-,-⟩:=hr.head
    exact Br hm hy
  ·exact aX.Ba hm h.2 j hj q hq
 |[],[],_::_,h=>h.elim
 |[],_::_,_,h=>h.elim
 |_::_,[],_,h=>h.elim
 |_::_,_::_,[],h=>h.elim
section
variable {E:Ev} {X0 Xs X X' V:World} {R0 Rs R R':Nat→Prop} {ps:List (Nat×List UInt8)} {pg:List (Option Wl.Text)} {rt:List Nat} {Ms M M':Nat→Option NV} {k p q sb:Nat} {n m:NV} {ga sv eC lv:Value} {h:Tr.Hd} {P A B N:List (Tr.Tx×Tr.E (k+1))} {kc:Tr.Tx} {c0 c:Tr.E (k+1)} {F:List Nat} {l0:List Int} {sp:List Nat}
def Ua (E:Ev) (X0:World) (R0:Nat→Prop) (ps:List (Nat×List UInt8)) (pg:List (Option Wl.Text)) (rt:List Nat) (Rs:Nat→Prop) (Ms:Nat→Option NV) (Xs:World) (sb:Nat) (ga:Value) (k p:Nat) (n:NV) (P N:List (Tr.Tx×Tr.E (k+1))) (F:List Nat) (l0:List Int) (st:List (Tr.Tx×Tr.E (k+1))×List Nat) (W:Nat) (la:Option Addr) (ln lc:Nat) (X:World):Prop:=
 ∃WI R M sv LI fa,ln=LI.length∧WI.length=W∧lF E X0 R0 ps pg rt Rs Ms Xs sb ga k p n (ak (k+1) P) (ak (k+1) N) F l0 st WI [] [] [] R M X sv (.slice la ln lc) LI fa
theorem pe {st:List (Tr.Tx×Tr.E (k+1))×List Nat} {I1 I2 WI LI:List It} {fa:List (List Nat)} (o:lF E X0 R0 ps pg rt Rs Ms Xs sb ga k p n I1 I2 F l0 st WI [] [] [] R M X sv lv LI fa):
  X.cell? ⟨p,1,none⟩=some (.slice (some ⟨n.rg,n.ro,none⟩) n.its.length n.cap)∧(I1++(WI++I2)).length=n.its.length∧a_ aj X n.rg n.ro (I1++(WI++I2)):=by
 have hks:=o.keys
 rw[dF] at hks
 have hlen:(I1++(WI++I2)).length=n.its.length:=by have:=congrArg List.length hks;rwa [aM,aM] at this
 have hat:=o.at_
 rw[dF] at hat
 have hnd:=o.row.row.ss.ts.mem.nd p _ hat
 have:=hnd.c1
 rw[←hlen]
 exact⟨this,rfl,hnd.row⟩
theorem Ko (s:Slot pg Ms k p q n m h (P++A) (B++N) kc c0 c F) (hA:A=[]→P=[]) (hB:B=[]→N=[]) (PA:A.length≤1) (Iy:B.length≤1):
  Ends p P.length (P.length+(A++(kc,c)::B).length) n.rg n.ro n.its.length n.cap
   (fun a lv X=>∃j,a=P.length+j∧Qp E X0 R0 ps pg rt Rs Ms Xs sb ga k p n P N (A++(kc,c)::B) (o_ k A B kc c0 q) F l0 sp j lv X)
   (fun X=>Bd E X0 R0 Rs ps pg rt Ms Xs sb ga l0 sp k p n h (P++((A++(kc,c)::B)++N)) (Tr.big k [(kc,c)]) F X)
   (fun la ln lc X=>Ua E X0 R0 ps pg rt Rs Ms Xs sb ga k p n P N F l0 ((A++(kc,c)::B).foldl (Tr.bC k) ([],sp)) (A++(kc,c)::B).length la ln lc X)
   (fun la ln lc X=>Ua E X0 R0 ps pg rt Rs Ms Xs sb ga k p n P N F l0 (Tr.bA (Tr.b7 (A++(kc,c)::B)) ((A++(kc,c)::B).foldl (Tr.bC k) ([],sp)).1,((A++(kc,c)::B).foldl (Tr.bC k) ([],sp)).2) (A++(kc,c)::B).length la ln lc X):=by
 have hW3:(A++(kc,c)::B).length≤3:=by rw[aq,aW];omega
 have lP:0<(A++(kc,c)::B).length:=by rw[aq,aW];omega
 have hfl:=(Tr.nR k (A++(kc,c)::B) ([],sp)).1
 have Ub:(ak (k+1) P).length=P.length:=aM _
 have hks:=s.O5
 rw[all_eq] at hks
 refine⟨?_, ?_, ?_, ?_⟩
 ·rintro lv X ⟨j,hj,h_,f2,R,M,sv,LI,fa,h1,h2,o⟩
  obtain rfl:j=(A++(kc,c)::B).length:=by omega
  rw[List.take_length,List.drop_length,List.drop_eq_nil_of_le (by rw[Bn (c:=c)];exact af _)] at o
  obtain⟨-,rfl⟩:=o.rest.tE
  obtain⟨la,lc,rfl,-⟩:=Own.slice o.row.row.own
  have Dl:=o.row.kids.len.1
  have aaP:LI.length≤6:=by simp only[List.length_nil] at hfl;omega
  refine⟨la,LI.length,lc,rfl,by omega, ?_⟩
  obtain⟨-,hlen,GL⟩:=pe o
  have hm:=o.row.row.ss.ts.mem
  have e:P.length+(A++(kc,c)::B).length-P.length=h_.length:=by omega
  rw[e]
  have cG:Calls Tryz.prog 133 #[.slice la LI.length lc,.slice (some ⟨n.rg,n.ro+P.length*3,none⟩) h_.length (n.cap-P.length)] X fun e w'=>zB LI h_ X e w':=by
   by_cases hl:LI.length=h_.length
   ·obtain⟨g,c',hv,-,-,-⟩:=Own.form o.row.row.own (by omega)
    have hla:la=some ⟨g,0,none⟩:=by injection hv
    subst hla
    have hpart:=a_.part GL P.length h_.length (by rw[aq,Ub];omega)
    rw[←Ub,List.drop_left,fF,Ub] at hpart
    refine Bp X g 0 lc n.rg (n.ro+P.length*3) (n.cap-P.length) LI h_ (Own.lies o.row.row.own) hpart (by omega) (by omega) (aX.Ba hm o.row.kids) (fun i hi q hq=> ?_)
    obtain⟨y,hy⟩:=o.Ba i hi q hq
    exact Br hm hy
   ·grind [Bq,LI]
  refine cG.mono ?_
  rintro e X' ⟨b,rfl,hb,hbel⟩
  refine⟨b,rfl,fun ht=> ?_,fun _=>⟨h_,R,M,sv,LI,fa,rfl,h1,kj o hbel⟩⟩
  obtain rfl:=hb.1 ht
  exact Kk s hA hB (kj o hbel)
 ·rintro la lc X ⟨WI,R,M,sv,LI,fa,hl,hw,o⟩
  have Dl:LI=[]:=ef.1 hl.symm
  subst Dl
  have hst:((A++(kc,c)::B).foldl (Tr.bC k) ([],sp)).1=[]:=ef.1 o.row.kids.len.1.symm
  refine⟨WI,R,M,sv,[],fa,hl,hw, ?_⟩
  have e:(Tr.bA (Tr.b7 (A++(kc,c)::B)) ((A++(kc,c)::B).foldl (Tr.bC k) ([],sp)).1,((A++(kc,c)::B).foldl (Tr.bC k) ([],sp)).2)=(A++(kc,c)::B).foldl (Tr.bC k) ([],sp):=by
   rw[hst]
   exact Prod.ext hst.symm rfl
  rw[e]
  exact o
 ·rintro la ln lc X ⟨WI,R,M,sv,LI,fa,rfl,hw,o⟩ hpos
  obtain⟨hc,hlen,GL⟩:=pe o
  refine⟨hc, ?_⟩
  obtain⟨g,c',hv,-,ER,-⟩:=Own.form o.row.row.own hpos
  have hla:la=some ⟨g,0,none⟩:=by injection hv
  subst hla
  cases LI with
  |nil=>cases hpos
  |cons i LI=>
   have hwk:=vm o hks
   have hidx:P.length<(ak (k+1) P++(WI++ak (k+1) N)).length:=by rw[aq,aq,Ub];omega
   have hit:=uK.of GL hidx
   have hkey:((ak (k+1) P++(WI++ak (k+1) N))[P.length]'hidx).key=Tr.b7 (A++(kc,c)::B):=by
    have e1:(ak (k+1) P++(WI++ak (k+1) N))[P.length]'hidx=WI[0]'(by omega):=by
     grind
    rw[e1]
    cases WI with
    |nil=>simp at hw
    |cons w0 WI=>exact Kn hwk
   have AK:=Own.lies o.row.row.own
   refine⟨g,bs (Tr.b7 (A++(kc,c)::B)),bs i.key,rfl, ?_, ?_,Own.frozen o.row.row.own 0, ?_⟩
   ·rw[←hkey];exact hit.key
   ·have:=(aV AK 0 (by simp)).1
    simpa using this
   ·obtain⟨R',o'⟩:=GI o (Tr.b7 (A++(kc,c)::B)) rfl rfl
    exact⟨WI,R',M,sv,{i with key:=Tr.b7 (A++(kc,c)::B)}::LI,fa,rfl,hw,o'⟩
 ·rintro la ln lc X ⟨WI,R,M,sv,LI,fa,rfl,hw,o⟩
  obtain⟨hc,hlen,GL⟩:=pe o
  refine⟨hc, ?_⟩
  have hm:=o.row.row.ss.ts.mem
  have hat:=o.at_
  have hown:=hm.own p _ hat s.own
  have hro:n.ro=0:=hown.1
  have Uc:aR 0 X (.slice (some ⟨n.rg,0,none⟩) (ak (k+1) P++(WI++ak (k+1) N)).length n.cap) (ak (k+1) P++(WI++ak (k+1) N)):=hown.2
  have hnd:=hm.nd p _ hat
  have Ap:(ak (k+1) P++(WI++ak (k+1) N)).length≤400:=hnd.small.len
  have Dl:=o.row.kids.len.1
  have xj:∀(x:Tr.Tx) (l:List (Tr.Tx×Tr.E (k+1))),(Tr.bA x l).length=l.length:=fun x l=>by cases l<;>rfl
  rw[xj] at Dl
  have PM:LI.length≤400:=by simp only[List.length_nil] at hfl;omega
  rw[hro,←hlen]
  refine (Bh Uc (aC _) Ap (Own.mono o.row.row.own (aC _)) (fun b hb=>fun e=> ?_) PM (i:=P.length) (j:=P.length+(A++(kc,c)::B).length) (by omega) (by
   have h1:(ak (k+1) P++(WI++ak (k+1) N)).length=P.length+(WI.length+(ak (k+1) N).length):=by rw[aq,aq,Ub]
   omega)).mono ?_
  ·exact (o.row.row.O2 b hb).2.1 ⟨p,_,hat,.inr e⟩
  ·rintro e X' ⟨v',rfl,Kg,ID,Ud,RG⟩
   have fA:(ak (k+1) P++(WI++ak (k+1) N)).take P.length++LI++(ak (k+1) P++(WI++ak (k+1) N)).drop (P.length+(A++(kc,c)::B).length)=ak (k+1) P++(LI++ak (k+1) N):=by
    grind [fF,aq,aB,ak,List.drop_left]
   rw[fA] at Kg
   have M0:p≠n.rg:=fun e=>hm.Dg hat hat e.symm
   have hnb:¬(Value.slice (some ⟨n.rg,0,none⟩) (ak (k+1) P++(WI++ak (k+1) N)).length n.cap).ownBlock=some p:=fun e=>M0 (Option.some.inj e).symm
   have hblk:=hnd.blk.but ID hnb
   obtain⟨a,cc,hv,-⟩:=Own.slice Kg
   subst hv
   refine⟨a,_,cc,rfl,⟨_,hblk.cell (j:=1) rfl⟩,⟨_,hblk.cell (j:=7) rfl⟩,hblk.frozen 1,hblk.frozen 7, ?_⟩
   exact Nx s hA hB o Kg ID Ud (RG rfl) rfl
theorem sX (s:Slot pg M k p q n m h A B kc c0 c F) (hs:SS E X0 R0 R ps pg rt M X sb sv (l0++gy sp)) (hk:k≤15) (hl:l0.length+sp.length≤50000):
  Calls Tryz.prog 87 #[ptr sb,ptr p,ptr q] X fun e X'=>e=.returned (.int .i64 0)∧Bd E X0 R0 R ps pg rt M X sb sv l0 sp k p n h (A++(kc,c)::B) (Tr.big k [(kc,c)]) F X':=by
 have hq:=hs.ts.mem.nd q m s.kI
 have hp:=hs.ts.mem.nd p n s.at_
 have hz:=(s.xQ.sz s.kI).1
 by_cases hquiet:Tr.sz k (Tr.its c)≤510∧Tr.sz k (Tr.its c0)≤Tr.sz k (Tr.its c)
 ·refine (zq (sb:=sb) (p:=p) hq (by rw[hz];exact hquiet.1) (by rw[s.was,hz];exact_mod_cast hquiet.2)).mono ?_
  rintro e X' ⟨rfl,hb⟩
  exact⟨rfl,GG s hs hquiet.1 hquiet.2 hb⟩
 ·obtain⟨P,A',rfl,PA,hA⟩:∃P A',A=P++A'∧A'.length≤1∧(A'=[]→P=[]):=by
   by_cases e:A=[]
   ·exact⟨[],[],e,aC _,fun _=>rfl⟩
   ·obtain⟨P,a,rfl⟩:=Tr.dA e
    exact⟨P,[a],rfl,af _,fun e=>by cases e⟩
  obtain⟨B',N,rfl,Iy,hB⟩:∃B' N,B=B'++N∧B'.length≤1∧(B'=[]→N=[]):=by
   cases B with
   |nil=>exact⟨[],[],rfl,aC _,fun _=>rfl⟩
   |cons b B=>exact⟨[b],B,rfl,af _,fun e=>by cases e⟩
  have Gx:=(mw s hA hB sp).2
  have hst:=GK (E:=E) (X0:=X0) (Xs:=X) (R0:=R0) (Rs:=R) (ps:=ps) (rt:=rt) (ga:=sv) (sb:=sb) s PA Iy hk hl Gx
  have hen:=Ko (E:=E) (X0:=X0) (Xs:=X) (R0:=R0) (Rs:=R) (ps:=ps) (rt:=rt) (ga:=sv) (sb:=sb) (l0:=l0) (sp:=sp) s hA hB PA Iy
  have hlen:n.its.length=P.length+(A'.length+1+(B'.length+N.length)):=by
   rw[s.its,aq,aW]
   unfold ak
   rw[aM,aM,aq,aq]
   omega
  have hlW:(A'++(kc,c)::B').length=A'.length+1+B'.length:=by rw[aq,aW];omega
  have hAP:A'.length=0→P.length=0:=fun e=>by rw[hA (ef.1 e)];rfl
  have hBN:B'.length=0→N.length=0:=fun e=>by rw[hB (ef.1 e)];rfl
  have hidx:n.at_=((P.length+A'.length:Nat):Int):=by rw[s.idx,aq]
  have c6:=hp.c6
  rw[hidx] at c6
  have xj:=hp.small.len
  have sC:=cD.1 s.nd
  have OW:∀V,Below X.heap.size X V→∃j,P.length=P.length+j∧Qp E X0 R0 ps pg rt R M X sb sv k p n P N (A'++(kc,c)::B') (o_ k A' B' kc c0 q) F l0 sp j (.slice none 0 0) V:=by
   intro V hV
   refine⟨0,rfl,[],(A'.map fun _=>[])++F::B'.map (fun _=>[]),R,M,sv,[],[],rfl,aC _, ?_⟩
   have Ue:((A'.map fun _=>[])++F::B'.map (fun _=>[])).flatten=F:=by
    rw[dm,gZ,cU,gZ,bh,dF]
   have hsi:n.its=ak (k+1) P++([]++(o_ k A' B' kc c0 q++ak (k+1) N)):=by
    rw[s.its,dh,dh]
    unfold o_
    simp
   refine⟨⟨⟨hs.ts.but.size,hs.still hV,lQ.still hV,Own.nil _ _ _ _,fun b hb=>by cases hb⟩,trivial,fun i hi=>(by cases hi),List.nodup_nil⟩, ?_, ?_, ?_, ?_,fun r hr=> ?_,fun r y _ hy=>hy,fun r y hy=>(hs.ts.mem.lt hy).1,fun i hi=>(by cases hi)⟩
   ·rw[List.drop_zero,←hsi]
    exact s.at_
   ·rw[List.drop_zero,←hsi]
   ·rw[List.drop_zero,List.drop_zero]
    exact (gM fun x hx=>s.sides x (.inl (ah.2 (.inr hx)))).append ⟨⟨rfl,rfl,.inr ⟨q,rfl,s.xQ⟩⟩,gM fun x hx=>s.sides x (.inr (ah.2 (.inl hx)))⟩
   ·rw[Ue];exact s.nd
   ·rw[Ue] at hr;exact .inl hr
  have hall:=all_eq P A' B' N kc c
  rw[hall]
  by_cases hf:cj m.its≤510
  ·refine zA hq hf (by rw[s.was,hz];have:¬Tr.sz k (Tr.its c0)≤Tr.sz k (Tr.its c):=fun e=>hquiet ⟨by omega,e⟩;omega) c6 hp.c1 hp.blk.lt (by omega) (by omega) xj (by omega) OW hst hen hp.small.cap.1
  ·exact AU hq hf c6 hp.c1 hp.blk.lt (by omega) (by omega) xj (by omega) OW hst hen hp.small.cap.1
end
inductive ia (M:Nat→Option NV) (pg:List (Option Wl.Text)):(k q:Nat)→(lo hi:List UInt8)→(c0:Tr.E (k+1))→(K:Nat)→(T:Tr.E (K+1))→(ps:List Nat)→(pre post:List (Tr.Tx×Tr.Tx))→(out:List Nat)→Prop
 |top {k q:Nat} {c0:Tr.E (k+1)}:ia M pg k q [] [] c0 k c0 [] [] [] []
 |up {k p q:Nat} {n:NV} {h:Tr.Hd} {A B:List (Tr.Tx×Tr.E (k+1))} {kc:Tr.Tx} {c0:Tr.E (k+1)} {K:Nat} {T:Tr.E (K+1)} {ps:List Nat} {pre post:List (Tr.Tx×Tr.Tx)} {out:List Nat} (hat:M p=some n) (fA:n.its=ak (k+1) A++⟨kc,dS (k+1) c0,some q⟩::ak (k+1) B) (jI:∀x,x∈A∨x∈B→cK pg (k+1) x.2) (hown:n.own=true)
   (mI:jU pg (k+1) n (Tr.mk h (A++(kc,c0)::B))) (hidx:n.at_=A.length) (Kq:n.was=Tr.sz (k+1) (A++(kc,c0)::B)) (hfit:Tr.sz (k+1) (A++(kc,c0)::B)≤510) (hfresh:h.fresh=false) (hu:ia M pg (k+1) p n.lo n.hi (Tr.mk h (A++(kc,c0)::B)) K T ps pre post out):
   ia M pg k q (eF n A.length) (dW n A.length) c0 K T (p::ps) (pre++Tr.ct (k+1) A) (Tr.ct (k+1) B++post) (h.page.toList++(Tr.dI (k+1) A++Tr.dI (k+1) B)++out)
section
variable {M M':Nat→Option NV} {pg:List (Option Wl.Text)} {k q K:Nat} {lo hi:List UInt8} {c0:Tr.E (k+1)} {T:Tr.E (K+1)} {ps:List Nat} {pre post:List (Tr.Tx×Tr.Tx)} {out:List Nat}
theorem ia.frame (h:ia M pg k q lo hi c0 K T ps pre post out) (hM:∀r∈ps,M' r=M r):ia M' pg k q lo hi c0 K T ps pre post out:=by
 induction h with
 |top=>exact .top
 |up hat fA jI hown mI hidx Kq hfit hfresh hu ih=>exact .up (by rw[hM _ aA];exact hat) fA jI hown mI hidx Kq hfit hfresh (ih fun r hr=>hM r (aF _ hr))
theorem ia.level (h:ia M pg k q lo hi c0 K T ps pre post out):k+ps.length=K:=by
 induction h with
 |top=>rfl
 |up _ _ _ _ _ _ _ _ _ _ ih=>rw[aW];omega
theorem ia.dom (h:ia M pg k q lo hi c0 K T ps pre post out):∀r∈ps,∃n,M r=some n:=by
 induction h with
 |top=>intro r hr;cases hr
 |up hat _ _ _ _ _ _ _ _ _ ih=>
  intro r hr
  rcases aQ.1 hr with rfl|hr
  ·exact⟨_,hat⟩
  ·exact ih r hr
theorem ia.ct (h:ia M pg k q lo hi c0 K T ps pre post out):Tr.ct K (Tr.its T)=pre++Tr.ct k (Tr.its c0)++post:=by
 induction h with
 |top=>simp
 |up _ _ _ _ _ _ _ _ _ _ ih=>
  rw[ih,Tr.its_mk,Tr.bJ,show ∀(x:Tr.Tx×Tr.E _) l,x::l=[x]++l from fun _ _=>rfl,Tr.bJ,Tr.dK]
  simp only[aB]
theorem ia.b8 (h:ia M pg k q lo hi c0 K T ps pre post out):(out++Tr.b8 (k+1) c0).Perm (Tr.b8 (K+1) T):=by
 induction h with
 |top=>exact List.Perm.refl _
 |@up k p q n h A B kc c0 K T ps pre post out hat fA jI hown mI hidx Kq hfit hfresh hu ih=>
  refine List.Perm.trans ?_ ih
  show (h.page.toList++(Tr.dI (k+1) A++Tr.dI (k+1) B)++out++Tr.b8 (k+1) c0).Perm (out++(h.page.toList++Tr.dI (k+1) (A++(kc,c0)::B)))
  rw[Tr.bK,Tr.fI]
  show (h.page.toList++(Tr.dI (k+1) A++Tr.dI (k+1) B)++out++Tr.b8 (k+1) c0).Perm (out++(h.page.toList++(Tr.dI (k+1) A++(Tr.b8 (k+1) c0++Tr.dI (k+1) B))))
  rw[List.perm_iff_count]
  intro a
  simp only[List.count_append]
  omega
end
end
end Go.Proofs.YtebbahjombdalaaGreatDoor
