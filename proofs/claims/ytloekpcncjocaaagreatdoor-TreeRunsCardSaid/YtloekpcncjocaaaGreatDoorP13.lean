/- Elder texts, cut down and merged (13). -/
import Derived.Test.YtloekpcncjocaaaGreatDoorP12
import Derived.Test.YtloekpcncjocaaaGreatDoorP8
import Derived.Test.YtloekpcncjocaaaGreatDoorP7
import Derived.LaidEql
import Derived.Laws.StructEq
import Derived.BigRegion
import Derived.BigQuiet
import Derived.Test.YtloekpcncjocaaaGreatDoorPTk
set_option maxRecDepth 100000
set_option maxHeartbeats 8000000
namespace Go.Proofs.YtloekpcncjocaaaGreatDoor
open Go.RowKit Lib
section
variable {w:World} {B:Nat} {l ms:List It} {va:Option Addr} {mc:Nat}
theorem xU {g cap i j m:Nat} (h:aD B w (.slice (some ⟨g,0,none⟩) l.length cap) l) (hl:l.length≤400) (hm:m=ms.length) {vr vo:Nat} (hv:aJ ah w vr vo ms∧vr<w.heap.size) (hij:j<i+m) (hi:i<j) (hj:j<l.length) (MA:cap<i+m+(l.length-j)) (hB:B≤w.heap.size) (hml:m≤400):
  Calls Tryz.prog 100 #[.slice (some ⟨g,0,none⟩) l.length cap,.int .i64 i,.int .i64 j,.slice (some ⟨vr,vo,none⟩) m mc] w fun e w'=>ed B w (.slice (some ⟨g,0,none⟩) l.length cap) (l.take i++ms++l.drop j) e w':=by
 obtain⟨R,hg,yF,-,pZ,hcm,hBg⟩:=gT h
 have HH:=aa (And.intro h (And.intro hg (And.intro yF (And.intro hcm hBg))))
 have HV:=aa hv
 have HN:=aa (show j<i+m∧j<l.length∧l.length≤cap∧m=ms.length∧i<j∧cap<i+m+(l.length-j) from⟨hij,hj,pZ,hm,hi,MA⟩)
 obtain⟨L,hL⟩:∃L,L=l.length:=⟨_,rfl⟩
 rw[←hL] at hl hj pZ MA ⊢
 have HL:=aa hL
 have gz:(L:Int)≤400:=by omega
 have Q5:(i:Int)≤j:=by omega
 have Gi:(i:Int)≤L:=by omega
 have DY:(j:Int)≤L:=by omega
 have Q6:(j:Int)<L:=by omega
 have hne:((i:Int)==j)=false:=by rw[beq_eq_false_iff_ne];omega
 have Q7:((j:Int)==L)=false:=by rw[beq_eq_false_iff_ne];omega
 have vB:(L:Int)≤cap:=by omega
 have KE:¬cap=i:=by omega
 have S5:¬cap=j:=by omega
 have Ky:(m:Int)≤400:=by omega
 have Yw:(i:Int)+m+(L-j)>cap:=by omega
 have Yx:(0:Int)≤(i:Int)+m+(L-j):=by omega
 have Q8:¬(i:Int)+m≤j:=by omega
 have Yy:(i:Int)≤(i:Int)+m+(L-j):=by omega
 have SM:(0:Int)≤(i:Int)+m:=by omega
 have Yz:(i:Int)+m≤(i:Int)+m+((L-j:Nat):Int):=by omega
 have iw:IntKind.i64.wrap ((i:Int)+m)=(i:Int)+m:=by
  have:=bQ (i+m) (by omega)
  rwa [show ((i+m:Nat):Int)=(i:Int)+m by omega] at this
 have Qk:((i:Int)+m).toNat=i+m:=by omega
 obtain⟨Mi,H_⟩:∃Mi,Mi=ah.cells ((l.drop i).take (j-i)):=⟨_,rfl⟩
 have hmid:ah.cells l++R=ah.cells (l.take i)++(Mi++(ah.cells (l.drop j)++R)):=by
  rw[cz l i,cz (l.drop i) (j-i),←H_,List.drop_drop,show i+(j-i)=j by omega]
  simp only[List.append_assoc]
 have HC:=aa (show w.drew.heap[g]?=some (.cells (ah.cells (l.take i)++(Mi++(ah.cells (l.drop j)++R))).toArray 95 (0,0))∧(ah.cells (l.take i)).length=i*3∧Mi.length=(j-i)*3∧(ah.cells (l.drop j)).length=(L-j)*3∧cap≤maxLen∧(ah.cells (l.take i)++(Mi++(ah.cells (l.drop j)++R))).length=cap*3 from
  ⟨by rw[←hmid];exact hg,by rw[aU,List.length_take,Nat.min_eq_left (by omega)],by rw[H_,aU,List.length_take,List.length_drop,Nat.min_eq_left (by omega)],by rw[aU,List.length_drop,hL],hcm,by rw[←hmid];exact yF⟩)
 have rF:g<w.heap.size:=(Array.getElem?_eq_some_iff.1 hg).1
 have hX:(ah.cells (l.take i)).length=i*3:=HC.out.2.1
 have hlies:=Own.lies h
 have hx:∀k u,(ah.cells (l.take i))[k]?=some u→w.drew.cell? ⟨g,k,none⟩=some u:=by
  intro k u hu
  have:=hlies k u (by rw[cz l i,List.getElem?_append_left (List.getElem?_eq_some_iff.1 hu).1];exact hu)
  rw[Nat.zero_add] at this
  exact this
 have KF:aJ ah w g (j*3) (l.drop j):=by
  have:=hlies.part j (l.length-j) (by omega)
  rw[Nat.zero_add,List.take_of_length_le (by rw[List.length_drop];exact Nat.le_refl _)] at this
  exact this
 have HG:=aa (And.intro KF (And.intro rF hB))
 obtain⟨c,Z,hrun,D1,Jv,YC⟩:=oO w.drew g i cap (m+(L-j)) _ hX hx (by omega) (by omega) (by omega) 86
 rw[show i+(m+(L-j))=i+m+(L-j) by omega] at hrun D1
 have pH:((m+(L-j):Nat):Int)=(i:Int)+m+((L-j:Nat):Int)-i:=by omega
 rw[pH] at hrun
 have HR:=aa hrun
 have HZ:=aa (And.intro D1 (And.intro Jv YC))
 clear rF hX hlies hx KF hrun D1 Jv YC pH hB
 clear h hg yF hcm hBg hv hm hij hi hj hL H_ hmid MA hml
 go_enter Tryz.func100,Tryz.ntmps100
 go_wp2_with fail
 go_region
 go_wp2_with (at_builtin;refine Hid.out ?_)
 refine aa ?_
 refine Lib.wpList_append_run _ rfl _ _ _ _ rfl _ _ rfl rfl _ _ HR.out ?_
 obtain⟨w1,hw1⟩:∃w1,w1=w.drew.drew.alloc (.cells (ah.cells (l.take i)++Z).toArray 95):=⟨_,rfl⟩
 obtain⟨g2,cP⟩:∃g2,g2=w.drew.heap.size:=⟨_,rfl⟩
 have aQ:Below w.heap.size w w1:=by rw[hw1];exact (Below.refl _ w).drew.drew.alloc (Nat.le_refl _) _
 have hc1:w1.heap[g2]?=some (.cells (ah.cells (l.take i)++Z).toArray 95 (0,0)):=by rw[hw1,cP];exact heap_alloc_new w.drew.drew _
 have sC:=aa (show Below w.heap.size w w1∧w1.heap[g2]?=some (.cells (ah.cells (l.take i)++Z).toArray 95 (0,0))∧aJ ah w1 vr vo ms∧aJ ah w1 g (j*3) (l.drop j)∧g2=w.heap.size∧w.heap.size≤w1.heap.size from⟨aQ,hc1,HV.out.1.below aQ HV.out.2,HG.out.1.below aQ HG.out.2.1,cP,aQ.size⟩)
 rw[←hw1,←cP]
 clear hw1 cP aQ hc1
 have KE:¬c=i:=by have:=HZ.out.1;have:=HN.out;omega
 have Q9:¬c=i+m:=by have:=HZ.out.1;have:=HN.out;have:=HL.out;omega
 go_wp2_with (refine cW rfl _ _ rfl _ _ _ _ _ _ rfl rfl g2 (i*3) _ sC.out.2.1 ms (by rw[←HN.out.2.2.2.1];exact (Nat.min_eq_left (by omega)).symm) (fun h0=>⟨rfl,vr,vo,rfl,sC.out.2.2.1⟩) (by rw[HZ.out.2.2,←HN.out.2.2.2.1];have:=HZ.out.1;omega) ?_;intro w2 cP aC;refine Hid.out ?_)
 refine aa ?_
 have hml:(ah.cells ms).length=m*3:=by rw[aU,HN.out.2.2.2.1]
 rw[←HC.out.2.1,dG rfl,hml] at cP
 obtain⟨Z1,Nw⟩:∃Z1,Z1=Z.drop (m*3):=⟨_,rfl⟩
 rw[←Nw,←List.append_assoc] at cP
 have hp2:(ah.cells (l.take i)++ah.cells ms).length=(i+m)*3:=by rw[List.length_append,HC.out.2.1,hml];omega
 have Qm:Z1.length+(i+m)*3=c*3:=by
  have h1:=HZ.out.2.2
  rw[List.length_append,HC.out.2.1] at h1
  rw[Nw,List.length_drop]
  have:=HZ.out.1
  omega
 have NT:∀k,k<w.heap.size→¬k=g2:=fun k hk e=>by have:=sC.out.2.2.2.2.1;omega
 have H2:=aa (show w2.heap[g2]?=some (.cells (ah.cells (l.take i)++ah.cells ms++Z1).toArray 95 (0,0))∧Below w.heap.size w w2∧aJ ah w2 g (j*3) (l.drop j)∧(ah.cells (l.take i)++ah.cells ms).length=(i+m)*3∧Z1.length+(i+m)*3=c*3 from
  ⟨cP,sC.out.1.trans (aC.below sC.out.2.2.2.2.2 NT),sC.out.2.2.2.1.but aC (NT g HG.out.2.1),hp2,Qm⟩)
 clear cP aC hml Nw hp2 Qm NT
 go_wp2_with fail
 go_wp2_with (refine wp_region_any (by kernel_rfl) ?_;refine Hid.out ?_)
 refine aa ?_
 try (change wpAny _ _ _ _ _ _ _ (World.drew _))
 refine tk 0 ?_
 refine tk 1 ?_
 refine tk 2 ?_
 refine tk 3 ?_
 refine tk 4 ?_
 refine tk 5 ?_
 refine tk 6 ?_
 refine tk 7 ?_
 refine tk 8 ?_
 try simp only[Act.put,List.setIfInBounds_toArray,List.set_cons_succ,List.set_cons_zero]
 refine rd [9] (rn fun K hK=> ?_)
 refine dF _ _ rfl _ _ _ _ _ _ rfl rfl g2 ((i+m)*3) _ H2.out.1 (l.drop j) (by rw[List.length_drop,←HL.out];exact (Nat.min_self _).symm) (fun _=>⟨rfl,g,j*3,rfl,H2.out.2.2.1⟩) (by rw[List.length_append,H2.out.2.2.2.1,List.length_drop,←HL.out];have:=HZ.out.1;have:=H2.out.2.2.2.2;omega) ?_;intro w3 yE cC
 refine hK _ _ ?_;clear hK K
 refine wpAny_done (by kernel_rfl) ?_ _
 rw[←H2.out.2.2.2.1,dG rfl] at yE
 obtain⟨R2,wm⟩:∃R2,R2=Z1.drop (ah.cells (l.drop j)).length:=⟨_,rfl⟩
 rw[←wm] at yE
 have hcs:ah.cells (l.take i++ms++l.drop j)++R2=ah.cells (l.take i)++ah.cells ms++(ah.cells (l.drop j)++R2):=by
  rw[Elem.bh,Elem.bh]
  simp only[List.append_assoc]
 have HE:=aa (show ed B w (.slice (some ⟨g,0,none⟩) L cap) (l.take i++ms++l.drop j) (.returned (.slice (some ⟨g2,0,none⟩) (i+m+(L-j)) c)) w3 from by
  have hb4:Below w.heap.size w w3:=H2.out.2.1.drew.trans (cC.below H2.out.2.1.size (fun k hk e=>by have:=sC.out.2.2.2.2.1;omega))
  refine⟨_,rfl,dy (R:=R2) (by rw[hcs];exact yE) ?_ ?_ HZ.out.1 HZ.out.2.1 (by rw[sC.out.2.2.2.2.1];exact HG.out.2.2),aj.aq hb4 _,.inr fun k hk=> ?_,fun _=>rfl⟩
  ·rw[hcs,List.length_append,H2.out.2.2.2.1,List.length_append,wm,List.length_drop,HC.out.2.2.2.1]
   have:=HZ.out.1
   have:=H2.out.2.2.2.2
   omega
  ·rw[List.length_append,List.length_append,List.length_take,List.length_drop];have:=HN.out;have:=HL.out;omega
  ·have e:some g2=some k:=hk
   injection e with e
   have:=sC.out.2.2.2.2.1
   omega)
 clear yE cC wm hcs
 go_wp2_with fail
 go_ret
 exact HE.out
end
section
variable {w:World} {B:Nat} {l ms:List It} {va:Option Addr} {mc:Nat}
theorem xV {g cap i j m:Nat} (h:aD B w (.slice (some ⟨g,0,none⟩) l.length cap) l) (hl:l.length≤400) (hm:m=ms.length) {vr vo:Nat} (hv:aJ ah w vr vo ms∧vr≠g∧∃cur,w.heap[vr]?=some (.cells cur 95 (0,0))∧cur.size≠0) (hij:j<i+m) (hi:i<j) (hj:j<l.length) (MA:i+m+(l.length-j)≤cap) (hml:m≤400):
  Calls Tryz.prog 100 #[.slice (some ⟨g,0,none⟩) l.length cap,.int .i64 i,.int .i64 j,.slice (some ⟨vr,vo,none⟩) m mc] w fun e w'=>ed B w (.slice (some ⟨g,0,none⟩) l.length cap) (l.take i++ms++l.drop j) e w':=by
 obtain⟨R,hg,yF,-,pZ,hcm,hBg⟩:=gT h
 have HH:=aa (And.intro h (And.intro hg (And.intro yF (And.intro hcm hBg))))
 have HV:=aa hv
 have HN:=aa (show j<i+m∧j<l.length∧l.length≤cap∧m=ms.length∧i<j∧i+m+(l.length-j)≤cap from⟨hij,hj,pZ,hm,hi,MA⟩)
 obtain⟨L,hL⟩:∃L,L=l.length:=⟨_,rfl⟩
 rw[←hL] at hl hj pZ MA ⊢
 have HL:=aa hL
 have gz:(L:Int)≤400:=by omega
 have Q5:(i:Int)≤j:=by omega
 have Gi:(i:Int)≤L:=by omega
 have DY:(j:Int)≤L:=by omega
 have Q6:(j:Int)<L:=by omega
 have hne:((i:Int)==j)=false:=by rw[beq_eq_false_iff_ne];omega
 have Q7:((j:Int)==L)=false:=by rw[beq_eq_false_iff_ne];omega
 have vB:(L:Int)≤cap:=by omega
 have KE:¬cap=i:=by omega
 have S5:¬cap=j:=by omega
 have Ky:(m:Int)≤400:=by omega
 have Yw:¬(i:Int)+m+(L-j)>cap:=by omega
 have Yx:(0:Int)≤(i:Int)+m+(L-j):=by omega
 have Vk:(i:Int)+m+(L-j)≤cap:=by omega
 have Q8:¬(i:Int)+m≤j:=by omega
 have Yy:(i:Int)≤(i:Int)+m+(L-j):=by omega
 have Q9:¬cap=i+m:=by omega
 have SM:(0:Int)≤(i:Int)+m:=by omega
 have Yz:(i:Int)+m≤(i:Int)+m+((L-j:Nat):Int):=by omega
 have iw:IntKind.i64.wrap ((i:Int)+m)=(i:Int)+m:=by
  have:=bQ (i+m) (by omega)
  rwa [show ((i+m:Nat):Int)=(i:Int)+m by omega] at this
 have Qk:((i:Int)+m).toNat=i+m:=by omega
 obtain⟨Mi,H_⟩:∃Mi,Mi=ah.cells ((l.drop i).take (j-i)):=⟨_,rfl⟩
 have hmid:ah.cells l++R=ah.cells (l.take i)++(Mi++(ah.cells (l.drop j)++R)):=by
  rw[cz l i,cz (l.drop i) (j-i),←H_,List.drop_drop,show i+(j-i)=j by omega]
  simp only[List.append_assoc]
 have HC:=aa (show w.drew.heap[g]?=some (.cells (ah.cells (l.take i)++(Mi++(ah.cells (l.drop j)++R))).toArray 95 (0,0))∧(ah.cells (l.take i)).length=i*3∧Mi.length=(j-i)*3∧(ah.cells (l.drop j)).length=(L-j)*3∧cap≤maxLen∧(ah.cells (l.take i)++(Mi++(ah.cells (l.drop j)++R))).length=cap*3 from
  ⟨by rw[←hmid];exact hg,by rw[aU,List.length_take,Nat.min_eq_left (by omega)],by rw[H_,aU,List.length_take,List.length_drop,Nat.min_eq_left (by omega)],by rw[aU,List.length_drop,hL],hcm,by rw[←hmid];exact yF⟩)
 clear h hg yF hcm hBg hv hm hij hi hj hL H_ hmid MA hml
 go_enter Tryz.func100,Tryz.ntmps100
 go_wp2_with fail
 go_region
 go_wp2
 rw[lg w.drew g ((i+m)*3) (L-j) (cap-(i+m)) vr vo m mc (fun e=>HV.out.2.1 e.symm) ⟨_,HC.out.1⟩ HV.out.2.2]
 rw[Oper.upon_value]
 go_wp2_with fail
 obtain⟨Nn,Vl⟩:∃Nn,Nn=(Mi++(ah.cells (l.drop j)++R)).take (m*3):=⟨_,rfl⟩
 obtain⟨Q0,Vm⟩:∃Q0,Q0=(Mi++(ah.cells (l.drop j)++R)).drop (m*3):=⟨_,rfl⟩
 have MC:Mi++(ah.cells (l.drop j)++R)=Nn++Q0:=by rw[Vl,Vm,List.take_append_drop]
 have htot:(Mi++(ah.cells (l.drop j)++R)).length+i*3=cap*3:=by
  have h1:=HC.out.2.2.2.2.2
  rw[List.length_append,HC.out.2.1] at h1
  omega
 have Vn:Nn.length=m*3:=by rw[Vl,List.length_take];have:=HN.out;have:=HL.out;omega
 have YD:Q0.length+m*3+i*3=cap*3:=by rw[Vm,List.length_drop];have:=HN.out;have:=HL.out;omega
 have hdl:=HC.out.2.2.2.1
 have hml:(ah.cells ms).length=m*3:=by rw[aU,HN.out.2.2.2.1]
 have TT:aJ ah w.drew g (j*3) (l.drop j):=by
  have h1:=HC.out.1
  rw[←List.append_assoc] at h1
  have h2:=iX h1
  have e:(ah.cells (l.take i)++Mi).length=j*3:=by
   rw[List.length_append,HC.out.2.1,HC.out.2.2.1]
   have:=HN.out
   omega
  rw[e] at h2
  exact h2
 have H0:=aa (show w.drew.heap[g]?=some (.cells (ah.cells (l.take i)++Nn++Q0).toArray 95 (0,0))∧aJ ah w.drew g (j*3) (l.drop j)∧(ah.cells (l.take i)++Nn).length=(i+m)*3∧Nn.length=m*3∧Q0.length+m*3+i*3=cap*3∧(ah.cells (l.drop j)).length=(L-j)*3∧(ah.cells ms).length=m*3 from
  ⟨by rw[List.append_assoc,←MC];exact HC.out.1,TT,by rw[List.length_append,HC.out.2.1,Vn];omega,Vn,YD,hdl,hml⟩)
 clear Vl Vm MC htot Vn YD hdl hml TT
 go_wp2_with (refine wp_region_any (by kernel_rfl) ?_;refine Hid.out ?_)
 refine aa ?_
 try (change wpAny _ _ _ _ _ _ _ (World.drew _))
 refine tk 0 ?_
 refine tk 1 ?_
 refine tk 2 ?_
 refine tk 3 ?_
 refine tk 4 ?_
 refine tk 5 ?_
 refine tk 6 ?_
 refine tk 7 ?_
 refine tk 8 ?_
 try simp only[Act.put,List.setIfInBounds_toArray,List.set_cons_succ,List.set_cons_zero]
 refine rd [9] (rn fun K hK=> ?_)
 refine dF _ _ rfl _ _ _ _ _ _ rfl rfl g ((i+m)*3) _ H0.out.1 (l.drop j) (by rw[List.length_drop,←HL.out];exact (Nat.min_self _).symm) (fun _=>⟨rfl,g,j*3,rfl,H0.out.2.1⟩) (by rw[List.length_append,H0.out.2.2.1,List.length_drop,←HL.out];have:=HN.out;have:=HL.out;have:=H0.out.2.2.2.2.1;omega) ?_;intro w1 rE aQ
 refine hK _ _ ?_;clear hK K
 refine wpAny_done (by kernel_rfl) ?_ _
 have NU:=(aj.refl (fun k=>k=g) w).drew.drew.trans aQ (fun _ _ h=>h)
 rw[←H0.out.2.2.1,dG rfl] at rE
 obtain⟨R2,wm⟩:∃R2,R2=Q0.drop (ah.cells (l.drop j)).length:=⟨_,rfl⟩
 rw[←wm,List.append_assoc] at rE
 have Ia:R2.length+(L-j)*3+m*3+i*3=cap*3:=by rw[wm,List.length_drop,H0.out.2.2.2.2.2.1];have:=HN.out;have:=HL.out;have:=H0.out.2.2.2.2.1;omega
 have H1:=aa (show w1.heap[g]?=some (.cells (ah.cells (l.take i)++(Nn++(ah.cells (l.drop j)++R2))).toArray 95 (0,0))∧aj (fun k=>k=g) w w1∧aJ ah w1 vr vo ms∧R2.length+(L-j)*3+m*3+i*3=cap*3 from⟨rE,NU,HV.out.1.but (S:=fun k=>k=g) NU HV.out.2.1,Ia⟩)
 clear rE aQ NU wm Ia
 go_wp2_with (refine cW rfl _ _ rfl _ _ _ _ _ _ rfl rfl g (i*3) _ H1.out.1 ms (by rw[←HN.out.2.2.2.1];exact (Nat.min_eq_left (by omega)).symm) (fun h0=>⟨rfl,vr,vo,rfl,H1.out.2.2.1⟩) (by rw[List.length_append,HC.out.2.1,List.length_append,H0.out.2.2.2.1,←HN.out.2.2.2.1];omega) ?_;intro w2 cP aC;refine Hid.out ?_)
 refine aa ?_
 rw[←HC.out.2.1,dG rfl,H0.out.2.2.2.2.2.2,List.drop_left' H0.out.2.2.2.1] at cP
 have hcs:ah.cells (l.take i++ms++l.drop j)++R2=ah.cells (l.take i)++(ah.cells ms++(ah.cells (l.drop j)++R2)):=by
  rw[Elem.bh,Elem.bh]
  simp only[List.append_assoc]
 have HE:=aa (show ed B w (.slice (some ⟨g,0,none⟩) L cap) (l.take i++ms++l.drop j) (.returned (.slice (some ⟨g,0,none⟩) (i+m+(L-j)) cap)) w2 from by
  refine⟨_,rfl,dy (R:=R2) (by rw[hcs];exact cP) ?_ ?_ (by have:=HN.out;have:=HL.out;omega) HC.out.2.2.2.2.1 HH.out.2.2.2.2,(H1.out.2.1.trans aC (fun _ _ e=>e)).mono fun k _ e=>by rw[e];rfl,.inl rfl,fun _=>rfl⟩
  ·rw[hcs,List.length_append,List.length_append,List.length_append,HC.out.2.1,H0.out.2.2.2.2.2.1,H0.out.2.2.2.2.2.2]
   have:=H1.out.2.2.2
   omega
  ·rw[List.length_append,List.length_append,List.length_take,List.length_drop];have:=HN.out;have:=HL.out;omega)
 clear cP aC hcs
 go_wp2_with fail
 go_ret
 exact HE.out
end
section
variable {w:World} {B:Nat} {l ms:List It} {lv:Value}
theorem zU {g cap i j:Nat} (h:aD B w (.slice (some ⟨g,0,none⟩) l.length cap) l) (hB:B≤w.heap.size) (hl:l.length≤400) (ho:aD 0 w lv ms) (hne:∀k,lv.ownBlock=some k→k≠g) (hml:ms.length≤400) (hi:i<j) (hj:j≤l.length):
  Calls Tryz.prog 100 #[.slice (some ⟨g,0,none⟩) l.length cap,.int .i64 i,.int .i64 j,lv] w fun e w'=>ed B w (.slice (some ⟨g,0,none⟩) l.length cap) (l.take i++ms++l.drop j) e w':=by
 obtain⟨hn1,pZ,hcm⟩:=eZ h
 rcases Nat.lt_or_ge 0 ms.length with hpos|hz
 ·obtain⟨vr,mc,rfl,-,hvl,hmc⟩:=Own.form ho hpos
  have YE:=hne vr rfl
  have hv:=Own.lies ho
  obtain⟨R,hg,yF,-,-,-,-⟩:=gT ho
  have hcell:∃cur,w.heap[vr]?=some (.cells cur 95 (0,0))∧cur.size≠0:=⟨_,hg,by rw[List.size_toArray,yF];omega⟩
  by_cases hjn:j=l.length
  ·subst hjn
   rw[List.drop_length,List.append_nil]
   by_cases hc:i+ms.length≤cap
   ·exact oX h hl rfl hv hi hc
   ·exact qb h hl rfl hv hi (by omega) hB hml
  ·by_cases hij:i+ms.length≤j
   ·exact lE h hl rfl (fun _=>⟨vr,0,rfl,hv,YE⟩) hij hi (by omega)
   ·by_cases hc:i+ms.length+(l.length-j)≤cap
    ·exact xV h hl rfl ⟨hv,YE,hcell⟩ (by omega) hi (by omega) hc hml
    ·exact xU h hl rfl ⟨hv,hvl⟩ (by omega) hi (by omega) (by omega) hB hml
 ·obtain rfl:ms=[]:=List.eq_nil_of_length_eq_zero (by omega)
  obtain⟨a,mc,rfl,hmc⟩:=Own.slice ho
  rw[List.append_nil]
  by_cases hjn:j=l.length
  ·subst hjn
   rw[List.drop_length,List.append_nil]
   rcases ho.2 with⟨e,_⟩|⟨g',cap',cur,e,_⟩
   ·rw[e];exact zT h hl hi
   ·rw[e]
    have hv:aJ ah w g' 0 ([]:List It):=by intro k u hu;simp[Elem.cells] at hu
    have:=oX h hl rfl hv hi (by simp only[List.length_nil];omega) (mc:=cap')
    rw[List.append_nil] at this
    exact this
  ·have:=lE h hl (m:=0) (ms:=[]) (va:=a) (mc:=mc) rfl (fun h0=>absurd h0 (by simp)) (by omega) hi (by omega) (j:=j)
   rw[List.append_nil] at this
   exact this
theorem tJ {it:It} {vr vo i:Nat} (h:aD B w lv l) (hB:B≤w.heap.size) (hl:l.length≤400) (hv:aJ ah w vr vo [it]) (hne:∀k,lv.ownBlock=some k→vr≠k) (BJ:∃cur,w.heap[vr]?=some (.cells cur 95 (0,0))) (hi:i≤l.length):
  Calls Tryz.prog 34 #[lv,.int .i64 i,.slice (some ⟨vr,vo,none⟩) 1 1] w fun e w'=>ed B w lv (l.take i++it::l.drop i) e w':=by
 by_cases hil:i=l.length
 ·subst hil
  rw[List.take_length,List.drop_length]
  exact BS h hB hl hv
 ·obtain⟨g,cap,rfl,hBg,rF,hc⟩:=Own.form h (by omega)
  by_cases yW:l.length+1≤cap
  ·exact zq h hl hv (by omega) yW (hne g rfl) BJ
  ·obtain rfl:cap=l.length:=by omega
   obtain⟨cur,jH⟩:=BJ
   exact zu h hB hl hv (by omega) (Array.getElem?_eq_some_iff.1 jH).1
end
section
variable {E:Ev} {X0 Xs X X' V:World} {R0 Rs R R':Nat→Prop} {ps:List (Nat×List UInt8)} {pg:List (Option Wl.Text)} {rt:List Nat} {Ms M M':Nat→Option NV} {k p q sb:Nat} {n0 n m:NV} {ef sv cM lv:Value} {h:Tr.Hd} {P A B N:List (Tr.Tx×Tr.E (k+1))} {kc:Tr.Tx} {c0 c:Tr.E (k+1)} {F:List Nat} {l0:List Int} {sp:List Nat} {I1 I2 LI WI:List It} {fa:List (List Nat)} {st:List (Tr.Tx×Tr.E (k+1))×List Nat}
theorem iQ {tG:List It} {W2:List (Tr.Tx×Tr.E (k+1))} {f2:List (List Nat)} (o:jz E X0 R0 ps pg rt Rs Ms Xs sb ef k p n0 I1 I2 F l0 st WI tG W2 f2 R M X sv lv LI fa) (hV:Below X.heap.size X V):jz E X0 R0 ps pg rt Rs Ms Xs sb ef k p n0 I1 I2 F l0 st WI tG W2 f2 R M V sv lv LI fa:=
 ⟨⟨o.row.row.step (o.row.row.ss.still hV) (jF.still hV),o.row.kids,o.row.got,o.row.nd⟩,o.at_,o.keys,o.rest,o.nd,o.news,o.same,o.low,o.zN⟩
theorem aI.first {R1:Nat→Tr.E (k+1)→List Nat→Prop} {i:It} {is:List It} {xs:List (Tr.Tx×Tr.E (k+1))} {fs:List (List Nat)} (x:Tr.Tx) (h:aI pg k R1 (i::is) xs fs):aI pg k R1 ({i with key:=x}::is) (Tr.aN x xs) fs:=by
 match xs,fs,h with
 |_::_,_::_,h=>exact⟨⟨rfl,h.1.2.1,h.1.2.2⟩,h.2⟩
 |[],_,h=>exact h.elim
 |_::_,[],h=>exact h.elim
theorem EG {i:It} (o:jz E X0 R0 ps pg rt Rs Ms Xs sb ef k p n0 I1 I2 F l0 st WI [] [] [] R M X sv lv (i::LI) fa) (x:Tr.Tx) {xb:ByteArray} (OZ:bs x=xb) {g L cp:Nat} (hlv:lv=.slice (some ⟨g,0,none⟩) L cp):
  ∃R',jz E X0 R0 ps pg rt Rs Ms Xs sb ef k p n0 I1 I2 F l0 (Tr.aN x st.1,st.2) WI [] [] [] R' M (X.setCell ⟨g,0,none⟩ (.string xb)) sv lv ({i with key:=x}::LI) fa:=by
 subst hlv
 obtain⟨hL,-,-⟩:=eZ o.row.row.own
 subst hL
 have hcells:=sO (i::LI) 0 0 (by simp) (by decide) {i with key:=x} (.string xb) (by rw[←OZ];rfl)
 have hown:aD Xs.heap.size (X.setCell ⟨g,0,none⟩ (.string xb)) (.slice (some ⟨g,0,none⟩) (i::LI).length cp) ({i with key:=x}::LI):=by
  have h1:=(World.ownsRow.stored o.row.row.own 0 (.string xb)).1
  have e:ah.cells ({i with key:=x}::LI)=(ah.cells (i::LI)).set 0 (.string xb):=hcells
  unfold aD Own
  rw[e]
  exact h1
 have hb:aj (fun b=>(Value.slice (some ⟨g,0,none⟩) (i::LI).length cp).ownBlock=some b) X (X.setCell ⟨g,0,none⟩ (.string xb)):=(aj.refl _ X).setCell _ _ fun _=>rfl
 obtain⟨jr,R',he,hr,-,-⟩:=o.row.row.add (e:=.returned (.tuple #[.slice (some ⟨g,0,none⟩) (i::LI).length cp,.int .i64 0])) ⟨_,rfl,hown,hb,.inl rfl⟩
 have he2:Value.slice (some ⟨g,0,none⟩) (i::LI).length cp=jr:=by
  injection he with he
  injection he with he
  have:=congrArg (fun a=>a[0]?) he
  simpa using this
 subst he2
 refine⟨R',⟨⟨hr,o.row.kids.first x,fun j hj=> ?_,o.row.nd⟩,o.at_,o.keys,o.rest,o.nd,o.news,o.same,o.low,o.zN⟩⟩
 rcases List.mem_cons.1 hj with rfl|hj
 ·exact o.row.got i List.mem_cons_self
 ·exact o.row.got j (List.mem_cons_of_mem _ hj)
theorem tK (o:jz E X0 R0 ps pg rt Rs Ms Xs sb ef k p n0 (af (k+1) P) (af (k+1) N) F l0 st WI [] [] [] R M X sv lv LI fa) {W:List (Tr.Tx×Tr.E (k+1))} (hk:n0.its.map It.key=(P++(W++N)).map (·.1)):WI.map It.key=W.map (·.1):=by
 have h1:=o.keys
 rw[List.nil_append,hk,List.map_append,List.map_append,List.map_append,List.map_append,bV,bV] at h1
 exact List.append_cancel_right (List.append_cancel_left h1)
theorem zV {α:Type} {a b:List (Tr.Tx×α)} (h:a.map (·.1)=b.map (·.1)):Tr.bk a=Tr.bk b:=by
 cases a with
 |nil=>cases b with
  |nil=>rfl
  |cons _ _=>cases h
 |cons x a=>cases b with
  |nil=>cases h
  |cons y b=>exact (List.cons.inj h).1
theorem all_eq (P A B N:List (Tr.Tx×Tr.E (k+1))) (kc:Tr.Tx) (c:Tr.E (k+1)):(P++A)++(kc,c)::(B++N)=P++((A++(kc,c)::B)++N):=by simp
theorem jY (s:Slot pg Ms k p q n m h (P++A) (B++N) kc c0 c F) (hA:A=[]→P=[]) (hB:B=[]→N=[]) (sp:List Nat):
  Tr.rH k n.lo (gD n.hi) (P++((A++(kc,c)::B)++N)) (P++(Tr.aN (Tr.bk (A++(kc,c)::B)) ((A++(kc,c)::B).foldl (Tr.aO k) ([],sp)).1++N)) (Tr.big k [(kc,c)]) sp ((A++(kc,c)::B).foldl (Tr.aO k) ([],sp)).2∧∃h',Tr.fW k h' (A++(kc,c)::B):=by
 have hrw:=s.S4
 rw[all_eq] at hrw
 have hn:=s.Mz
 have e:(if P++A=[] then n.lo else kc)=if P=[]∧A=[] then n.lo else kc:=by
  by_cases h1:P=[]
  ·subst h1
   simp
  ·rw[if_neg (fun h2=>h1 (List.append_eq_nil_iff.1 h2).1),if_neg (fun h2=>h1 h2.1)]
 rw[e] at hn
 have oA:∀p∈A,Tr.Old (k+1) p.2:=fun x hx=>ij (s.sides x (.inl (List.mem_append.2 (.inr hx))))
 have oB:∀p∈B,Tr.Old (k+1) p.2:=fun x hx=>ij (s.sides x (.inr (List.mem_append.2 (.inl hx))))
 exact⟨Tr.Ep sp hrw hn hA hB oA s.old oB,Tr.zS hrw hn oA s.old oB⟩
theorem xW (k:Nat) (kc:Tr.Tx) (c:Tr.E (k+1)):Tr.big k [(kc,c)]≤1:=by
 unfold Tr.big
 split
 ·exact Nat.zero_le _
 ·exact Nat.le_refl _
theorem wo (s:Slot pg Ms k p q n m h (P++A) (B++N) kc c0 c F) {l:List (Tr.Tx×Tr.E (k+1))} {sp sp':List Nat} (hs:Tr.rH k n.lo (gD n.hi) (P++((A++(kc,c)::B)++N)) l (Tr.big k [(kc,c)]) sp sp'):Tr.sz (k+1) l≤610:=by
 have h1:=hs.size
 have h2:=xW k kc c
 have h3:=s.fit
 rw[←all_eq,xS (c0:=c0)] at h1
 omega
theorem Ib (s:Slot pg Ms k p q n m h (P++A) (B++N) kc c0 c F) (hA:A=[]→P=[]) (hB:B=[]→N=[])
  (o:jz E X0 R0 ps pg rt Rs Ms Xs sb ef k p n (af (k+1) P) (af (k+1) N) F l0 ((A++(kc,c)::B).foldl (Tr.aO k) ([],sp)) WI [] [] [] R M X sv lv WI fa):
  zQ E X0 R0 Rs ps pg rt Ms Xs sb ef l0 sp k p n h (P++((A++(kc,c)::B)++N)) (Tr.big k [(kc,c)]) F X:=by
 obtain⟨hst,h',Ex⟩:=jY s hA hB sp
 have hks:=s.My
 rw[all_eq] at hks
 have hwk:=tK o hks
 have hacc:((A++(kc,c)::B).foldl (Tr.aO k) ([],sp)).1.map (·.1)=(A++(kc,c)::B).map (·.1):=o.row.kids.keys.symm.trans hwk
 have NW:=Tr.EC sp Ex hacc
 rw[←zV hacc,Tr.sX] at hst
 have hsz:=wo s hst
 obtain⟨fs,hk,hfl⟩:=lD (pg:=pg) (P:=P) (N:=N) (fun x hx=>s.sides x (.inl (List.mem_append.2 (.inl hx)))) (fun x hx=>s.sides x (.inr (List.mem_append.2 (.inr hx)))) o.row.kids
 have hnd:=o.nd
 have hnews:=o.news
 rw[show ([]:List (List Nat)).flatten=[] from rfl,List.append_nil] at hnd hnews
 refine⟨R,M,sv,_,Tr.mk h (P++(((A++(kc,c)::B).foldl (Tr.aO k) ([],sp)).1++N)),p::fa.flatten,_,o.row.row.ss,o.row.row.vW,o.at_,⟨rfl,rfl,rfl,s.own⟩,⟨_,fs,o.at_,wj s.jA rfl rfl rfl rfl rfl (by omega) hst.row ?_, ?_,by rw[hfl]⟩,rfl,hst,hnd,fun r hr=> ?_,o.same⟩
 ·rw[all_eq,List.map_append,List.map_append,List.map_append,List.map_append,NW,wk s.page]
 ·rw[List.nil_append];exact hk
 ·rcases List.mem_cons.1 hr with rfl|hr
  ·exact .inl List.mem_cons_self
  ·exact (hnews r hr).imp_left (List.mem_cons_of_mem _)
theorem KY (s:Slot pg Ms k p q n m h (P++A) (B++N) kc c0 c F) (hA:A=[]→P=[]) (hB:B=[]→N=[])
  (o:jz E X0 R0 ps pg rt Rs Ms Xs sb ef k p n (af (k+1) P) (af (k+1) N) F l0 (Tr.aN (Tr.bk (A++(kc,c)::B)) ((A++(kc,c)::B).foldl (Tr.aO k) ([],sp)).1,((A++(kc,c)::B).foldl (Tr.aO k) ([],sp)).2) WI [] [] [] R M X sv lv LI fa)
  {v':Value} {NL:Nat} (ho:aD 0 V v' (af (k+1) P++(LI++af (k+1) N))) (hb:aj (fun b=>(Value.slice (some ⟨n.rg,0,none⟩) NL n.cap).ownBlock=some b) X V) (hw:v'.ownBlock=(Value.slice (some ⟨n.rg,0,none⟩) NL n.cap).ownBlock∨∀b,v'.ownBlock=some b→X.heap.size≤b) (hs:v'.ownBlock.isSome=true)
  (hX:X'=(V.setCell ⟨p,1,none⟩ v').setCell ⟨p,7,none⟩ (.bool true)):
  zQ E X0 R0 Rs ps pg rt Ms Xs sb ef l0 sp k p n h (P++((A++(kc,c)::B)++N)) (Tr.big k [(kc,c)]) F X':=by
 obtain⟨hst,h',Ex⟩:=jY s hA hB sp
 have hsz:=wo s hst
 obtain⟨fs,hk,hfl⟩:=lD (pg:=pg) (P:=P) (N:=N) (fun x hx=>s.sides x (.inl (List.mem_append.2 (.inl hx)))) (fun x hx=>s.sides x (.inr (List.mem_append.2 (.inr hx)))) o.row.kids
 have hnd:=o.nd
 have hnews:=o.news
 rw[show ([]:List (List Nat)).flatten=[] from rfl,List.append_nil] at hnd hnews
 obtain⟨gB,dM⟩:∃gB,gB=af (k+1) P++(LI++af (k+1) N):=⟨_,rfl⟩
 rw[←dM] at ho hk
 dsimp only at hk
 obtain⟨g',c',rfl⟩:∃g' c',v'=.slice (some ⟨g',0,none⟩) gB.length c':=by
  obtain⟨a,c',rfl,-⟩:=Own.slice ho
  rcases ho.2 with⟨e,_⟩|⟨g',cap',cur,e,_⟩
  ·rw[e] at hs;cases hs
  ·exact⟨g',c',by injection e with e1;rw[e1]⟩
 have hlt:g'<V.heap.size:=(Own.block ho g' rfl).2
 have hcap:=eZ ho
 have hat:=o.at_
 have wu:=o.row.row.ss.ts.mem
 have bY:=wu.lt hat
 have KB:n.rg≠p:=by
  have:=wu.BO hat hat
  exact this
 have S6:g'=n.rg∨X.heap.size≤g':=by
  rcases hw with e|e
  ·left;exact Option.some.inj e
  ·exact .inr (e g' rfl)
 have JB:g'≠p:=by
  rcases S6 with e|e
  ·rw[e];exact KB
  ·intro e2;have:=bY.1;omega
 obtain⟨n',hn'⟩:∃n':NV,n'=⟨n.level,gB,g',0,c',n.page,n.lo,n.hi,n.was,n.at_,true,true⟩:=⟨_,rfl⟩
 have aQ:aj (fun b=>b=n.rg∨b=p) X V:=hb.mono fun b _ e=>.inl (Option.some.inj e).symm
 have gI:aj (fun b=>b=p) V X':=by
  rw[hX]
  exact ((aj.refl (fun b=>b=p) V).setCell _ _ fun _=>rfl).setCell _ _ fun _=>rfl
 have FC:aj (fun b=>b=n.rg∨b=p) X X':=aQ.trans gI fun _ _ e=>.inr e
 have how:aD 0 X' (.slice (some ⟨g',0,none⟩) gB.length c') gB:=Own.but ho gI fun b hb e=>JB (by have e2:some g'=some b:=hb;injection e2 with e2;rw[e2,e])
 have hlen:=hk.len.1
 have aaw:=hk.sz
 have q_:=Tr.fX (k+1) (P++(Tr.aN (Tr.bk (A++(kc,c)::B)) ((A++(kc,c)::B).foldl (Tr.aO k) ([],sp)).1++N))
 have qU:NV.Small n':=by
  rw[hn']
  refine⟨by show gB.length≤400;omega,fun i hi=> ?_,hcap.2⟩
  have hall:∀{is:List It} {xs:List (Tr.Tx×Tr.E (k+1))} {fs:List (List Nat)},aI pg k (b8 M pg k) is xs fs→(∀x∈xs,x.1.length≤96)→∀i∈is,i.key.length≤200∧i.val.length≤200:=by
   intro is
   induction is with
   |nil=>intro _ _ _ _ i hi;cases hi
   |cons j is ih=>
    intro xs fs hks hx i hi
    cases xs with
    |nil=>exact hks.elim
    |cons x xs=>cases fs with
     |nil=>exact hks.elim
     |cons f fs=>
      rcases List.mem_cons.1 hi with rfl|hi
      ·have:=hx x List.mem_cons_self
       rw[hks.1.1,hks.1.2.1]
       exact⟨by omega,by decide⟩
      ·exact ih hks.2 (fun y hy=>hx y (List.mem_cons_of_mem _ hy)) i hi
  exact hall hk (fD hst.row).2.2 i hi
 have NH:=wu.nd p _ hat
 have Vo:Nd X' p n':=by
  refine⟨?_,by rw[hn'];exact Own.lies how,qU⟩
  rw[hX,hn']
  exact ((NH.blk.but hb fun e=>KB (Option.some.inj e)).set 1 _).set 7 _
 have hmem:Mem X' (upd M p n'):=wu.renew hat n' FC (fun b hb=>by
  rcases hb with e|e
  ·exact .inr ⟨e,s.own⟩
  ·exact .inl e) Vo (by rw[hn']) (by rw[hn'];exact how) (by
  rw[hn']
  rcases S6 with e|e
  ·exact .inl ⟨e,s.own⟩
  ·exact .inr e)
 have hmb:∀b,MB (upd M p n') b→MB M b∨X.heap.size≤b:=by
  rintro b ⟨r,y,hr,hk⟩
  rcases ak hr with⟨rfl,rfl⟩|⟨_,hr⟩
  ·rcases hk with rfl|hk
   ·exact .inl ⟨_,_,hat,.inl rfl⟩
   ·rw[hn'] at hk
    have hk:b=g':=hk
    rcases S6 with e|e
    ·exact .inl ⟨_,_,hat,.inr (by rw[hk,e])⟩
    ·right;omega
  ·exact .inl ⟨r,y,hr,hk⟩
 have hS:∀b,(b=n.rg∨b=p)→MB M b:=fun b hb=>by
  rcases hb with e|e
  ·exact⟨p,_,hat,.inr e⟩
  ·exact⟨p,_,hat,.inl e⟩
 have hss:=o.row.row.ss
 have aax:=gI.size
 have YF:∀b,(R b∨b=g')→R b∨X.heap.size≤b:=fun b hb=>by
  rcases hb with hb|rfl
  ·exact .inl hb
  ·rcases S6 with e|e
   ·rw[e];exact .inl (hss.ts.gM _ (hS _ (.inl rfl))).1
   ·exact .inr e
 have hts:TS E X0 R0 (fun b=>R b∨b=g') ps pg rt (upd M p n') X':=by
  refine hss.ts.own FC (fun b _ e=>hss.ts.gM b (hS b e)) hmem (fun b hb=> ?_) (fun _ h=>.inl h) (fun b hb=> ?_)
  ·refine⟨?_, ?_⟩
   ·obtain⟨r,y,hr,hk⟩:=hb
    rcases ak hr with⟨rfl,rfl⟩|⟨_,hr⟩
    ·rcases hk with rfl|hk
     ·exact .inl (hss.ts.gM _ (hS _ (.inr rfl))).1
     ·rw[hn'] at hk;exact .inr hk
    ·exact .inl (hss.ts.gM b ⟨r,y,hr,hk⟩).1
   ·rcases hmb b hb with h1|h1
    ·exact (hss.ts.gM b h1).2
    ·exact Nat.le_trans hss.ts.but.size h1
  ·rcases hb with hb|rfl
   ·exact .inl hb
   ·rcases YF _ (.inr rfl) with h1|h1
    ·exact .inl h1
    ·exact .inr ⟨h1,by omega⟩
 have hsp:∀r∈fa.flatten,upd M p n' r=M r:=fun r hr=>aA fun e=>(List.nodup_cons.1 hnd).1 (by rw[←e];exact hr)
 refine⟨_,upd M p n',sv,n',Tr.mk ⟨h.page,true⟩ (P++(Tr.aN (Tr.bk (A++(kc,c)::B)) ((A++(kc,c)::B).foldl (Tr.aO k) ([],sp)).1++N)),p::fa.flatten,_,hss.nodes hts FC hS (fun _ h=>.inl h) hmb,o.row.row.vW.trans (jF.nodes FC hS (fun _ h=>.inl h) YF hmb (Dom.upd _ _ _)),aM _ _ _,⟨by rw[hn'],by rw[hn'],by rw[hn'],by rw[hn']⟩,
  ⟨n',fs,aM _ _ _,⟨by rw[hn'];exact s.jA.level,by rw[hn'];exact s.jA.page,by rw[hn'];rfl,by rw[hn'];exact⟨by show Tr.sz (k+1) _≤664;exact Nat.le_trans hsz (by decide),hst.row⟩,fun e=>by cases e⟩, ?_,by rw[hfl]⟩,rfl,hst,hnd,fun r hr=> ?_,fun r y hr hy=> ?_⟩
 ·have e:n'.its=gB:=by rw[hn']
  rw[e]
  exact hk.frame fun r hr=>by rw[hfl] at hr;exact hsp r hr
 ·rcases List.mem_cons.1 hr with rfl|hr
  ·exact .inl List.mem_cons_self
  ·exact (hnews r hr).imp_left (List.mem_cons_of_mem _)
 ·rw[aA (fun e=>hr (by rw[e];exact List.mem_cons_self))]
  exact o.same r y hr hy
end
section
variable {E:Ev} {X0 Xs X X' V:World} {R0 Rs R R':Nat→Prop} {ps:List (Nat×List UInt8)} {pg:List (Option Wl.Text)} {rt:List Nat} {Ms M M':Nat→Option NV} {k p q sb:Nat} {n m:NV} {ef sv cM lv:Value} {h:Tr.Hd} {P A B N:List (Tr.Tx×Tr.E (k+1))} {kc:Tr.Tx} {c0 c:Tr.E (k+1)} {F:List Nat} {l0:List Int} {sp:List Nat}
def nF (k:Nat) (A B:List (Tr.Tx×Tr.E (k+1))) (kc:Tr.Tx) (c0:Tr.E (k+1)) (q:Nat):List It:=af (k+1) A++⟨kc,cg (k+1) c0,some q⟩::af (k+1) B
def NY (E:Ev) (X0:World) (R0:Nat→Prop) (ps:List (Nat×List UInt8)) (pg:List (Option Wl.Text)) (rt:List Nat) (Rs:Nat→Prop) (Ms:Nat→Option NV) (Xs:World) (sb:Nat) (ef:Value) (k p:Nat) (n:NV) (P N W:List (Tr.Tx×Tr.E (k+1))) (W0:List It) (F:List Nat) (l0:List Int) (sp:List Nat) (j:Nat) (lv:Value) (X:World):Prop:=
 ∃eU f2 R M sv LI fa,eU.length=j∧j≤W.length∧jz E X0 R0 ps pg rt Rs Ms Xs sb ef k p n (af (k+1) P) (af (k+1) N) F l0 ((W.take j).foldl (Tr.aO k) ([],sp)) eU (W0.drop j) (W.drop j) f2 R M X sv lv LI fa
def Vp (E:Ev) (X0:World) (R0:Nat→Prop) (ps:List (Nat×List UInt8)) (pg:List (Option Wl.Text)) (rt:List Nat) (Rs:Nat→Prop) (Ms:Nat→Option NV) (Xs:World) (sb:Nat) (ef:Value) (k p:Nat) (n:NV) (P N W:List (Tr.Tx×Tr.E (k+1))) (W0:List It) (F:List Nat) (l0:List Int) (sp:List Nat) (j:Nat) (lv:Value) (nq:Nat) (X:World):Prop:=
 ∃eU i f f2 R M sv LI fa,∃hj:j<W.length,eU.length=j∧NS E X0 R0 ps pg rt Rs Ms Xs sb ef k p n (af (k+1) P) (af (k+1) N) F l0 ((W.take j).foldl (Tr.aO k) ([],sp)) eU i (W0.drop (j+1)) W[j] (W.drop (j+1)) f f2 nq R M X sv lv LI fa
def WIn (E:Ev) (X0:World) (R0:Nat→Prop) (ps:List (Nat×List UInt8)) (pg:List (Option Wl.Text)) (rt:List Nat) (Rs:Nat→Prop) (Ms:Nat→Option NV) (Xs:World) (sb:Nat) (ef:Value) (k p:Nat) (n:NV) (P N W:List (Tr.Tx×Tr.E (k+1))) (W0:List It) (F:List Nat) (l0:List Int) (sp:List Nat) (j L:Nat) (ra:Option Addr) (jj:Nat) (lv:Value) (X:World):Prop:=
 ∃eU i f f2 nq Rb Mb Xb O8 O9 O_ fab rv IT fs R M sv LI fa,∃hj:j<W.length,eU.length=j∧NS E X0 R0 ps pg rt Rs Ms Xs sb ef k p n (af (k+1) P) (af (k+1) N) F l0 ((W.take j).foldl (Tr.aO k) ([],sp)) eU i (W0.drop (j+1)) W[j] (W.drop (j+1)) f f2 nq Rb Mb Xb O8 O9 O_ fab∧
  (∃rc,rv=.slice ra L rc)∧IT.length=L∧(∀t∈IT,t.node.isSome=true)∧jj≤L∧
  tv E X0 R0 ps pg rt Rs Ms Xs sb ef k Mb Xb (fab.flatten++f) l0 rv IT (Tr.parted k W[j]).1 fs (rowAt k W[j].1 (((W.take j).foldl (Tr.aO k) ([],sp)).1,((W.take j).foldl (Tr.aO k) ([],sp)).2++(Tr.parted k W[j]).2) (Tr.parted k W[j]).1 jj) jj R M X sv lv LI fa
theorem zW {IT LI:List It} {cs:List (Tr.Tx×Tr.E (k+1))} {fs fa:List (List Nat)} {st:List (Tr.Tx×Tr.E (k+1))×List Nat} {jj:Nat} {rv:Value} {Mb:Nat→Option NV} {Xb:World} (o:tv E X0 R0 ps pg rt Rs Ms Xs sb ef k Mb Xb F l0 rv IT cs fs st jj R M X sv lv LI fa) (hV:Below X.heap.size X V):tv E X0 R0 ps pg rt Rs Ms Xs sb ef k Mb Xb F l0 rv IT cs fs st jj R M V sv lv LI fa:=
 ⟨⟨o.row.row.step (o.row.row.ss.still hV) (jF.still hV),o.row.kids,o.row.got,o.row.nd⟩,o.rest,o.nd,Own.below o.own hV (Nat.le_refl _),o.zK,o.news,o.same,Nat.le_trans o.size hV.size,o.low,o.dom⟩
theorem EH {eU tG LI:List It} {i:It} {cc:Tr.Tx×Tr.E (k+1)} {W2:List (Tr.Tx×Tr.E (k+1))} {f:List Nat} {f2 fa:List (List Nat)} {st:List (Tr.Tx×Tr.E (k+1))×List Nat} {I1 I2:List It} (o:NS E X0 R0 ps pg rt Rs Ms Xs sb ef k p n I1 I2 F l0 st eU i tG cc W2 f f2 q R M X sv lv LI fa) (hV:Below X.heap.size X V):NS E X0 R0 ps pg rt Rs Ms Xs sb ef k p n I1 I2 F l0 st eU i tG cc W2 f f2 q R M V sv lv LI fa:=
 ⟨iQ o.out hV,o.node,o.vS⟩
theorem Ic {k:Nat} {x:Tr.Tx} {st:List (Tr.Tx×Tr.E (k+1))×List Nat} {cs:List (Tr.Tx×Tr.E (k+1))} {j:Nat} (hj:j<cs.length):(rowAt k x st cs (j+1)).1≠[]:=by
 rw[nD hj]
 exact Tr.tF _ _ _ _ _
theorem xX {c:Tr.Tx×Tr.E (k+1)} (hj:0<(Tr.parted k c).1.length):((Tr.parted k c).1[0]).1=c.1:=by
 by_cases e:(Tr.its c.2).isEmpty=true
 ·have:=qJ e
  simp only[this] at hj
  cases hj
 ·by_cases hs:Tr.sz k (Tr.its c.2)≤510
  ·simp only[tD e hs,List.getElem_cons_zero]
  ·simp only[tE e hs,List.getElem_cons_zero]
theorem tL (c:Tr.Tx×Tr.E (k+1)):(Tr.parted k c).1.length≤2∧(Tr.parted k c).2.length≤1:=by
 unfold Tr.parted
 split
 ·refine⟨Nat.zero_le _, ?_⟩
  show (Tr.hd c.2).page.toList.length≤1
  cases (Tr.hd c.2).page<;>simp
 ·split
  ·exact⟨by show 1≤2;decide,Nat.zero_le _⟩
  ·exact⟨Nat.le_refl _,Nat.zero_le _⟩
theorem wv (x:Tr.Tx) (st:List (Tr.Tx×Tr.E (k+1))×List Nat) (cs:List (Tr.Tx×Tr.E (k+1))):∀j,(rowAt k x st cs j).1.length≤st.1.length+j∧(rowAt k x st cs j).2.length≤st.2.length+(k+1)*j
 |0=>⟨Nat.le_refl _,Nat.le_add_right _ _⟩
 |j+1=>by
  have ih:=wv x st cs j
  by_cases hj:j<cs.length
  ·rw[nD hj]
   have:=Tr.iP k x (rowAt k x st cs j).1 (rowAt k x st cs j).2 cs[j]
   rw[Nat.mul_succ]
   omega
  ·have e:rowAt k x st cs (j+1)=rowAt k x st cs j:=by
    unfold rowAt
    rw[List.take_of_length_le (by omega),List.take_of_length_le (by omega)]
   rw[e,Nat.mul_succ]
   omega
theorem Ie (s:Slot pg Ms k p q n m h (P++A) (B++N) kc c0 c F) {j:Nat} (hj:j<(A++(kc,c)::B).length) (hw:j<(nF k A B kc c0 q).length) (hn:(nF k A B kc c0 q)[j].node=none):
  Tr.Ok (k+1) (cZ n (P.length+j)) (gD (cL n (P.length+j))) ((A++(kc,c)::B)[j]).2:=by
 have hne:j≠A.length:=by
  rintro rfl
  have e:(nF k A B kc c0 q)[A.length]?=some ⟨kc,cg (k+1) c0,some q⟩:=by
   unfold nF
   have hl:(af (k+1) A).length=A.length:=List.length_map _
   rw[List.getElem?_append_right (by omega),hl,Nat.sub_self]
   rfl
  rw[List.getElem?_eq_getElem hw] at e
  rw[Option.some.inj e] at hn
  cases hn
 have hj0:j<(A++(kc,c0)::B).length:=by simpa using hj
 have e0:(A++(kc,c)::B)[j]=(A++(kc,c0)::B)[j]:=by
  by_cases hl:j<A.length
  ·rw[List.getElem_append_left hl,List.getElem_append_left hl]
  ·rw[List.getElem_append_right (by omega),List.getElem_append_right (by omega)]
   obtain⟨i,hi⟩:∃i,j-A.length=i+1:=⟨j-A.length-1,by omega⟩
   simp only[hi,List.getElem_cons_succ]
 rw[e0]
 have hd:(P++A)++(kc,c0)::(B++N)=(P++(A++(kc,c0)::B).take j)++(A++(kc,c0)::B)[j]::((A++(kc,c0)::B).drop (j+1)++N):=by
  have e1:(A++(kc,c0)::B)=(A++(kc,c0)::B).take j++(A++(kc,c0)::B)[j]::(A++(kc,c0)::B).drop (j+1):=by
   rw[List.getElem_cons_drop,List.take_append_drop]
  rw[all_eq]
  conv=>lhs;rw[e1]
  simp only[List.append_assoc,List.cons_append]
 have hl:(P++(A++(kc,c0)::B).take j).length=P.length+j:=by rw[List.length_append,List.length_take,Nat.min_eq_left (by omega)]
 have:=jw (A:=P++(A++(kc,c0)::B).take j) (key:=((A++(kc,c0)::B)[j]).1) (c:=((A++(kc,c0)::B)[j]).2) (B:=(A++(kc,c0)::B).drop (j+1)++N) s.jA.near (by rw[Tr.its_mk,hd]) s.keys
 rwa [hl] at this
theorem zX:(nF k A B kc c0 q).length=(A++(kc,c)::B).length:=by
 unfold nF af
 simp
theorem EI (s:Slot pg Ms k p q n m h (P++A) (B++N) kc c0 c F) (hA:A.length≤1) (hB:B.length≤1) (hk:k≤15) (hl:l0.length+sp.length≤50000) (Ex:∃h',Tr.fW k h' (A++(kc,c)::B)):
  Steps p q sb E.tb P.length (P.length+(A++(kc,c)::B).length) n.rg n.ro n.its.length n.cap
   (fun a lv X=>∃j,a=P.length+j∧NY E X0 R0 ps pg rt Rs Ms Xs sb ef k p n P N (A++(kc,c)::B) (nF k A B kc c0 q) F l0 sp j lv X)
   (fun a lv nq X=>∃j,a=P.length+j∧Vp E X0 R0 ps pg rt Rs Ms Xs sb ef k p n P N (A++(kc,c)::B) (nF k A B kc c0 q) F l0 sp j lv nq X)
   (fun a L ra jj lv X=>∃j,a=P.length+j∧WIn E X0 R0 ps pg rt Rs Ms Xs sb ef k p n P N (A++(kc,c)::B) (nF k A B kc c0 q) F l0 sp j L ra jj lv X):=by
 obtain⟨h',Ex⟩:=Ex
 have ZB:(nF k A B kc c0 q).length=(A++(kc,c)::B).length:=zX
 have hW3:(A++(kc,c)::B).length≤3:=by rw[List.length_append,List.length_cons];omega
 have hkeys:∀x∈A++(kc,c)::B,x.1.length≤96:=by
  have h1:=(fD s.S4).2.2
  intro x hx
  rcases List.mem_append.1 hx with hx|hx
  ·exact h1 x (List.mem_append.2 (.inl (List.mem_append.2 (.inr hx))))
  ·rcases List.mem_cons.1 hx with rfl|hx
   ·exact h1 (kc,c0) (List.mem_append.2 (.inr List.mem_cons_self))
   ·exact h1 x (List.mem_append.2 (.inr (List.mem_cons_of_mem _ (List.mem_append.2 (.inl hx)))))
 have hcell:∀{I1 I2:List It} {R M X},TS E X0 R0 R ps pg rt M X→M p=some {n with its:=I1++I2}→(I1++I2).map It.key=n.its.map It.key→X.cell? ⟨p,1,none⟩=some (.slice (some ⟨n.rg,n.ro,none⟩) n.its.length n.cap):=by
  intro I1 I2 R M X ht hm hks
  have hlen:(I1++I2).length=n.its.length:=by have:=congrArg List.length hks;rwa [List.length_map,List.length_map] at this
  have:=(ht.mem.nd p _ hm).c1
  rw[←hlen]
  exact this
 generalize S7:A++(kc,c)::B=W at*
 generalize hWi:nF k A B kc c0 q=W0 at*
 refine⟨?_, ?_, ?_, ?_, ?_, ?_, ?_, ?_⟩
 ·rintro a lv X ⟨j,rfl,eU,f2,R,M,sv,LI,fa,h1,h2,o⟩
  exact⟨o.row.row.ss.blk.cell (j:=0) rfl,hcell o.row.row.ss.ts o.at_ o.keys⟩
 ·rintro a lv X V ⟨j,rfl,eU,f2,R,M,sv,LI,fa,h1,h2,o⟩ hV
  exact⟨j,rfl,eU,f2,R,M,sv,LI,fa,h1,h2,iQ o hV⟩
 ·rintro a lv X ⟨j,rfl,eU,f2,R,M,sv,LI,fa,h1,h2,o⟩-hlt
  have hj:j<W.length:=by omega
  have hj0:j<W0.length:=by omega
  rw[List.drop_eq_getElem_cons hj,List.drop_eq_getElem_cons hj0] at o
  obtain⟨i1,i2,f,f2,e1,rfl,-,-⟩:=o.rest.cons_inv
  have hI:(af (k+1) P++eU).length=P.length+j:=by rw[List.length_append,h1];unfold af;rw[List.length_map]
  refine (zO o (Below.refl _ _) s.jA.level hk (by rw[hI]) (fun hn=> ?_)).mono ?_
  ·rw[hI]
   subst S7
   subst hWi
   exact Ie s hj hj0 hn
  ·rintro e X' ⟨nq,R',M',f',rfl,g⟩
   exact⟨nq,rfl,j,rfl,eU,_,f',f2,R',M',sv,LI,fa,hj,h1,g⟩
 ·rintro a lv nq X V ⟨j,rfl,eU,i,f,f2,R,M,sv,LI,fa,hj,h1,g⟩ hV
  exact⟨j,rfl,eU,i,f,f2,R,M,sv,LI,fa,hj,h1,EH g hV⟩
 ·rintro a lv nq X ⟨j,rfl,eU,i,f,f2,R,M,sv,LI,fa,hj,h1,g⟩
  have hts:=g.out.row.row.ss.ts
  refine⟨hcell hts g.out.at_ g.out.keys,i, ?_, ?_⟩
  ·have EJ:=(hts.mem.nd p _ g.out.at_).row
   have hI:(af (k+1) P++eU).length=P.length+j:=by rw[List.length_append,h1];unfold af;rw[List.length_map]
   have hidx:P.length+j<(af (k+1) P++(eU++(i::W0.drop (j+1)++af (k+1) N))).length:=by rw[←List.append_assoc,List.length_append,hI];simp
   have:=sS.of (j:=P.length+j) EJ hidx
   have e:(af (k+1) P++(eU++(i::W0.drop (j+1)++af (k+1) N)))[P.length+j]'hidx=i:=by
    have e2:(af (k+1) P++(eU++(i::W0.drop (j+1)++af (k+1) N)))[P.length+j]?=some i:=by
     rw[←List.append_assoc,←hI,List.getElem?_append_right (Nat.le_refl _),Nat.sub_self]
     rfl
    rw[List.getElem?_eq_getElem hidx] at e2
    exact Option.some.inj e2
   rw[←e]
   exact this
  ·have hold:=(Tr.fW.at (nE (W1:=W.take j) (W2:=W[j]::W.drop (j+1)) (by rw[List.getElem_cons_drop,List.take_append_drop];exact Ex))).2.2.1
   have hfl:=(Tr.me k (W.take j) ([],sp)).2
   have hlb:(2*k+3)*(W.take j).length≤99:=by
    have:(W.take j).length≤3:=by rw[List.length_take];omega
    calc (2*k+3)*(W.take j).length≤33*3:=Nat.mul_le_mul (by omega) this
     _=99:=rfl
   refine (ED g (Below.refl _ _) hold.1 (by rw[List.length_append];unfold ew;rw[List.length_map];simp only at hfl;omega)).mono ?_
   rintro e X' ⟨rv,R',M',cM,IT,fs,rfl,NR,hin⟩
   obtain⟨ra,rc,rfl,-⟩:=Own.slice hin.own
   have hlr:=hin.rest.len.1
   have hp2:=(tL W[j]).1
   have hL:IT.length=(Tr.parted k W[j]).1.length:=hlr
   refine⟨IT.length,ra,rc,rfl,by omega,j,rfl,eU,i,f,f2,nq,R,M,X,sv,lv,LI,fa,_,IT,fs,R',M',cM,LI,fa,hj,h1,g,⟨rc,rfl⟩,rfl,NR,Nat.zero_le _,hin⟩
 ·rintro a L ra jj lv X V ⟨j,rfl,eU,i,f,f2,nq,Rb,Mb,Xb,O8,O9,O_,fab,rv,IT,fs,R,M,sv,LI,fa,hj,h1,g,h2,h3,h4,h5,o⟩ hV
  exact⟨j,rfl,eU,i,f,f2,nq,Rb,Mb,Xb,O8,O9,O_,fab,rv,IT,fs,R,M,sv,LI,fa,hj,h1,g,h2,h3,h4,h5,zW o hV⟩
 ·rintro a L ra jj lv X ⟨j,rfl,eU,i,f,f2,nq,Rb,Mb,Xb,O8,O9,O_,fab,rv,IT,fs,R,M,sv,LI,fa,hj,h1,g,⟨rc,rfl⟩,h3,h4,h5,o⟩ hlt
  have DY:jj<IT.length:=by omega
  obtain⟨gr,cr,hv,-,rF,-⟩:=Own.form o.own (by omega)
  have hra:ra=some ⟨gr,0,none⟩:=by injection hv
  have hlr:=o.rest.len.1
  rw[List.length_drop,List.length_drop] at hlr
  have OX:jj<(Tr.parted k W[j]).1.length:=by omega
  have hap:=o.own
  rw[hv] at hap
  have Q_:=sS.of (Own.lies hap) DY
  refine⟨gr,IT[jj],hra,Q_,fun V hV=> ?_⟩
  have hfl:=Tr.me k (W.take j) ([],sp)
  have hrl:=wv W[j].1 (((W.take j).foldl (Tr.aO k) ([],sp)).1,((W.take j).foldl (Tr.aO k) ([],sp)).2++(Tr.parted k W[j]).2) (Tr.parted k W[j]).1 jj
  have htk:(W.take j).length≤3:=by rw[List.length_take];omega
  have hlb:(2*k+3)*(W.take j).length≤99:=by
   calc (2*k+3)*(W.take j).length≤33*3:=Nat.mul_le_mul (by omega) htk
    _=99:=rfl
  have hp2:=tL W[j]
  have aay:(k+1)*jj≤32:=by
   calc (k+1)*jj≤16*2:=Nat.mul_le_mul (by omega) (by omega)
    _=32:=rfl
  have aaz:=o.row.kids.len.1
  have Ra:=B8 (x:=[]) sp (((W.take j).foldl (Tr.aO k) ([],sp)).2++(Tr.parted k W[j]).2) (W1:=W.take j) (c:=W[j]) (W2:=W.drop (j+1)) (h:=h') (by rw[List.getElem_cons_drop,List.take_append_drop];exact Ex) (fun d l _=>Tr.nil_le _) (hkeys _ (List.getElem_mem hj)) jj OX
  have e2:(((W.take j).foldl (Tr.aO k) ([],sp)).2++(Tr.parted k W[j]).2).length=((W.take j).foldl (Tr.aO k) ([],sp)).2.length+(Tr.parted k W[j]).2.length:=List.length_append
  refine (B7 o hV DY OX h4 (by simp only at hrl hfl;simp only[List.length_nil] at hfl;omega) Ra.1 (by
   rw[List.length_append]
   unfold ew
   rw[List.length_map]
   simp only at hrl hfl
   omega) hk Ra.2).mono ?_
  rintro e V' ⟨jr,R',M',cM,JH,gU,rfl,o'⟩
  have Vq:Tr.aL k ((Tr.parted k W[j]).1[jj]).1 (rowAt k W[j].1 (((W.take j).foldl (Tr.aO k) ([],sp)).1,((W.take j).foldl (Tr.aO k) ([],sp)).2++(Tr.parted k W[j]).2) (Tr.parted k W[j]).1 jj).1 (rowAt k W[j].1 (((W.take j).foldl (Tr.aO k) ([],sp)).1,((W.take j).foldl (Tr.aO k) ([],sp)).2++(Tr.parted k W[j]).2) (Tr.parted k W[j]).1 jj).2 (Tr.parted k W[j]).1[jj]=
    rowAt k W[j].1 (((W.take j).foldl (Tr.aO k) ([],sp)).1,((W.take j).foldl (Tr.aO k) ([],sp)).2++(Tr.parted k W[j]).2) (Tr.parted k W[j]).1 (jj+1):=by
   rw[nD OX]
   refine (zM k _ _ _ _ fun he=> ?_).symm
   cases jj with
   |zero=>exact (xX OX).symm
   |succ jj=>exact absurd he (Ic (by omega))
  rw[Vq] at o'
  exact⟨jr,rfl,j,rfl,eU,i,f,f2,nq,Rb,Mb,Xb,O8,O9,O_,fab,_,IT,fs,R',M',cM,JH,gU,hj,h1,g,⟨rc,rfl⟩,h3,h4,by omega,o'⟩
 ·rintro a L ra lv X ⟨j,rfl,eU,i,f,f2,nq,Rb,Mb,Xb,O8,O9,O_,fab,rv,IT,fs,R,M,sv,LI,fa,hj,h1,g,⟨rc,rfl⟩,h3,h4,h5,o⟩
  have hlr:=o.rest.len.1
  rw[List.length_drop,List.length_drop] at hlr
  have YG:=B_ g o
  have hlen:(Tr.parted k W[j]).1.length≤L:=by omega
  have Vq:rowAt k W[j].1 (((W.take j).foldl (Tr.aO k) ([],sp)).1,((W.take j).foldl (Tr.aO k) ([],sp)).2++(Tr.parted k W[j]).2) (Tr.parted k W[j]).1 L=(W.take (j+1)).foldl (Tr.aO k) ([],sp):=by
   have e1:rowAt k W[j].1 (((W.take j).foldl (Tr.aO k) ([],sp)).1,((W.take j).foldl (Tr.aO k) ([],sp)).2++(Tr.parted k W[j]).2) (Tr.parted k W[j]).1 L=rowAt k W[j].1 (((W.take j).foldl (Tr.aO k) ([],sp)).1,((W.take j).foldl (Tr.aO k) ([],sp)).2++(Tr.parted k W[j]).2) (Tr.parted k W[j]).1 (Tr.parted k W[j]).1.length:=by
    unfold rowAt
    rw[List.take_of_length_le hlen,List.take_of_length_le (Nat.le_refl _)]
   rw[e1,xQ,List.take_add_one,List.getElem?_eq_getElem hj,List.foldl_append]
   rfl
  rw[Vq] at YG
  exact⟨j+1,by omega,eU++[i],f2,R,M,sv,LI,fa,by rw[List.length_append,h1];rfl,by omega,YG⟩
end
section
variable {w:World} {p q sb tb:Nat} {m:NV}
theorem xY {P:Nat→Value→World→Prop} {PB:Nat→Value→Nat→World→Prop} {Q:Nat→Nat→Option Addr→Nat→Value→World→Prop} {at_ fr to rg ro NL cap:Nat} (h:Nd w q m) (hf:bz m.its≤510) (hs:(bz m.its:Int)<m.was)
  (c6:w.cell? ⟨p,6,none⟩=some (.int .i64 at_)) (c1:w.cell? ⟨p,1,none⟩=some (.slice (some ⟨rg,ro,none⟩) NL cap)) (hp:p<w.heap.size)
  (hfr:fr=at_-1) (hto:to=min (at_+2) NL) (hN:NL≤400) (hat:at_<NL) (Ml:∀V,Below w.heap.size w V→P fr (.slice none 0 0) V) (hS:Steps p q sb tb fr to rg ro NL cap P PB Q)
  {G:World→Prop} {PF PG:Option Addr→Nat→Nat→World→Prop} (hE:Ends p fr to rg ro NL cap P G PF PG) (GI:NL≤cap):
  Calls Tryz.prog 65 #[ptr sb,ptr p,ptr q] w fun e w'=>e=.returned (.int .i64 0)∧G w':=by
 have HF:=aa (fun V (hV:Below w.heap.size w V)=>fR (h.still hV))
 have HS:=aa (fun V (hV:Below w.heap.size w V)=>eM (h.still hV))
 have HW:=aa (fun V (hV:Below w.heap.size w V)=>(h.still hV).c5)
 rw[decide_eq_true hf] at HF
 have FR:¬(bz m.its:Int)≥m.was:=by omega
 have HB:=aa (Below.refl w.heap.size w)
 have HC:=aa (fun V (hV:Below w.heap.size w V)=>And.intro ((hV.cell (p:=⟨p,6,none⟩) hp).trans c6) ((hV.cell (p:=⟨p,1,none⟩) hp).trans c1))
 have HP:=aa Ml
 have nU:=aa hS
 have G7:=aa hE
 have vB:(NL:Int)≤cap:=by omega
 have Qn:fr<to∧to≤NL:=by omega
 have HA:=aa (And.intro hfr (And.intro hto (And.intro hN (And.intro hat Qn))))
 unfold ptr at HF HS
 have G8:(NL:Int)≤400:=by omega
 have Jt:(at_:Int)<NL:=by omega
 have q1:IntKind.i64.wrap ((at_:Int)-1)=(at_:Int)-1:=by rw[IntKind.wrap_i64];omega
 have q2:IntKind.i64.wrap ((at_:Int)+2)=(at_:Int)+2:=by rw[IntKind.wrap_i64];omega
 have e1:max ((at_:Int)-1) 0=(fr:Int):=by omega
 have e2:min ((at_:Int)+2) (NL:Int)=(to:Int):=by omega
 clear h hf hs c6 c1 Ml hfr hto hN hat hS Qn hE GI
 go_enter Tryz.func65,Tryz.ntmps65
 unfold ptr
 go_wp2_with (refine wp_region_any (by kernel_rfl) ?_;refine Hid.out ?_)
 refine aa ?_
 try (change wpAny _ _ _ _ _ _ _ (World.drew _))
 refine tk 0 ?_
 refine rd [1] (rn fun K hK=> ?_)
 go_simp
 refine (HF.out _ ((Below.refl _ w).drew)).mono ?_;rintro e w1 ⟨rfl,aQ⟩
 refine hK _ _ ?_;clear hK K
 have HB:=aa (((Below.refl w.heap.size w).drew).trans aQ)
 have Rc:=aa (HW.out w1 HB.out)
 have c5:=Rc.out
 clear aQ
 refine tk 2 ?_
 refine tk 3 ?_
 refine tk 5 ?_
 refine tk 6 ?_
 refine tk 7 ?_
 try simp only[Act.put,List.setIfInBounds_toArray,List.set_cons_succ,List.set_cons_zero]
 refine rd [4,8] (AllReady.cons rfl (fun K hK=> ?_) (rn fun K hK=> ?_))
 focus
  go_simp
  refine (HS.out _ HB.out).mono ?_
  rintro e w4 ⟨rfl,hb4⟩
  have HB:=aa (HB.out.trans (hb4.mono HB.out.size))
  have Rc:=aa (HW.out w4 HB.out)
  have c5:=Rc.out
  clear hb4
  refine hK _ _ ?_;clear hK K
  refine rd [8] (rn fun K hK=> ?_)
  go_simp
  refine hK _ _ ?_;clear hK K
 rotate_left
 focus
  go_simp
  refine hK _ _ ?_;clear hK K
  refine rd [4] (rn fun K hK=> ?_)
  go_simp
  refine (HS.out _ HB.out).mono ?_
  rintro e w4 ⟨rfl,hb4⟩
  have HB:=aa (HB.out.trans (hb4.mono HB.out.size))
  have Rc:=aa (HW.out w4 HB.out)
  have c5:=Rc.out
  clear hb4
  refine hK _ _ ?_;clear hK K
 all_goals
  try simp only[Act.put,List.setIfInBounds_toArray,List.set_cons_succ,List.set_cons_zero]
  refine tk 9 ?_
  refine tk 10 ?_
  refine wpAny_done (by kernel_rfl) ?_ _
  clear c5
  have c6:=(HC.out _ HB.out).1
  have c1:=(HC.out _ HB.out).2
  go_wp2_with (refine wp_region_held_drew (S:=(fun X=>X.cell? ⟨p,6,none⟩=some (.int .i64 at_)∧X.cell? ⟨p,1,none⟩=some (.slice (some ⟨rg,ro,none⟩) NL cap))) (by kernel_rfl) ?_ (fun hS=> ?_);focus skip;rotate_left;refine Hid.out ?_)
  refine aa ?_
  ·first|trivial|exact⟨c6,c1⟩
  refine aF 0 hS ?_
  refine aF 1 hS ?_
  refine aF 2 hS ?_
  refine aF 3 hS ?_
  refine aF 4 hS ?_
  refine aF 5 hS ?_
  refine aF 6 hS ?_
  refine aF 7 hS ?_
  refine aF 8 hS ?_
  refine aF 9 hS ?_
  refine aF 10 hS ?_
  refine aF 11 hS ?_
  refine aF 12 hS ?_
  refine aF 13 hS ?_
  refine aF 14 hS ?_
  refine aF 15 hS ?_
  refine aF 16 hS ?_
  refine aF 17 hS ?_
  refine aF 18 hS ?_
  refine wpAnyH_done (by kernel_rfl) ?_ _
  try simp only[Act.put,List.setIfInBounds_toArray,List.set_cons_succ,List.set_cons_zero]
  have HB:=aa (HB.out.drew)
  clear c6 c1
  go_wp2_with fail
  go_loopw [9,10,11,12,14] (fun lv av _ _ _ wr=>∃a:Nat,fr≤a∧a≤to∧av=.int .i64 a∧Hid (P a lv wr)) (fun _ av _ _ _ _=>to-(RowKit.intOf av).toNat)
  case atStart=>exact⟨fr,Nat.le_refl _,by have:=HA.out;omega,rfl,aa (HP.out _ HB.out)⟩
  case round=>
   obtain⟨a,hfa,hat,rfl,hP⟩:=hrel
   obtain⟨c0,c1⟩:=nU.out.cells a _ _ hP.out
   unfold ptr at c0
   by_cases hlt:a<to
   ·have hI:(a:Int)<to:=by omega
    have SP:(a:Int)<NL:=by have:=HA.out;omega
    go_wp2_with fail
    refine (nU.out.below a _ _ hP.out hfa hlt).mono ?_
    rintro e w2 ⟨nq,rfl,Ul⟩
    unfold ptr
    obtain⟨d1,it,hit,bJ⟩:=nU.out.G6 a _ _ _ Ul
    have a0:=hit.key
    have a1:=hit.val
    have a2:=hit.node
    clear c0 c1
    have kT:=aa bJ
    clear bJ
    go_wp2_with fail
    refine kT.out.mono ?_
    rintro e w3 ⟨L,ra,rc,rfl,hL,hQ⟩
    have C4:(L:Int)≤1000:=by omega
    have Um:=aa hQ
    clear hQ d1 a0 a1 a2 hit
    go_wp2_with fail
    go_loopw [9,12,14,73] (fun lv _ _ jv wq=>∃j:Nat,j≤L∧jv=.int .i64 j∧Hid (Q a L ra j lv wq)) (fun _ _ _ jv _=>L-(RowKit.intOf jv).toNat)
    case atStart=>exact⟨0,Nat.zero_le _,rfl,Um⟩
    case round=>
     obtain⟨j,hj,rfl,hQ⟩:=hrel
     by_cases El:j<L
     ·have Kj:(j:Int)<L:=by omega
      obtain⟨g,i,rfl,hit,bJ⟩:=nU.out.step a L _ j _ _ hQ.out El
      have a0:=hit.key
      have a1:=hit.val
      have a2:=hit.node
      have kT:=aa bJ
      clear bJ
      rw[Nat.zero_add] at a0 a1 a2
      obtain⟨W1,gP⟩:∃W1,W1=wr.alloc (.cells #[.string (bs i.key),.string (bs i.val),.pointer (pa i.node)] 95):=⟨_,rfl⟩
      obtain⟨ib,hib⟩:∃ib,ib=wr.heap.size:=⟨_,rfl⟩
      have k0:W1.cell? ⟨ib,0,none⟩=some (.string (bs i.key)):=by rw[gP,hib];exact (aG.new wr _ _).cell rfl
      have k1:W1.cell? ⟨ib,1,none⟩=some (.string (bs i.val)):=by rw[gP,hib];exact (aG.new wr _ _).cell rfl
      have k2:W1.cell? ⟨ib,2,none⟩=some (.pointer (pa i.node)):=by rw[gP,hib];exact (aG.new wr _ _).cell rfl
      have hbW:Below wr.heap.size wr W1:=by rw[gP];exact (Below.refl _ wr).alloc (Nat.le_refl _) _
      have Mm:=aa hbW
      clear hbW
      generalize pa i.node=nd at*
      generalize bs i.key=kb at*
      generalize bs i.val=vb at*
      go_wp2_with fail
      rw[←gP,←hib]
      clear gP hib a0 a1 a2 hit
      go_wp2_with fail
      refine (kT.out _ Mm.out).mono ?_
      rintro e w4 ⟨jr,rfl,Qo⟩
      have Un:=aa Qo
      clear Qo k0 k1 k2
      go_wp2_with fail
      go_roundw
      case rel=>exact⟨j+1,El,by go_num,Un⟩
      case measure=>simp[RowKit.intOf];omega
     ·obtain rfl:j=L:=by omega
      have Kj:¬(j:Int)<j:=by omega
      have HD:=aa (nU.out.done a j ra _ _ hQ.out)
      go_wp2_with fail
      go_roundw
      case rel=>exact⟨a+1,by omega,hlt,by go_num,HD⟩
      case measure=>simp[RowKit.intOf];omega
   ·obtain rfl:a=to:=by omega
    have hI:¬(a:Int)<a:=by omega
    have Ql:(a:Int)≤cap:=by have:=HA.out;omega
    have hI4:(fr:Int)≤a:=by omega
    obtain⟨la,ln,lc,rfl,Qp,bJ⟩:=G7.out.eq _ _ hP.out
    have kT:=aa bJ
    have Uo:(ln:Int)≤1000:=by omega
    clear bJ
    go_wp2_with fail
    refine kT.out.mono ?_
    rintro e w5 ⟨b,rfl,aQ,aC⟩
    cases b with
    |true=>
     have HG:=aa (aQ rfl)
     clear aQ aC
     go_wp2_with fail
     go_ret
     exact⟨rfl,HG.out⟩
    |false=>
     have Qq:=aa (aC rfl)
     clear aQ aC c0 c1
     by_cases h0:ln=0
     ·subst h0
      have hz:¬((0:Nat):Int)>0:=by decide
      obtain⟨c1,bJ⟩:=G7.out.new _ _ _ _ (G7.out.empty _ _ _ Qq.out)
      have DZ:=aa bJ
      clear bJ
      go_wp2_with fail
      refine DZ.out.mono ?_
      rintro e w6 ⟨va,vn,vc,rfl,⟨v1,k1⟩,⟨v7,k7⟩,f1,f7,hG⟩
      have HG:=aa hG
      clear hG
      go_wp2_with fail
      go_ret
      exact⟨rfl,HG.out⟩
     ·have hpos:0<ln:=by omega
      have hz:(ln:Int)>0:=by omega
      obtain⟨c1,g,kb,k0,rfl,r0,g0,fz,Nx⟩:=G7.out.first _ _ _ _ Qq.out hpos
      obtain⟨X1,Em⟩:∃X1,X1=w5.setCell ⟨g,0,none⟩ (.string kb):=⟨_,rfl⟩
      rw[←Em] at Nx
      have Eb:=aa Em
      clear Em
      have hI5:(fr:Int)<NL:=by have:=HA.out;omega
      go_wp2_with fail
      rw[←Eb.out]
      obtain⟨c1,bJ⟩:=G7.out.new _ _ _ _ Nx
      have DZ:=aa bJ
      clear bJ Nx r0 g0 fz
      go_wp2_with fail
      refine DZ.out.mono ?_
      rintro e w6 ⟨va,vn,vc,rfl,⟨v1,k1⟩,⟨v7,k7⟩,f1,f7,hG⟩
      have HG:=aa hG
      clear hG
      go_wp2_with fail
      go_ret
      exact⟨rfl,HG.out⟩
end
theorem EK (W:World) (d:Nat) (a b:Option Nat) (ha:∀p,a=some p→∃cur t,W.heap[p]?=some (.cells cur t (0,0))) (hb:∀p,b=some p→∃cur t,W.heap[p]?=some (.cells cur t (0,0))):
  (Op.equalIn (d+1) 85 (.pointer (pa a)) (.pointer (pa b))).run Tryz.prog W=.ok (decide (a=b)) W:=by
 have hu:Tryz.prog.underlying 85=some (.pointer 90):=Tryz.underlying85
 have hz:∀w:World,(sizeOf 90).run Tryz.prog w=.ok 8 w:=fun w=>by kernel_rfl
 cases a with
 |none=>cases b<;>simp[pa,Op.equalIn,run_underlying hu]
 |some a=>
  cases b with
  |none=>simp[pa,Op.equalIn,run_underlying hu]
  |some b=>
   obtain⟨ca,ta,hca⟩:=ha a rfl
   obtain⟨cb,tb,hcb⟩:=hb b rfl
   by_cases e:a=b
   ·subst e
    simp[pa,Op.equalIn,run_underlying hu,hz,run_sameAddr_same]
   ·have hne:(⟨a,0,none⟩:Addr)≠⟨b,0,none⟩:=by intro h;injection h with h;exact e h
    have hsa:=run_sameAddr_other (P:=Tryz.prog) (w:=W) hne hca hcb
    simp[pa,Op.equalIn,run_underlying hu,hz,hsa,e]
def xZ (l m:List It) (w:World) (e:Ending) (w':World):Prop:=∃b,e=.returned (.bool b)∧(b=true↔l=m)∧Below w.heap.size w w'
def zY (w:World) (l:List It):Prop:=∀i∈l,∀p,i.node=some p→∃cur t,w.heap[p]?=some (.cells cur t (0,0))
theorem zY.below {w w':World} {l:List It} (h:zY w l) (hb:Below w.heap.size w w'):zY w' l:=fun i hi p hp=>by
 obtain⟨cur,t,hc⟩:=h i hi p hp
 exact⟨cur,t,by rw[hb.block p (Array.getElem?_eq_some_iff.1 hc).1];exact hc⟩
theorem zZ (w:World) (g1 o1 c1 g2 o2 c2:Nat) (l m:List It) (h1:aJ ah w g1 o1 l) (h2:aJ ah w g2 o2 m) (hl:l.length≤400) (hm:m.length≤400) (hn1:zY w l) (hn2:zY w m):
  Calls Tryz.prog 99 #[.slice (some ⟨g1,o1,none⟩) l.length c1,.slice (some ⟨g2,o2,none⟩) m.length c2] w fun e w'=>xZ l m w e w':=by
 have gz:(l.length:Int)≤400:=by omega
 have Ky:(m.length:Int)≤400:=by omega
 by_cases hlm:l.length=m.length
 ·have HH:=aa (And.intro h1 (And.intro h2 hlm))
  have HN:=aa (And.intro hn1 hn2)
  rw[←hlm]
  clear h1 h2 hn1 hn2
  obtain⟨L,hL⟩:∃L,L=l.length:=⟨_,rfl⟩
  rw[←hL] at gz ⊢
  have HL:=aa hL
  clear hL
  go_enter Tryz.func99,Tryz.ntmps99
  go_wp2
  go_loopw [13] (fun iv wr=>∃j:Nat,j≤L∧iv=.int .i64 j∧Hid (l.take j=m.take j)∧Hid (Below w.heap.size w wr)) (fun iv _=>L-(RowKit.intOf iv).toNat)
  case atStart=>exact⟨0,Nat.zero_le _,rfl,aa rfl,aa (Below.refl _ _)⟩
  case round=>
   obtain⟨j,hj,rfl,hE,hB⟩:=hrel
   by_cases hlt:j<L
   ·have ng:(j:Int)<L:=by omega
    have hjl:j<l.length:=by rw[←HL.out];exact hlt
    have hjm:j<m.length:=by rw[←HH.out.2.2];exact hjl
    obtain⟨a0,a1,a2⟩:=aH (cN HH.out.1 hB.out) j hjl
    obtain⟨b0,b1,b2⟩:=aH (cN HH.out.2.1 hB.out) j hjm
    have HJ:=aa (show j<L∧l.take (j+1)=l.take j++[l[j]]∧m.take (j+1)=m.take j++[m[j]]∧(l[j]=m[j]∨l≠m) from⟨hlt,List.take_succ_eq_append_getElem hjl,List.take_succ_eq_append_getElem hjm,by
     by_cases h:l[j]=m[j]
     ·exact .inl h
     ·exact .inr (by rintro rfl;exact h rfl)⟩)
    have YH:zY wr.drew l:=HN.out.1.below hB.out.drew
    have YI:zY wr.drew m:=HN.out.2.below hB.out.drew
    have hq:(Op.equalIn 9999 85 (.pointer (pa l[j].node)) (.pointer (pa m[j].node))).run Tryz.prog wr.drew=.ok (decide (l[j].node=m[j].node)) wr.drew:=EK wr.drew 9998 _ _ (YH _ (List.getElem_mem hjl)) (YI _ (List.getElem_mem hjm))
    have hsame:(l[j].key=m[j].key∧l[j].val=m[j].val∧l[j].node=m[j].node)↔l[j]=m[j]:=by
     cases l[j];cases m[j]
     simp only[It.mk.injEq]
    generalize l[j]=x at*
    generalize m[j]=y at*
    clear hlt hj hjl hjm YH YI
    by_cases hk:x.key=y.key
    ·have hkb:(bs x.key).toList=(bs y.key).toList:=by rw[hk]
     by_cases hv:x.val=y.val
     ·have BJ:(bs x.val).toList=(bs y.val).toList:=by rw[hv]
      by_cases hn:x.node=y.node
      ·have hxy:x=y:=hsame.1 ⟨hk,hv,hn⟩
       have hdn:decide (x.node=y.node)=true:=decide_eq_true hn
       rw[hdn] at hq
       have NZ:=aa hxy
       clear hk hv hn hdn hsame hxy
       go_wp2_with fail
       go_wp2_with (refine wp_region_any (by kernel_rfl) ?_;refine Hid.out ?_)
       refine aa ?_
       try (change wpAny _ _ _ _ _ _ _ (World.drew _))
       refine tk 0 ?_
       refine tk 1 ?_
       refine tk 2 ?_
       refine tk 4 ?_
       refine tk 5 ?_
       refine tk 6 ?_
       try simp only[Act.put,List.setIfInBounds_toArray,List.set_cons_succ,List.set_cons_zero]
       refine rd [3,7] (AllReady.cons rfl (fun K hK=> ?_) (rn fun K hK=> ?_))
       focus
        go_simp
        refine hK _ _ ?_;clear hK K
        refine rd [7] (rn fun K hK=> ?_)
        go_simp
        refine hK _ _ ?_;clear hK K
        refine rd [8] (rn fun K hK=> ?_)
        go_simp
        refine hK _ _ ?_;clear hK K
       rotate_left
       focus
        go_simp
        refine hK _ _ ?_;clear hK K
        refine rd [3] (rn fun K hK=> ?_)
        go_simp
        refine hK _ _ ?_;clear hK K
        refine rd [8] (rn fun K hK=> ?_)
        go_simp
        refine hK _ _ ?_;clear hK K
       all_goals
        refine wpAny_done (by kernel_rfl) ?_ _
        have T3:=aa (show l.take (j+1)=m.take (j+1) by rw[HJ.out.2.1,HJ.out.2.2.1,hE.out,NZ.out])
        have kf:=aa (show Below w.heap.size w wr.drew from hB.out.drew)
        go_wp2
        go_roundw
        case rel=>exact⟨j+1,HJ.out.1,by go_num,T3,kf⟩
        case measure=>have:=HJ.out.1;simp[RowKit.intOf];omega
      ·have hdn:decide (x.node=y.node)=false:=decide_eq_false hn
       rw[hdn] at hq
       have NZ:=aa (show ¬x=y from fun e=>hn (hsame.2 e).2.2)
       clear hk hv hn hdn hsame
       go_wp2_with fail
       go_wp2_with (refine wp_region_any (by kernel_rfl) ?_;refine Hid.out ?_)
       refine aa ?_
       try (change wpAny _ _ _ _ _ _ _ (World.drew _))
       refine tk 0 ?_
       refine tk 1 ?_
       refine tk 2 ?_
       refine tk 4 ?_
       refine tk 5 ?_
       refine tk 6 ?_
       try simp only[Act.put,List.setIfInBounds_toArray,List.set_cons_succ,List.set_cons_zero]
       refine rd [3,7] (AllReady.cons rfl (fun K hK=> ?_) (rn fun K hK=> ?_))
       focus
        go_simp
        refine hK _ _ ?_;clear hK K
        refine rd [7] (rn fun K hK=> ?_)
        go_simp
        refine hK _ _ ?_;clear hK K
        refine rd [8] (rn fun K hK=> ?_)
        go_simp
        refine hK _ _ ?_;clear hK K
       rotate_left
       focus
        go_simp
        refine hK _ _ ?_;clear hK K
        refine rd [3] (rn fun K hK=> ?_)
        go_simp
        refine hK _ _ ?_;clear hK K
        refine rd [8] (rn fun K hK=> ?_)
        go_simp
        refine hK _ _ ?_;clear hK K
       all_goals
        refine wpAny_done (by kernel_rfl) ?_ _
        have kf:=aa (show xZ l m w (.returned (.bool false)) wr.drew from⟨false,rfl,⟨fun h=>(by cases h),fun h=>absurd h (HJ.out.2.2.2.resolve_left NZ.out)⟩,hB.out.drew⟩)
        go_wp2
        go_ret
        exact kf.out
     ·have BJ:¬(bs x.val).toList=(bs y.val).toList:=by rw[az,az];exact hv
      have NZ:=aa (show ¬x=y from fun e=>hv (hsame.2 e).2.1)
      clear hk hv hq hsame
      go_wp2_with fail
      go_wp2_with (refine wp_region_any (by kernel_rfl) ?_;refine Hid.out ?_)
      refine aa ?_
      try (change wpAny _ _ _ _ _ _ _ (World.drew _))
      refine tk 0 ?_
      refine tk 1 ?_
      refine tk 2 ?_
      refine tk 4 ?_
      refine tk 5 ?_
      refine tk 6 ?_
      try simp only[Act.put,List.setIfInBounds_toArray,List.set_cons_succ,List.set_cons_zero]
      refine rd [3,7] (AllReady.cons rfl (fun K hK=> ?_) (rn fun K hK=> ?_))
      focus
       go_simp
       refine hK _ _ ?_;clear hK K
       refine rd [7] (rn fun K hK=> ?_)
       go_simp
       refine hK _ _ ?_;clear hK K
       refine rd [8] (rn fun K hK=> ?_)
       go_simp
       refine hK _ _ ?_;clear hK K
      rotate_left
      focus
       go_simp
       refine hK _ _ ?_;clear hK K
       refine rd [3] (rn fun K hK=> ?_)
       go_simp
       refine hK _ _ ?_;clear hK K
       refine rd [8] (rn fun K hK=> ?_)
       go_simp
       refine hK _ _ ?_;clear hK K
      all_goals
       refine wpAny_done (by kernel_rfl) ?_ _
       have kf:=aa (show xZ l m w (.returned (.bool false)) wr.drew from⟨false,rfl,⟨fun h=>(by cases h),fun h=>absurd h (HJ.out.2.2.2.resolve_left NZ.out)⟩,hB.out.drew⟩)
       go_wp2
       go_ret
       exact kf.out
    ·have hkb:¬(bs x.key).toList=(bs y.key).toList:=by rw[az,az];exact hk
     have NZ:=aa (show ¬x=y from fun e=>hk (hsame.2 e).1)
     clear hk hq hsame
     go_wp2_with fail
     go_wp2_with (refine wp_region_any (by kernel_rfl) ?_;refine Hid.out ?_)
     refine aa ?_
     try (change wpAny _ _ _ _ _ _ _ (World.drew _))
     refine tk 0 ?_
     refine tk 1 ?_
     refine tk 2 ?_
     refine tk 4 ?_
     refine tk 5 ?_
     refine tk 6 ?_
     try simp only[Act.put,List.setIfInBounds_toArray,List.set_cons_succ,List.set_cons_zero]
     refine rd [3,7] (AllReady.cons rfl (fun K hK=> ?_) (rn fun K hK=> ?_))
     focus
      go_simp
      refine hK _ _ ?_;clear hK K
      refine rd [7] (rn fun K hK=> ?_)
      go_simp
      refine hK _ _ ?_;clear hK K
      refine rd [8] (rn fun K hK=> ?_)
      go_simp
      refine hK _ _ ?_;clear hK K
     rotate_left
     focus
      go_simp
      refine hK _ _ ?_;clear hK K
      refine rd [3] (rn fun K hK=> ?_)
      go_simp
      refine hK _ _ ?_;clear hK K
      refine rd [8] (rn fun K hK=> ?_)
      go_simp
      refine hK _ _ ?_;clear hK K
     all_goals
      refine wpAny_done (by kernel_rfl) ?_ _
      have kf:=aa (show xZ l m w (.returned (.bool false)) wr.drew from⟨false,rfl,⟨fun h=>(by cases h),fun h=>absurd h (HJ.out.2.2.2.resolve_left NZ.out)⟩,hB.out.drew⟩)
      go_wp2
      go_ret
      exact kf.out
   ·have ng:¬(j:Int)<L:=by omega
    have HF:=aa (show l=m by
     have:=hE.out
     rwa [List.take_of_length_le (by rw[←HL.out];omega),List.take_of_length_le (by rw[←HH.out.2.2,←HL.out];omega)] at this)
    clear hlt hj
    go_wp2
    go_ret
    exact (show xZ l m w (.returned (.bool true)) wr from⟨true,rfl,⟨fun _=>HF.out,fun _=>rfl⟩,hB.out⟩)
 ·have hne:((l.length:Int)==m.length)=false:=by rw[beq_eq_false_iff_ne];omega
  go_enter Tryz.func99,Tryz.ntmps99
  go_wp2
  go_ret
  exact (show xZ l m w (.returned (.bool false)) w from⟨false,rfl,⟨fun h=>(by cases h),fun h=>absurd (congrArg List.length h) hlm⟩,Below.refl _ _⟩)
theorem z7 (w:World) (a:Option Addr) (c1 g2 o2 c2:Nat) (l m:List It) (hl:l.length≤400) (hm:m.length≤400) (hlm:l.length≠m.length):
  Calls Tryz.prog 99 #[.slice a l.length c1,.slice (some ⟨g2,o2,none⟩) m.length c2] w fun e w'=>xZ l m w e w':=by
 have gz:(l.length:Int)≤400:=by omega
 have Ky:(m.length:Int)≤400:=by omega
 have hne:((l.length:Int)==m.length)=false:=by rw[beq_eq_false_iff_ne];omega
 go_enter Tryz.func99,Tryz.ntmps99
 go_wp2
 go_ret
 exact (show xZ l m w (.returned (.bool false)) w from⟨false,rfl,⟨fun h=>(by cases h),fun h=>absurd (congrArg List.length h) hlm⟩,Below.refl _ _⟩)
theorem Ig {α:Type} {w0:It} {WI:List It} {W:List (Tr.Tx×α)} (h:(w0::WI).map It.key=W.map (·.1)):w0.key=Tr.bk W:=by
 cases W with
 |nil=>cases h
 |cons x W=>exact (List.cons.inj h).1
theorem z8 {X:World} {M:Nat→Option NV} {q:Nat} {y:NV} (h:Mem X M) (hq:M q=some y):∃cur t,X.heap[q]?=some (.cells cur t (0,0)):=⟨_,_,(h.nd q y hq).blk⟩
theorem aI.zN {X:World} {M:Nat→Option NV} {pg:List (Option Wl.Text)} {k:Nat} (hm:Mem X M):∀{is:List It} {xs:List (Tr.Tx×Tr.E (k+1))} {fs:List (List Nat)},aI pg k (b8 M pg k) is xs fs→zY X is
 |[],[],[],_=>fun i hi=>by cases hi
 |i::is,x::xs,f::fs,h=>fun j hj q hq=>by
  rcases List.mem_cons.1 hj with rfl|hj
  ·rcases h.1.2.2 with⟨hn,_⟩|⟨q',jo,hr⟩
   ·rw[hn] at hq;cases hq
   ·rw[jo] at hq
    cases hq
    obtain⟨y,hy,-,-⟩:=hr.head
    exact z8 hm hy
  ·exact aI.zN hm h.2 j hj q hq
 |[],[],_::_,h=>h.elim
 |[],_::_,_,h=>h.elim
 |_::_,[],_,h=>h.elim
 |_::_,_::_,[],h=>h.elim
section
variable {E:Ev} {X0 Xs X X' V:World} {R0 Rs R R':Nat→Prop} {ps:List (Nat×List UInt8)} {pg:List (Option Wl.Text)} {rt:List Nat} {Ms M M':Nat→Option NV} {k p q sb:Nat} {n m:NV} {ef sv cM lv:Value} {h:Tr.Hd} {P A B N:List (Tr.Tx×Tr.E (k+1))} {kc:Tr.Tx} {c0 c:Tr.E (k+1)} {F:List Nat} {l0:List Int} {sp:List Nat}
def Re (E:Ev) (X0:World) (R0:Nat→Prop) (ps:List (Nat×List UInt8)) (pg:List (Option Wl.Text)) (rt:List Nat) (Rs:Nat→Prop) (Ms:Nat→Option NV) (Xs:World) (sb:Nat) (ef:Value) (k p:Nat) (n:NV) (P N:List (Tr.Tx×Tr.E (k+1))) (F:List Nat) (l0:List Int) (st:List (Tr.Tx×Tr.E (k+1))×List Nat) (W:Nat) (la:Option Addr) (ln lc:Nat) (X:World):Prop:=
 ∃WI R M sv LI fa,ln=LI.length∧WI.length=W∧jz E X0 R0 ps pg rt Rs Ms Xs sb ef k p n (af (k+1) P) (af (k+1) N) F l0 st WI [] [] [] R M X sv (.slice la ln lc) LI fa
theorem nG {st:List (Tr.Tx×Tr.E (k+1))×List Nat} {I1 I2 WI LI:List It} {fa:List (List Nat)} (o:jz E X0 R0 ps pg rt Rs Ms Xs sb ef k p n I1 I2 F l0 st WI [] [] [] R M X sv lv LI fa):
  X.cell? ⟨p,1,none⟩=some (.slice (some ⟨n.rg,n.ro,none⟩) n.its.length n.cap)∧(I1++(WI++I2)).length=n.its.length∧aJ ah X n.rg n.ro (I1++(WI++I2)):=by
 have hks:=o.keys
 rw[List.nil_append] at hks
 have hlen:(I1++(WI++I2)).length=n.its.length:=by have:=congrArg List.length hks;rwa [List.length_map,List.length_map] at this
 have hat:=o.at_
 rw[List.nil_append] at hat
 have hnd:=o.row.row.ss.ts.mem.nd p _ hat
 have:=hnd.c1
 rw[←hlen]
 exact⟨this,rfl,hnd.row⟩
theorem Ih (s:Slot pg Ms k p q n m h (P++A) (B++N) kc c0 c F) (hA:A=[]→P=[]) (hB:B=[]→N=[]) (LY:A.length≤1) (M9:B.length≤1):
  Ends p P.length (P.length+(A++(kc,c)::B).length) n.rg n.ro n.its.length n.cap
   (fun a lv X=>∃j,a=P.length+j∧NY E X0 R0 ps pg rt Rs Ms Xs sb ef k p n P N (A++(kc,c)::B) (nF k A B kc c0 q) F l0 sp j lv X)
   (fun X=>zQ E X0 R0 Rs ps pg rt Ms Xs sb ef l0 sp k p n h (P++((A++(kc,c)::B)++N)) (Tr.big k [(kc,c)]) F X)
   (fun la ln lc X=>Re E X0 R0 ps pg rt Rs Ms Xs sb ef k p n P N F l0 ((A++(kc,c)::B).foldl (Tr.aO k) ([],sp)) (A++(kc,c)::B).length la ln lc X)
   (fun la ln lc X=>Re E X0 R0 ps pg rt Rs Ms Xs sb ef k p n P N F l0 (Tr.aN (Tr.bk (A++(kc,c)::B)) ((A++(kc,c)::B).foldl (Tr.aO k) ([],sp)).1,((A++(kc,c)::B).foldl (Tr.aO k) ([],sp)).2) (A++(kc,c)::B).length la ln lc X):=by
 have hW3:(A++(kc,c)::B).length≤3:=by rw[List.length_append,List.length_cons];omega
 have kC:0<(A++(kc,c)::B).length:=by rw[List.length_append,List.length_cons];omega
 have hfl:=(Tr.me k (A++(kc,c)::B) ([],sp)).1
 have MD:(af (k+1) P).length=P.length:=List.length_map _
 have hks:=s.My
 rw[all_eq] at hks
 refine⟨?_, ?_, ?_, ?_⟩
 ·rintro lv X ⟨j,hj,eU,f2,R,M,sv,LI,fa,h1,h2,o⟩
  obtain rfl:j=(A++(kc,c)::B).length:=by omega
  rw[List.take_length,List.drop_length,List.drop_eq_nil_of_le (by rw[zX (c:=c)];exact Nat.le_refl _)] at o
  obtain⟨-,rfl⟩:=o.rest.rI
  obtain⟨la,lc,rfl,-⟩:=Own.slice o.row.row.own
  have C4:=o.row.kids.len.1
  have aaA:LI.length≤6:=by simp only[List.length_nil] at hfl;omega
  refine⟨la,LI.length,lc,rfl,by omega, ?_⟩
  obtain⟨-,hlen,EJ⟩:=nG o
  have hm:=o.row.row.ss.ts.mem
  have e:P.length+(A++(kc,c)::B).length-P.length=eU.length:=by omega
  rw[e]
  have bJ:Calls Tryz.prog 99 #[.slice la LI.length lc,.slice (some ⟨n.rg,n.ro+P.length*3,none⟩) eU.length (n.cap-P.length)] X fun e w'=>xZ LI eU X e w':=by
   by_cases hl:LI.length=eU.length
   ·obtain⟨g,c',hv,-,-,-⟩:=Own.form o.row.row.own (by omega)
    have hla:la=some ⟨g,0,none⟩:=by injection hv
    subst hla
    have hpart:=aJ.part EJ P.length eU.length (by rw[List.length_append,MD];omega)
    rw[←MD,List.drop_left,List.take_left,MD] at hpart
    refine zZ X g 0 lc n.rg (n.ro+P.length*3) (n.cap-P.length) LI eU (Own.lies o.row.row.own) hpart (by omega) (by omega) (aI.zN hm o.row.kids) (fun i hi q hq=> ?_)
    obtain⟨y,hy⟩:=o.zN i hi q hq
    exact z8 hm hy
   ·exact z7 X la lc n.rg (n.ro+P.length*3) (n.cap-P.length) LI eU (by omega) (by omega) hl
  refine bJ.mono ?_
  rintro e X' ⟨b,rfl,hb,hbel⟩
  refine⟨b,rfl,fun ht=> ?_,fun _=>⟨eU,R,M,sv,LI,fa,rfl,h1,iQ o hbel⟩⟩
  obtain rfl:=hb.1 ht
  exact Ib s hA hB (iQ o hbel)
 ·rintro la lc X ⟨WI,R,M,sv,LI,fa,hl,hw,o⟩
  have C4:LI=[]:=List.length_eq_zero_iff.1 hl.symm
  subst C4
  have hst:((A++(kc,c)::B).foldl (Tr.aO k) ([],sp)).1=[]:=List.length_eq_zero_iff.1 o.row.kids.len.1.symm
  refine⟨WI,R,M,sv,[],fa,hl,hw, ?_⟩
  have e:(Tr.aN (Tr.bk (A++(kc,c)::B)) ((A++(kc,c)::B).foldl (Tr.aO k) ([],sp)).1,((A++(kc,c)::B).foldl (Tr.aO k) ([],sp)).2)=(A++(kc,c)::B).foldl (Tr.aO k) ([],sp):=by
   rw[hst]
   exact Prod.ext hst.symm rfl
  rw[e]
  exact o
 ·rintro la ln lc X ⟨WI,R,M,sv,LI,fa,rfl,hw,o⟩ hpos
  obtain⟨hc,hlen,EJ⟩:=nG o
  refine⟨hc, ?_⟩
  obtain⟨g,c',hv,-,rF,-⟩:=Own.form o.row.row.own hpos
  have hla:la=some ⟨g,0,none⟩:=by injection hv
  subst hla
  cases LI with
  |nil=>cases hpos
  |cons i LI=>
   have hwk:=tK o hks
   have hidx:P.length<(af (k+1) P++(WI++af (k+1) N)).length:=by rw[List.length_append,List.length_append,MD];omega
   have hit:=sS.of EJ hidx
   have hkey:((af (k+1) P++(WI++af (k+1) N))[P.length]'hidx).key=Tr.bk (A++(kc,c)::B):=by
    have e1:(af (k+1) P++(WI++af (k+1) N))[P.length]'hidx=WI[0]'(by omega):=by
     rw[List.getElem_append_right (by omega),List.getElem_append_left (by omega)]
     simp only[MD,Nat.sub_self]
    rw[e1]
    cases WI with
    |nil=>simp at hw
    |cons w0 WI=>exact Ig hwk
   have yW:=Own.lies o.row.row.own
   refine⟨g,bs (Tr.bk (A++(kc,c)::B)),bs i.key,rfl, ?_, ?_,Own.frozen o.row.row.own 0, ?_⟩
   ·rw[←hkey];exact hit.key
   ·have:=(aH yW 0 (by simp)).1
    simpa using this
   ·obtain⟨R',o'⟩:=EG o (Tr.bk (A++(kc,c)::B)) rfl rfl
    exact⟨WI,R',M,sv,{i with key:=Tr.bk (A++(kc,c)::B)}::LI,fa,rfl,hw,o'⟩
 ·rintro la ln lc X ⟨WI,R,M,sv,LI,fa,rfl,hw,o⟩
  obtain⟨hc,hlen,EJ⟩:=nG o
  refine⟨hc, ?_⟩
  have hm:=o.row.row.ss.ts.mem
  have hat:=o.at_
  have hown:=hm.own p _ hat s.own
  have hro:n.ro=0:=hown.1
  have Rf:aD 0 X (.slice (some ⟨n.rg,0,none⟩) (af (k+1) P++(WI++af (k+1) N)).length n.cap) (af (k+1) P++(WI++af (k+1) N)):=hown.2
  have hnd:=hm.nd p _ hat
  have qU:(af (k+1) P++(WI++af (k+1) N)).length≤400:=hnd.small.len
  have C4:=o.row.kids.len.1
  have q_:∀(x:Tr.Tx) (l:List (Tr.Tx×Tr.E (k+1))),(Tr.aN x l).length=l.length:=fun x l=>by cases l<;>rfl
  rw[q_] at C4
  have Nj:LI.length≤400:=by simp only[List.length_nil] at hfl;omega
  rw[hro,←hlen]
  refine (zU Rf (Nat.zero_le _) qU (Own.mono o.row.row.own (Nat.zero_le _)) (fun b hb=>fun e=> ?_) Nj (i:=P.length) (j:=P.length+(A++(kc,c)::B).length) (by omega) (by
   have h1:(af (k+1) P++(WI++af (k+1) N)).length=P.length+(WI.length+(af (k+1) N).length):=by rw[List.length_append,List.length_append,MD]
   omega)).mono ?_
  ·exact (o.row.row.Mu b hb).2.1 ⟨p,_,hat,.inr e⟩
  ·rintro e X' ⟨v',rfl,FG,Fz,Rg,nH⟩
   have dM:(af (k+1) P++(WI++af (k+1) N)).take P.length++LI++(af (k+1) P++(WI++af (k+1) N)).drop (P.length+(A++(kc,c)::B).length)=af (k+1) P++(LI++af (k+1) N):=by
    rw[←MD,List.take_left,←hw,←List.length_append,←List.append_assoc (af (k+1) P) WI,List.drop_left,List.append_assoc]
   rw[dM] at FG
   have KB:p≠n.rg:=fun e=>hm.BO hat hat e.symm
   have hnb:¬(Value.slice (some ⟨n.rg,0,none⟩) (af (k+1) P++(WI++af (k+1) N)).length n.cap).ownBlock=some p:=fun e=>KB (Option.some.inj e).symm
   have hblk:=hnd.blk.but Fz hnb
   obtain⟨a,cc,hv,-⟩:=Own.slice FG
   subst hv
   refine⟨a,_,cc,rfl,⟨_,hblk.cell (j:=1) rfl⟩,⟨_,hblk.cell (j:=7) rfl⟩,hblk.frozen 1,hblk.frozen 7, ?_⟩
   exact KY s hA hB o FG Fz Rg (nH rfl) rfl
theorem q8 (s:Slot pg M k p q n m h A B kc c0 c F) (hs:SS E X0 R0 R ps pg rt M X sb sv (l0++ew sp)) (hk:k≤15) (hl:l0.length+sp.length≤50000):
  Calls Tryz.prog 65 #[ptr sb,ptr p,ptr q] X fun e X'=>e=.returned (.int .i64 0)∧zQ E X0 R0 R ps pg rt M X sb sv l0 sp k p n h (A++(kc,c)::B) (Tr.big k [(kc,c)]) F X':=by
 have hq:=hs.ts.mem.nd q m s.i_
 have hp:=hs.ts.mem.nd p n s.at_
 have hz:=(s.vS.sz s.i_).1
 by_cases hquiet:Tr.sz k (Tr.its c)≤510∧Tr.sz k (Tr.its c0)≤Tr.sz k (Tr.its c)
 ·refine (xR (sb:=sb) (p:=p) hq (by rw[hz];exact hquiet.1) (by rw[s.was,hz];exact_mod_cast hquiet.2)).mono ?_
  rintro e X' ⟨rfl,hb⟩
  exact⟨rfl,EE s hs hquiet.1 hquiet.2 hb⟩
 ·obtain⟨P,A',rfl,LY,hA⟩:∃P A',A=P++A'∧A'.length≤1∧(A'=[]→P=[]):=by
   by_cases e:A=[]
   ·exact⟨[],[],e,Nat.zero_le _,fun _=>rfl⟩
   ·obtain⟨P,a,rfl⟩:=Tr.ck e
    exact⟨P,[a],rfl,Nat.le_refl _,fun e=>by cases e⟩
  obtain⟨B',N,rfl,M9,hB⟩:∃B' N,B=B'++N∧B'.length≤1∧(B'=[]→N=[]):=by
   cases B with
   |nil=>exact⟨[],[],rfl,Nat.zero_le _,fun _=>rfl⟩
   |cons b B=>exact⟨[b],B,rfl,Nat.le_refl _,fun e=>by cases e⟩
  have Ex:=(jY s hA hB sp).2
  have hst:=EI (E:=E) (X0:=X0) (Xs:=X) (R0:=R0) (Rs:=R) (ps:=ps) (rt:=rt) (ef:=sv) (sb:=sb) s LY M9 hk hl Ex
  have YJ:=Ih (E:=E) (X0:=X0) (Xs:=X) (R0:=R0) (Rs:=R) (ps:=ps) (rt:=rt) (ef:=sv) (sb:=sb) (l0:=l0) (sp:=sp) s hA hB LY M9
  have hlen:n.its.length=P.length+(A'.length+1+(B'.length+N.length)):=by
   rw[s.its,List.length_append,List.length_cons]
   unfold af
   rw[List.length_map,List.length_map,List.length_append,List.length_append]
   omega
  have Yp:(A'++(kc,c)::B').length=A'.length+1+B'.length:=by rw[List.length_append,List.length_cons];omega
  have hAP:A'.length=0→P.length=0:=fun e=>by rw[hA (List.length_eq_zero_iff.1 e)];rfl
  have hBN:B'.length=0→N.length=0:=fun e=>by rw[hB (List.length_eq_zero_iff.1 e)];rfl
  have hidx:n.at_=((P.length+A'.length:Nat):Int):=by rw[s.idx,List.length_append]
  have c6:=hp.c6
  rw[hidx] at c6
  have q_:=hp.small.len
  have pK:=List.nodup_cons.1 s.nd
  have Ml:∀V,Below X.heap.size X V→∃j,P.length=P.length+j∧NY E X0 R0 ps pg rt R M X sb sv k p n P N (A'++(kc,c)::B') (nF k A' B' kc c0 q) F l0 sp j (.slice none 0 0) V:=by
   intro V hV
   refine⟨0,rfl,[],(A'.map fun _=>[])++F::B'.map (fun _=>[]),R,M,sv,[],[],rfl,Nat.zero_le _, ?_⟩
   have Rh:((A'.map fun _=>[])++F::B'.map (fun _=>[])).flatten=F:=by
    rw[List.flatten_append,fE,List.flatten_cons,fE,List.append_nil,List.nil_append]
   have hsi:n.its=af (k+1) P++([]++(nF k A' B' kc c0 q++af (k+1) N)):=by
    rw[s.its,bW,bW]
    unfold nF
    simp
   refine⟨⟨⟨hs.ts.but.size,hs.still hV,jF.still hV,Own.nil _ _ _ _,fun b hb=>by cases hb⟩,trivial,fun i hi=>(by cases hi),List.nodup_nil⟩, ?_, ?_, ?_, ?_,fun r hr=> ?_,fun r y _ hy=>hy,fun r y hy=>(hs.ts.mem.lt hy).1,fun i hi=>(by cases hi)⟩
   ·rw[List.drop_zero,←hsi]
    exact s.at_
   ·rw[List.drop_zero,←hsi]
   ·rw[List.drop_zero,List.drop_zero]
    exact (eR fun x hx=>s.sides x (.inl (List.mem_append.2 (.inr hx)))).append ⟨⟨rfl,rfl,.inr ⟨q,rfl,s.vS⟩⟩,eR fun x hx=>s.sides x (.inr (List.mem_append.2 (.inl hx)))⟩
   ·rw[Rh];exact s.nd
   ·rw[Rh] at hr;exact .inl hr
  have hall:=all_eq P A' B' N kc c
  rw[hall]
  by_cases hf:bz m.its≤510
  ·refine xY hq hf (by rw[s.was,hz];have:¬Tr.sz k (Tr.its c0)≤Tr.sz k (Tr.its c):=fun e=>hquiet ⟨by omega,e⟩;omega) c6 hp.c1 hp.blk.lt (by omega) (by omega) q_ (by omega) Ml hst YJ hp.small.cap.1
  ·exact zv hq hf c6 hp.c1 hp.blk.lt (by omega) (by omega) q_ (by omega) Ml hst YJ hp.small.cap.1
end
end Go.Proofs.YtloekpcncjocaaaGreatDoor
