/- Elder texts, cut down and merged (13). -/
import Derived.Test.YtlpfhjbpknbndaaGreatDoorP12
import Derived.Test.YtlpfhjbpknbndaaGreatDoorP8
import Derived.Test.YtlpfhjbpknbndaaGreatDoorP7
import Derived.LaidEql
import Derived.Laws.StructEq
import Derived.BigRegion
import Derived.BigQuiet
import Derived.Test.YtlpfhjbpknbndaaGreatDoorPTk
set_option maxRecDepth 100000
set_option maxHeartbeats 8000000
namespace Go.Proofs.YtlpfhjbpknbndaaGreatDoor
open Value renaming int→bf,slice→cx,string→bR,tuple→gu,bool→eX,pointer→e7
open IntKind renaming i64→cu
open Ending renaming returned→eb
open Obj renaming cells→ey
open Or renaming inr→dn,inl→dc
open Option renaming none→av,some→aD
open List renaming append_assoc->aF,length_take->aO,length_drop->aZ,take_of_length_le->cg,length_append->au,setIfInBounds_toArray->aA,set_cons_succ->az,set_cons_zero->ay,take_append_drop->cP,append_nil->bA,length_nil->ef,mem_cons->aX,mem_cons_self->aE,mem_cons_of_mem->aI,nil_append->dI,map_append->bQ,mem_append->aj,nodup_cons->cL,length_map->aT,getElem?_append_right->iy,getElem?_eq_getElem->aK,cons_append->gJ,length_cons->a_,drop_eq_getElem_cons->cw,getElem_cons_drop->lT,getElem_mem->bI,take_succ_eq_append_getElem->cC,take_left->fX,length_eq_zero_iff->eG,flatten_append->dL,flatten_cons->dA
open Nat renaming min_eq_left->ct,zero_add->bE,le_refl->ah,zero_le->aB,le_trans->aH
open _root_.Array renaming getElem?_eq_some_iff->iY
open World renaming drew->bJ
section
open Go.RowKit Lib
section
variable {w:World} {B:Nat} {l ms:List It} {va:Option Addr} {mc:Nat}
theorem AP {g cap i j m:Nat} (h:aY B w (cx (aD ⟨g,0,av⟩) l.length cap) l) (hl:l.length<=400) (hm:m=ms.length) {vr vo:Nat} (hv:bu ak w vr vo ms/\vr<w.heap.size) (s:j<i+m) (hi:i<j) (N:j<l.length) (O:cap<i+m+(l.length-j)) (hB:B<=w.heap.size) (b:m<=400):
  Calls Tryz.prog 134 #[cx (aD ⟨g,0,av⟩) l.length cap,bf cu i,bf cu j,cx (aD ⟨vr,vo,av⟩) m mc] w fun e w'=>gF B w (cx (aD ⟨g,0,av⟩) l.length cap) (l.take i++ms++l.drop j) e w':=by
 obtain⟨R,hg,P,-,sL,q,t⟩:=jU h;have HH:=aa (And.intro h (And.intro hg (And.intro P (And.intro q t))));have HV:=aa hv;have r:=aa (show j<i+m/\j<l.length/\l.length<=cap/\m=ms.length/\i<j/\cap<i+m+(l.length-j) from⟨s,N,sL,hm,hi,O⟩);obtain⟨L,E⟩:∃L,L=l.length:=⟨_,rfl⟩;rw[<-E] at hl N sL O |-;have I:=aa E;have jD:(L:Int)<=400:=by omega
 have Wh:(i:Int)<=j:=by omega
 have Kg:(i:Int)<=L:=by omega
 have Im:(j:Int)<=L:=by omega
 have Wi:(j:Int)<L:=by omega
 have hne:((i:Int)==j)=false:=by rw[beq_eq_false_iff_ne];omega
 have Wj:((j:Int)==L)=false:=by rw[beq_eq_false_iff_ne];omega
 have xM:(L:Int)<=cap:=by omega
 have O7:¬cap=i:=by omega
 have XU:¬cap=j:=by omega
 have OY:(m:Int)<=400:=by omega
 have hTI:(i:Int)+m+(L-j)>cap:=by omega
 have hT0:(0:Int)<=(i:Int)+m+(L-j):=by omega
 have Wk:¬(i:Int)+m<=j:=by omega
 have hiT:(i:Int)<=(i:Int)+m+(L-j):=by omega
 have XG:(0:Int)<=(i:Int)+m:=by omega
 have ilT:(i:Int)+m<=(i:Int)+m+((L-j:Nat):Int):=by omega
 have iw:IntKind.i64.wrap ((i:Int)+m)=(i:Int)+m:=by
  have:=cX (i+m) (by omega)
  rwa [show ((i+m:Nat):Int)=(i:Int)+m by omega] at this
 have Vl:((i:Int)+m).toNat=i+m:=by omega
 obtain⟨M,Rc⟩:∃M,M=ak.cells ((l.drop i).take (j-i)):=⟨_,rfl⟩;have d:ak.cells l++R=ak.cells (l.take i)++(M++(ak.cells (l.drop j)++R)):=by grind [fA,List.drop_drop,aF]
 have x:=aa (show w.drew.heap[g]?=aD (ey (ak.cells (l.take i)++(M++(ak.cells (l.drop j)++R))).toArray 122 (0,0))/\(ak.cells (l.take i)).length=i*3/\M.length=(j-i)*3/\(ak.cells (l.drop j)).length=(L-j)*3/\cap<=maxLen/\(ak.cells (l.take i)++(M++(ak.cells (l.drop j)++R))).length=cap*3 from
  ⟨by rw[<-d];exact hg,by rw[bW,aO,ct (by omega)],by rw[Rc,bW,aO,aZ,ct (by omega)],by rw[bW,aZ,E],q,by rw[<-d];exact P⟩)
 have mw:g<w.heap.size:=(iY.1 hg).1;have hX:(ak.cells (l.take i)).length=i*3:=x.o.2.1;have H:=Own.lies h;have hx:∀k u,(ak.cells (l.take i))[k]?=aD u->w.drew.cell? ⟨g,k,av⟩=aD u:=by intro k u hu;have:=H k u (by rw[fA l i,List.getElem?_append_left (List.getElem?_eq_some_iff.1 hu).1];exact hu);rw[bE] at this;exact this
 have O8:bu ak w g (j*3) (l.drop j):=by have:=H.part j (l.length-j) (by omega);rw[bE,cg (by rw[aZ];exact ah _)] at this;exact this
 have J:=aa (And.intro O8 (And.intro mw hB));obtain⟨c,Z,a,Q,YI,y⟩:=rF w.drew g i cap (m+(L-j)) _ hX hx (by omega) (by omega) (by omega) 123;rw[show i+(m+(L-j))=i+m+(L-j) by omega] at a Q;have uD:((m+(L-j):Nat):Int)=(i:Int)+m+((L-j:Nat):Int)-i:=by omega
 rw[uD] at a;have HR:=aa a;have f:=aa (And.intro Q (And.intro YI y));clear mw hX H hx O8 a Q YI y uD hB;clear h hg P q t hv hm s hi N E Rc d O b;go_enter Tryz.func134,Tryz.ntmps134;go_wp2_with fail
 go_region
 go_wp2_with (at_builtin;refine Hid.o ?_);refine aa ?_;refine Lib.wpList_append_run _ rfl _ _ _ _ rfl _ _ rfl rfl _ _ HR.o ?_;obtain⟨w1,n⟩:∃w1,w1=w.drew.drew.alloc (ey (ak.cells (l.take i)++Z).toArray 122):=⟨_,rfl⟩;obtain⟨G,F⟩:∃G,G=w.drew.heap.size:=⟨_,rfl⟩;have A:Below w.heap.size w w1:=by rw[n];exact (Below.refl _ w).drew.drew.alloc (ah _) _
 have C:w1.heap[G]?=aD (ey (ak.cells (l.take i)++Z).toArray 122 (0,0)):=by rw[n,F];exact heap_alloc_new w.drew.drew _
 have v:=aa (show Below w.heap.size w w1/\w1.heap[G]?=aD (ey (ak.cells (l.take i)++Z).toArray 122 (0,0))/\bu ak w1 vr vo ms/\bu ak w1 g (j*3) (l.drop j)/\G=w.heap.size/\w.heap.size<=w1.heap.size from⟨A,C,HV.o.1.below A HV.o.2,J.o.1.below A J.o.2.1,F,A.size⟩);rw[<-n,<-F];clear n F A C;have O7:¬c=i:=by have:=f.o.1;have:=r.o;omega
 have Wm:¬c=i+m:=by have:=f.o.1;have:=r.o;have:=I.o;omega
 go_wp2_with (refine eR rfl _ _ rfl _ _ _ _ _ _ rfl rfl G (i*3) _ v.o.2.1 ms (by rw[<-r.o.2.2.2.1];exact (ct (by omega)).symm) (fun h0=>⟨rfl,vr,vo,rfl,v.o.2.2.1⟩) (by rw[f.o.2.2,<-r.o.2.2.2.1];have:=f.o.1;omega) ?_;intro W F S;refine Hid.o ?_);refine aa ?_;have b:(ak.cells ms).length=m*3:=by rw[bW,r.o.2.2.2.1]
 rw[<-x.o.2.1,fM rfl,b] at F;obtain⟨z,T⟩:∃z,z=Z.drop (m*3):=⟨_,rfl⟩;rw[<-T,<-aF] at F;have D:(ak.cells (l.take i)++ak.cells ms).length=(i+m)*3:=by rw[au,x.o.2.1,b];omega
 have Vn:z.length+(i+m)*3=c*3:=by have h1:=f.o.2.2;rw[au,x.o.2.1] at h1;rw[T,aZ];have:=f.o.1;omega
 have U:∀k,k<w.heap.size->¬k=G:=fun k V e=>by have:=v.o.2.2.2.2.1;omega
 have p:=aa (show W.heap[G]?=aD (ey (ak.cells (l.take i)++ak.cells ms++z).toArray 122 (0,0))/\Below w.heap.size w W/\bu ak W g (j*3) (l.drop j)/\(ak.cells (l.take i)++ak.cells ms).length=(i+m)*3/\z.length+(i+m)*3=c*3 from
  ⟨F,v.o.1.trans (S.below v.o.2.2.2.2.2 U),v.o.2.2.2.1.but S (U g J.o.2.1),D,Vn⟩)
 clear F S b T D Vn U;go_wp2_with fail;go_wp2_with (refine wp_region_any (by kernel_rfl) ?_;refine Hid.o ?_);refine aa ?_;try (change wpAny _ _ _ _ _ _ _ (bJ _))
 refine tk 0 ?_;refine tk 1 ?_;refine tk 2 ?_;refine tk 3 ?_;refine tk 4 ?_;refine tk 5 ?_;refine tk 6 ?_;refine tk 7 ?_;refine tk 8 ?_;try simp only[Act.put,aA,az,ay]
 refine rd [9] (rn fun K hK=> ?_);refine fL _ _ rfl _ _ _ _ _ _ rfl rfl G ((i+m)*3) _ p.o.1 (l.drop j) (by rw[aZ,<-I.o];exact (Nat.min_self _).symm) (fun _=>⟨rfl,g,j*3,rfl,p.o.2.2.1⟩) (by rw[au,p.o.2.2.2.1,aZ,<-I.o];have:=f.o.1;have:=p.o.2.2.2.2;omega) ?_;intro w3 Y bN;refine hK _ _ ?_;clear hK K;refine wpAny_done (by kernel_rfl) ?_ _;rw[<-p.o.2.2.2.1,fM rfl] at Y;obtain⟨R2,X⟩:∃R2,R2=z.drop (ak.cells (l.drop j)).length:=⟨_,rfl⟩;rw[<-X] at Y;have hcs:ak.cells (l.take i++ms++l.drop j)++R2=ak.cells (l.take i)++ak.cells ms++(ak.cells (l.drop j)++R2):=by rw[Elem.b9,Elem.b9];simp only[aF]
 have HE:=aa (show gF B w (cx (aD ⟨g,0,av⟩) L cap) (l.take i++ms++l.drop j) (eb (cx (aD ⟨G,0,av⟩) (i+m+(L-j)) c)) w3 from by
  have hb4:Below w.heap.size w w3:=p.o.2.1.drew.trans (bN.below p.o.2.1.size (fun k V e=>by have:=v.o.2.2.2.2.1;omega));refine⟨_,rfl,fG (R:=R2) (by rw[hcs];exact Y) ?_ ?_ f.o.1 f.o.2.1 (by rw[v.o.2.2.2.2.1];exact J.o.2.2),aG.aJ hb4 _,dn fun k V=> ?_,fun _=>rfl⟩;·rw[hcs,au,p.o.2.2.2.1,au,X,aZ,x.o.2.2.2.1];have:=f.o.1;have:=p.o.2.2.2.2;omega
  ·rw[au,au,aO,aZ];have:=r.o;have:=I.o;omega
  ·have e:aD G=aD k:=V;injection e with e;have:=v.o.2.2.2.2.1;omega)
 clear Y bN X hcs;go_wp2_with fail;go_ret;exact HE.o
end
section
variable {w:World} {B:Nat} {l ms:List It} {va:Option Addr} {mc:Nat}
theorem AQ {g cap i j m:Nat} (h:aY B w (cx (aD ⟨g,0,av⟩) l.length cap) l) (hl:l.length<=400) (O:m=ms.length) {vr vo:Nat} (P:bu ak w vr vo ms/\vr≠g/\∃cur,w.heap[vr]?=aD (ey cur 122 (0,0))/\cur.size≠0) (p:j<i+m) (hi:i<j) (A:j<l.length) (C:i+m+(l.length-j)<=cap) (d:m<=400):
  Calls Tryz.prog 134 #[cx (aD ⟨g,0,av⟩) l.length cap,bf cu i,bf cu j,cx (aD ⟨vr,vo,av⟩) m mc] w fun e w'=>gF B w (cx (aD ⟨g,0,av⟩) l.length cap) (l.take i++ms++l.drop j) e w':=by
 obtain⟨R,hg,D,-,Q,n,q⟩:=jU h;have HH:=aa (And.intro h (And.intro hg (And.intro D (And.intro n q))));have u:=aa P;have c:=aa (show j<i+m/\j<l.length/\l.length<=cap/\m=ms.length/\i<j/\i+m+(l.length-j)<=cap from⟨p,A,Q,O,hi,C⟩);obtain⟨L,v⟩:∃L,L=l.length:=⟨_,rfl⟩;rw[<-v] at hl A Q C |-;have f:=aa v;have jD:(L:Int)<=400:=by omega
 have Wh:(i:Int)<=j:=by omega
 have Kg:(i:Int)<=L:=by omega
 have Im:(j:Int)<=L:=by omega
 have Wi:(j:Int)<L:=by omega
 have hne:((i:Int)==j)=false:=by rw[beq_eq_false_iff_ne];omega
 have Wj:((j:Int)==L)=false:=by rw[beq_eq_false_iff_ne];omega
 have xM:(L:Int)<=cap:=by omega
 have O7:¬cap=i:=by omega
 have XU:¬cap=j:=by omega
 have OY:(m:Int)<=400:=by omega
 have hTI:¬(i:Int)+m+(L-j)>cap:=by omega
 have hT0:(0:Int)<=(i:Int)+m+(L-j):=by omega
 have ZT:(i:Int)+m+(L-j)<=cap:=by omega
 have Wk:¬(i:Int)+m<=j:=by omega
 have hiT:(i:Int)<=(i:Int)+m+(L-j):=by omega
 have Wm:¬cap=i+m:=by omega
 have XG:(0:Int)<=(i:Int)+m:=by omega
 have ilT:(i:Int)+m<=(i:Int)+m+((L-j:Nat):Int):=by omega
 have iw:IntKind.i64.wrap ((i:Int)+m)=(i:Int)+m:=by grind [cX]
 have Vl:((i:Int)+m).toNat=i+m:=by omega
 obtain⟨M,T⟩:∃M,M=ak.cells ((l.drop i).take (j-i)):=⟨_,rfl⟩;have b:ak.cells l++R=ak.cells (l.take i)++(M++(ak.cells (l.drop j)++R)):=by grind [fA,List.drop_drop,aF]
 have H:=aa (show w.drew.heap[g]?=aD (ey (ak.cells (l.take i)++(M++(ak.cells (l.drop j)++R))).toArray 122 (0,0))/\(ak.cells (l.take i)).length=i*3/\M.length=(j-i)*3/\(ak.cells (l.drop j)).length=(L-j)*3/\cap<=maxLen/\(ak.cells (l.take i)++(M++(ak.cells (l.drop j)++R))).length=cap*3 from
  ⟨by rw[<-b];exact hg,by rw[bW,aO,ct (by omega)],by rw[T,bW,aO,aZ,ct (by omega)],by rw[bW,aZ,v],n,by rw[<-b];exact D⟩)
 clear h hg D n q P O p hi A v T b C d;go_enter Tryz.func134,Tryz.ntmps134;go_wp2_with fail
 go_region
 go_wp2;rw[oC w.drew g ((i+m)*3) (L-j) (cap-(i+m)) vr vo m mc (fun e=>u.o.2.1 e.symm) ⟨_,H.o.1⟩ u.o.2.2];rw[Oper.upon_value];go_wp2_with fail;obtain⟨N,Z⟩:∃N,N=(M++(ak.cells (l.drop j)++R)).take (m*3):=⟨_,rfl⟩;obtain⟨Q0,E⟩:∃Q0,Q0=(M++(ak.cells (l.drop j)++R)).drop (m*3):=⟨_,rfl⟩;have U:M++(ak.cells (l.drop j)++R)=N++Q0:=by rw[Z,E,cP]
 have r:(M++(ak.cells (l.drop j)++R)).length+i*3=cap*3:=by have x:=H.o.2.2.2.2.2;rw[au,H.o.2.1] at x;omega
 have F:N.length=m*3:=by rw[Z,aO];have:=c.o;have:=f.o;omega
 have s:Q0.length+m*3+i*3=cap*3:=by rw[E,aZ];have:=c.o;have:=f.o;omega
 have t:=H.o.2.2.2.1;have d:(ak.cells ms).length=m*3:=by rw[bW,c.o.2.2.2.1]
 have Y:bu ak w.drew g (j*3) (l.drop j):=by
  have x:=H.o.1;rw[<-aF] at x;have V:=lP x;have e:(ak.cells (l.take i)++M).length=j*3:=by rw[au,H.o.2.1,H.o.2.2.1];have:=c.o;omega
  rw[e] at V;exact V
 have a:=aa (show w.drew.heap[g]?=aD (ey (ak.cells (l.take i)++N++Q0).toArray 122 (0,0))/\bu ak w.drew g (j*3) (l.drop j)/\(ak.cells (l.take i)++N).length=(i+m)*3/\N.length=m*3/\Q0.length+m*3+i*3=cap*3/\(ak.cells (l.drop j)).length=(L-j)*3/\(ak.cells ms).length=m*3 from
  ⟨by rw[aF,<-U];exact H.o.1,Y,by rw[au,H.o.2.1,F];omega,F,s,t,d⟩)
 clear Z E U r F s t d Y;go_wp2_with (refine wp_region_any (by kernel_rfl) ?_;refine Hid.o ?_);refine aa ?_;try (change wpAny _ _ _ _ _ _ _ (bJ _))
 refine tk 0 ?_;refine tk 1 ?_;refine tk 2 ?_;refine tk 3 ?_;refine tk 4 ?_;refine tk 5 ?_;refine tk 6 ?_;refine tk 7 ?_;refine tk 8 ?_;try simp only[Act.put,aA,az,ay]
 refine rd [9] (rn fun K W=> ?_);refine fL _ _ rfl _ _ _ _ _ _ rfl rfl g ((i+m)*3) _ a.o.1 (l.drop j) (by rw[aZ,<-f.o];exact (Nat.min_self _).symm) (fun _=>⟨rfl,g,j*3,rfl,a.o.2.1⟩) (by rw[au,a.o.2.2.1,aZ,<-f.o];have:=c.o;have:=f.o;have:=a.o.2.2.2.2.1;omega) ?_;intro w1 y X;refine W _ _ ?_;clear W K;refine wpAny_done (by kernel_rfl) ?_ _;have G:=(aG.refl (fun k=>k=g) w).drew.drew.trans X (fun _ _ h=>h);rw[<-a.o.2.2.1,fM rfl] at y;obtain⟨R2,I⟩:∃R2,R2=Q0.drop (ak.cells (l.drop j)).length:=⟨_,rfl⟩;rw[<-I,aF] at y;have L7:R2.length+(L-j)*3+m*3+i*3=cap*3:=by rw[I,aZ,a.o.2.2.2.2.2.1];have:=c.o;have:=f.o;have:=a.o.2.2.2.2.1;omega
 have z:=aa (show w1.heap[g]?=aD (ey (ak.cells (l.take i)++(N++(ak.cells (l.drop j)++R2))).toArray 122 (0,0))/\aG (fun k=>k=g) w w1/\bu ak w1 vr vo ms/\R2.length+(L-j)*3+m*3+i*3=cap*3 from⟨y,G,u.o.1.but (S:=fun k=>k=g) G u.o.2.1,L7⟩);clear y X G I L7;go_wp2_with (refine eR rfl _ _ rfl _ _ _ _ _ _ rfl rfl g (i*3) _ z.o.1 ms (by rw[<-c.o.2.2.2.1];exact (ct (by omega)).symm) (fun h0=>⟨rfl,vr,vo,rfl,z.o.2.2.1⟩) (by rw[au,H.o.2.1,au,a.o.2.2.2.1,<-c.o.2.2.2.1];omega) ?_;intro w2 J aV;refine Hid.o ?_);refine aa ?_;rw[<-H.o.2.1,fM rfl,a.o.2.2.2.2.2.2,List.drop_left' a.o.2.2.2.1] at J;have hcs:ak.cells (l.take i++ms++l.drop j)++R2=ak.cells (l.take i)++(ak.cells ms++(ak.cells (l.drop j)++R2)):=by rw[Elem.b9,Elem.b9];simp only[aF]
 have HE:=aa (show gF B w (cx (aD ⟨g,0,av⟩) L cap) (l.take i++ms++l.drop j) (eb (cx (aD ⟨g,0,av⟩) (i+m+(L-j)) cap)) w2 from by
  refine⟨_,rfl,fG (R:=R2) (by rw[hcs];exact J) ?_ ?_ (by have:=c.o;have:=f.o;omega) H.o.2.2.2.2.1 HH.o.2.2.2.2,(z.o.2.1.trans aV (fun _ _ e=>e)).mono fun k _ e=>by rw[e];rfl,dc rfl,fun _=>rfl⟩;·rw[hcs,au,au,au,H.o.2.1,a.o.2.2.2.2.2.1,a.o.2.2.2.2.2.2];have:=z.o.2.2.2;omega
  ·rw[au,au,aO,aZ];have:=c.o;have:=f.o;omega)
 clear J aV hcs;go_wp2_with fail;go_ret;exact HE.o
end
section
variable {w:World} {B:Nat} {l ms:List It} {lv:Value}
theorem CG {g cap i j:Nat} (h:aY B w (cx (aD ⟨g,0,av⟩) l.length cap) l) (y:B<=w.heap.size) (hl:l.length<=400) (H:aY 0 w lv ms) (d:∀k,lv.ownBlock=aD k->k≠g) (q:ms.length<=400) (hi:i<j) (z:j<=l.length):
  Calls Tryz.prog 134 #[cx (aD ⟨g,0,av⟩) l.length cap,bf cu i,bf cu j,lv] w fun e w'=>gF B w (cx (aD ⟨g,0,av⟩) l.length cap) (l.take i++ms++l.drop j) e w':=by
 obtain⟨r,S,s⟩:=iB h;rcases Nat.lt_or_ge 0 ms.length with hpos|A
 ·obtain⟨vr,mc,rfl,-,t,f⟩:=Own.form H hpos;have n:=d vr rfl;have o:=Own.lies H;obtain⟨R,hg,v,-,-,-,-⟩:=jU H;have hcell:∃cur,w.heap[vr]?=aD (ey cur 122 (0,0))/\cur.size≠0:=⟨_,hg,by rw[List.size_toArray,v];omega⟩;by_cases b:j=l.length;·grind [List.drop_length,rN,sY]
  ·by_cases p:i+ms.length<=j;·exact oK h hl rfl (fun _=>⟨vr,0,rfl,o,n⟩) p hi (by omega)
   ·grind [AQ,AP]
 ·obtain rfl:ms=[]:=List.eq_nil_of_length_eq_zero (by omega);obtain⟨a,mc,rfl,f⟩:=Own.slice H;rw[bA];by_cases b:j=l.length
  ·subst b;rw[List.drop_length,bA];rcases H.2 with⟨e,_⟩|⟨G,c,cur,e,_⟩;·simp_all[CF]
   ·rw[e];have o:bu ak w G 0 ([]:List It):=(by intro k u hu;simp[Elem.cells] at hu);have:=rN h hl rfl o hi (by simp only[ef];omega) (mc:=c);rw[bA] at this;exact this
  ·have:=oK h hl (m:=0) (ms:=[]) (va:=a) (mc:=mc) rfl (fun x=>absurd x (by simp)) (by omega) hi (by omega) (j:=j);rw[bA] at this;exact this
theorem wL {it:It} {vr vo i:Nat} (h:aY B w lv l) (d:B<=w.heap.size) (hl:l.length<=400) (a:bu ak w vr vo [it]) (H:∀k,lv.ownBlock=aD k->vr≠k) (G:∃cur,w.heap[vr]?=aD (ey cur 122 (0,0))) (hi:i<=l.length):
  Calls Tryz.prog 70 #[lv,bf cu i,cx (aD ⟨vr,vo,av⟩) 1 1] w fun e w'=>gF B w lv (l.take i++it::l.drop i) e w':=by
 by_cases b:i=l.length;·simp_all[List.take_length,List.drop_length,EN]
 ·obtain⟨g,cap,rfl,c,m,hc⟩:=Own.form h (by omega);by_cases C:l.length+1<=cap;·exact Cf h hl a (by omega) C (H g rfl) G
  ·grind [Cg]
end
section
variable {E:Ev} {X0 Xs X X' V:World} {R0 Rs R R':Nat->Prop} {ps:List (Nat×List UInt8)} {pg:List (Option Wl.Text)} {rt:List Nat} {Ms M M':Nat->Option NV} {k p q sb:Nat} {n0 n m:NV} {gG sv eT lv:Value} {h:Tr.Hd} {P A B N:List (Tr.Tx×Tr.E (k+1))} {kc:Tr.Tx} {c0 c:Tr.E (k+1)} {F:List Nat} {l0:List Int} {sp:List Nat} {I1 I2 LI WI:List It} {fa:List (List Nat)} {st:List (Tr.Tx×Tr.E (k+1))×List Nat}
theorem lC {wI:List It} {W2:List (Tr.Tx×Tr.E (k+1))} {f2:List (List Nat)} (o:mH E X0 R0 ps pg rt Rs Ms Xs sb gG k p n0 I1 I2 F l0 st WI wI W2 f2 R M X sv lv LI fa) (h:Below X.heap.size X V):mH E X0 R0 ps pg rt Rs Ms Xs sb gG k p n0 I1 I2 F l0 st WI wI W2 f2 R M V sv lv LI fa:=
 ⟨⟨o.row.row.step (o.row.row.ss.still h) (mQ.still h),o.row.kids,o.row.got,o.row.nd⟩,o.at_,o.keys,o.rest,o.nd,o.news,o.same,o.low,o.Cz⟩
theorem bp.first {R1:Nat->Tr.E (k+1)->List Nat->Prop} {i:It} {is:List It} {xs:List (Tr.Tx×Tr.E (k+1))} {fs:List (List Nat)} (x:Tr.Tx) (h:bp pg k R1 (i::is) xs fs):bp pg k R1 ({i with key:=x}::is) (Tr.bH x xs) fs:=by
 match xs,fs,h with
 |_::_,_::_,h=>exact⟨⟨rfl,h.1.2.1,h.1.2.2⟩,h.2⟩
 |[],_,h=>exact h.elim
 |_::_,[],h=>exact h.elim
theorem Jg {i:It} (o:mH E X0 R0 ps pg rt Rs Ms Xs sb gG k p n0 I1 I2 F l0 st WI [] [] [] R M X sv lv (i::LI) fa) (x:Tr.Tx) {xb:ByteArray} (T:bs x=xb) {g L c:Nat} (H:lv=cx (aD ⟨g,0,av⟩) L c):
  ∃R',mH E X0 R0 ps pg rt Rs Ms Xs sb gG k p n0 I1 I2 F l0 (Tr.bH x st.1,st.2) WI [] [] [] R' M (X.setCell ⟨g,0,av⟩ (bR xb)) sv lv ({i with key:=x}::LI) fa:=by
 subst H;obtain⟨d,-,-⟩:=iB o.row.row.own;subst d;have h:=vW (i::LI) 0 0 (by simp) (by decide) {i with key:=x} (bR xb) (by rw[<-T];rfl);have hown:aY Xs.heap.size (X.setCell ⟨g,0,av⟩ (bR xb)) (cx (aD ⟨g,0,av⟩) (i::LI).length c) ({i with key:=x}::LI):=by have f:=(World.ownsRow.stored o.row.row.own 0 (bR xb)).1;have e:ak.cells ({i with key:=x}::LI)=(ak.cells (i::LI)).set 0 (bR xb):=h;unfold aY Own;rw[e];exact f
 have l:aG (fun b=>(Value.slice (aD ⟨g,0,av⟩) (i::LI).length c).ownBlock=aD b) X (X.setCell ⟨g,0,av⟩ (bR xb)):=(aG.refl _ X).setCell _ _ fun _=>rfl;obtain⟨mA,R',n,hr,-,-⟩:=o.row.row.add (e:=eb (gu #[cx (aD ⟨g,0,av⟩) (i::LI).length c,bf cu 0])) ⟨_,rfl,hown,l,dc rfl⟩;have m:Value.slice (aD ⟨g,0,av⟩) (i::LI).length c=mA:=by grind
 subst m;refine⟨R',⟨⟨hr,o.row.kids.first x,fun j a=> ?_,o.row.nd⟩,o.at_,o.keys,o.rest,o.nd,o.news,o.same,o.low,o.Cz⟩⟩;rcases aX.1 a with rfl|a;·exact o.row.got i aE
 ·exact o.row.got j (aI _ a)
theorem wM (o:mH E X0 R0 ps pg rt Rs Ms Xs sb gG k p n0 (aq (k+1) P) (aq (k+1) N) F l0 st WI [] [] [] R M X sv lv LI fa) {W:List (Tr.Tx×Tr.E (k+1))} (H:n0.its.map It.key=(P++(W++N)).map (·.1)):WI.map It.key=W.map (·.1):=by have h:=o.keys;rw[dI,H,bQ,bQ,bQ,bQ,dJ,dJ] at h;exact List.append_cancel_right (List.append_cancel_left h)
theorem CI {α:Type} {a b:List (Tr.Tx×α)} (h:a.map (·.1)=b.map (·.1)):Tr.cj a=Tr.cj b:=by
 cases a with
 |nil=>cases b with
  |nil=>rfl
  |cons _ _=>cases h
 |cons x a=>cases b with
  |nil=>cases h
  |cons y b=>exact (List.cons.inj h).1
theorem all_eq (P A B N:List (Tr.Tx×Tr.E (k+1))) (kc:Tr.Tx) (c:Tr.E (k+1)):(P++A)++(kc,c)::(B++N)=P++((A++(kc,c)::B)++N):=by simp
theorem nw (s:Slot pg Ms k p q n m h (P++A) (B++N) kc c0 c F) (hA:A=[]->P=[]) (b:B=[]->N=[]) (sp:List Nat):
  Tr.uM k n.lo (jA n.hi) (P++((A++(kc,c)::B)++N)) (P++(Tr.bH (Tr.cj (A++(kc,c)::B)) ((A++(kc,c)::B).foldl (Tr.bL k) ([],sp)).1++N)) (Tr.big k [(kc,c)]) sp ((A++(kc,c)::B).foldl (Tr.bL k) ([],sp)).2/\∃h',Tr.ji k h' (A++(kc,c)::B):=by
 have H:=s.XT;rw[all_eq] at H;have hn:=s.Ra;have e:(if P++A=[] then n.lo else kc)=if P=[]/\A=[] then n.lo else kc:=by simp_all
 rw[e] at hn;have o:∀p∈A,Tr.Old (k+1) p.2:=fun x a=>kj (s.sides x (dc (aj.2 (dn a))));have O:∀p∈B,Tr.Old (k+1) p.2:=fun x a=>kj (s.sides x (dn (aj.2 (dc a))));exact⟨Tr.IY sp H hn hA b o s.old O,Tr.CE H hn o s.old O⟩
theorem AR (k:Nat) (kc:Tr.Tx) (c:Tr.E (k+1)):Tr.big k [(kc,c)]<=1:=by
 unfold Tr.big
 split
 ·exact aB _
 ·exact ah _
theorem zy (s:Slot pg Ms k p q n m h (P++A) (B++N) kc c0 c F) {l:List (Tr.Tx×Tr.E (k+1))} {sp sp':List Nat} (hs:Tr.uM k n.lo (jA n.hi) (P++((A++(kc,c)::B)++N)) l (Tr.big k [(kc,c)]) sp sp'):Tr.sz (k+1) l<=610:=by have H:=hs.size;have a:=AR k kc c;have h3:=s.fit;rw[<-all_eq,AM (c0:=c0)] at H;omega
theorem L8 (s:Slot pg Ms k p q n m h (P++A) (B++N) kc c0 c F) (hA:A=[]->P=[]) (j:B=[]->N=[])
  (o:mH E X0 R0 ps pg rt Rs Ms Xs sb gG k p n (aq (k+1) P) (aq (k+1) N) F l0 ((A++(kc,c)::B).foldl (Tr.bL k) ([],sp)) WI [] [] [] R M X sv lv WI fa):
  CC E X0 R0 Rs ps pg rt Ms Xs sb gG l0 sp k p n h (P++((A++(kc,c)::B)++N)) (Tr.big k [(kc,c)]) F X:=by
 obtain⟨a,h',I⟩:=nw s hA j sp;have d:=s.Q_;rw[all_eq] at d;have f:=wM o d;have b:((A++(kc,c)::B).foldl (Tr.bL k) ([],sp)).1.map (·.1)=(A++(kc,c)::B).map (·.1):=o.row.kids.keys.symm.trans f;have S:=Tr.Jc sp I b;rw[<-CI b,Tr.wm] at a;have l:=zy s a;obtain⟨fs,t,g⟩:=oJ (pg:=pg) (P:=P) (N:=N) (fun x i=>s.sides x (dc (aj.2 (dc i)))) (fun x i=>s.sides x (dn (aj.2 (dn i)))) o.row.kids;have e:=o.nd;have H:=o.news;rw[show ([]:List (List Nat)).flatten=[] from rfl,bA] at e H;refine⟨R,M,sv,_,Tr.mk h (P++(((A++(kc,c)::B).foldl (Tr.bL k) ([],sp)).1++N)),p::fa.flatten,_,o.row.row.ss,o.row.row.zk,o.at_,⟨rfl,rfl,rfl,s.own⟩,⟨_,fs,o.at_,zv s.mI rfl rfl rfl rfl rfl (by omega) a.row ?_, ?_,by rw[g]⟩,rfl,a,e,fun r hr=> ?_,o.same⟩;·rw[all_eq,bQ,bQ,bQ,bQ,S,zw s.page]
 ·simp_all
 ·rcases aX.1 hr with rfl|hr;·exact dc aE
  ·exact (H r hr).imp_left (aI _)
theorem Pu (s:Slot pg Ms k p q n m h (P++A) (B++N) kc c0 c F) (hA:A=[]->P=[]) (hB:B=[]->N=[])
  (o:mH E X0 R0 ps pg rt Rs Ms Xs sb gG k p n (aq (k+1) P) (aq (k+1) N) F l0 (Tr.bH (Tr.cj (A++(kc,c)::B)) ((A++(kc,c)::B).foldl (Tr.bL k) ([],sp)).1,((A++(kc,c)::B).foldl (Tr.bL k) ([],sp)).2) WI [] [] [] R M X sv lv LI fa)
  {v':Value} {NL:Nat} (D:aY 0 V v' (aq (k+1) P++(LI++aq (k+1) N))) (g:aG (fun b=>(Value.slice (aD ⟨n.rg,0,av⟩) NL n.cap).ownBlock=aD b) X V) (hw:v'.ownBlock=(Value.slice (aD ⟨n.rg,0,av⟩) NL n.cap).ownBlock\/∀b,v'.ownBlock=aD b->X.heap.size<=b) (hs:v'.ownBlock.isSome=true)
  (hX:X'=(V.setCell ⟨p,1,av⟩ v').setCell ⟨p,7,av⟩ (eX true)):
  CC E X0 R0 Rs ps pg rt Ms Xs sb gG l0 sp k p n h (P++((A++(kc,c)::B)++N)) (Tr.big k [(kc,c)]) F X':=by
 obtain⟨v,h',I8⟩:=nw s hA hB sp;have hsz:=zy s v;obtain⟨fs,d,K⟩:=oJ (pg:=pg) (P:=P) (N:=N) (fun x I=>s.sides x (dc (aj.2 (dc I)))) (fun x I=>s.sides x (dn (aj.2 (dn I)))) o.row.kids;have w:=o.nd;have t:=o.news;rw[show ([]:List (List Nat)).flatten=[] from rfl,bA] at w t;obtain⟨J,fQ⟩:∃J,J=aq (k+1) P++(LI++aq (k+1) N):=⟨_,rfl⟩;rw[<-fQ] at D d;dsimp only at d;obtain⟨G,c',rfl⟩:∃G c',v'=cx (aD ⟨G,0,av⟩) J.length c':=by
  obtain⟨a,c',rfl,-⟩:=Own.slice D;rcases D.2 with⟨e,_⟩|⟨G,cap',cur,e,_⟩;·rw[e] at hs;cases hs
  ·grind
 have hlt:G<V.heap.size:=(Own.block D G rfl).2;have L:=iB D;have hat:=o.at_;have Z:=o.row.row.ss.ts.mem;have dV:=Z.lt hat;have O3:n.rg≠p:=by have:=Z.EK hat hat;exact this
 have U:G=n.rg\/X.heap.size<=G:=by
  rcases hw with e|e;·left;exact Option.some.inj e
  ·exact dn (e G rfl)
 have NW:G≠p:=by
  rcases U with e|e;·rw[e];exact O3
  ·intro W;have:=dV.1;omega
 obtain⟨n',H⟩:∃n':NV,n'=⟨n.level,J,G,0,c',n.page,n.lo,n.hi,n.was,n.at_,true,true⟩:=⟨_,rfl⟩;have bK:aG (fun b=>b=n.rg\/b=p) X V:=g.mono fun b _ e=>dc (Option.some.inj e).symm;have jR:aG (fun b=>b=p) V X':=by rw[hX];exact ((aG.refl (fun b=>b=p) V).setCell _ _ fun _=>rfl).setCell _ _ fun _=>rfl
 have Y:aG (fun b=>b=n.rg\/b=p) X X':=bK.trans jR fun _ _ e=>dn e;have O:aY 0 X' (cx (aD ⟨G,0,av⟩) J.length c') J:=Own.but D jR fun b g e=>NW (by have W:aD G=aD b:=g;injection W with W;rw[W,e]);have hlen:=d.len.1;have abm:=d.sz;have yE:=Tr.jk (k+1) (P++(Tr.bH (Tr.cj (A++(kc,c)::B)) ((A++(kc,c)::B).foldl (Tr.bL k) ([],sp)).1++N));have BQ:NV.Small n':=by
  rw[H];refine⟨by show J.length<=400;omega,fun i hi=> ?_,L.2⟩;have Q:∀{is:List It} {xs:List (Tr.Tx×Tr.E (k+1))} {fs:List (List Nat)},bp pg k (dO M pg k) is xs fs->(∀x∈xs,x.1.length<=96)->∀i∈is,i.key.length<=200/\i.val.length<=200:=by
   intro is;induction is with
   |nil=>intro _ _ _ _ i hi;cases hi
   |cons j is ih=>
    intro xs fs u I i hi;cases xs with
    |nil=>exact u.elim
    |cons x xs=>cases fs with
     |nil=>exact u.elim
     |cons f fs=>
      rcases aX.1 hi with rfl|hi;·have:=I x aE;rw[u.1.1,u.1.2.1];exact⟨by omega,by decide⟩
      ·exact ih u.2 (fun y hy=>I y (aI _ hy)) i hi
  exact Q d (iI v.row).2.2 i hi
 have Su:=Z.nd p _ hat;have ZX:Nd X' p n':=by refine⟨?_,by rw[H];exact Own.lies O,BQ⟩;rw[hX,H];exact ((Su.blk.but g fun e=>O3 (Option.some.inj e)).set 1 _).set 7 _
 have S:Mem X' (upd M p n'):=Z.renew hat n' Y (fun b g=>by
  rcases g with e|e;·exact dn ⟨e,s.own⟩
  ·exact dc e) ZX (by rw[H]) (by rw[H];exact O) (by
  rw[H];rcases U with e|e;·exact dc ⟨e,s.own⟩
  ·exact dn e)
 have z:∀b,MB (upd M p n') b->MB M b\/X.heap.size<=b:=by
  rintro b ⟨r,y,hr,d⟩;rcases aN hr with⟨rfl,rfl⟩|⟨_,hr⟩
  ·rcases d with rfl|d;·exact dc ⟨_,_,hat,dc rfl⟩
   ·rw[H] at d;have d:b=G:=d;rcases U with e|e;·exact dc ⟨_,_,hat,dn (by rw[d,e])⟩
    ·right;omega
  ·exact dc ⟨r,y,hr,d⟩
 have hS:∀b,(b=n.rg\/b=p)->MB M b:=fun b g=>by
  rcases g with e|e;·exact⟨p,_,hat,dn e⟩
  ·exact⟨p,_,hat,dc e⟩
 have l:=o.row.row.ss;have abn:=jR.size;have T:∀b,(R b\/b=G)->R b\/X.heap.size<=b:=fun b g=>by
  rcases g with g|rfl;·exact dc g
  ·rcases U with e|e;·rw[e];exact dc (l.ts.kM _ (hS _ (dc rfl))).1
   ·exact dn e
 have hts:TS E X0 R0 (fun b=>R b\/b=G) ps pg rt (upd M p n') X':=by
  refine l.ts.own Y (fun b _ e=>l.ts.kM b (hS b e)) S (fun b g=> ?_) (fun _ h=>dc h) (fun b g=> ?_)
  ·refine⟨?_, ?_⟩
   ·obtain⟨r,y,hr,d⟩:=g;rcases aN hr with⟨rfl,rfl⟩|⟨_,hr⟩
    ·rcases d with rfl|d;·exact dc (l.ts.kM _ (hS _ (dn rfl))).1
     ·rw[H] at d;exact dn d
    ·exact dc (l.ts.kM b ⟨r,y,hr,d⟩).1
   ·rcases z b g with C|C;·exact (l.ts.kM b C).2
    ·exact aH l.ts.but.size C
  ·rcases g with g|rfl;·exact dc g
   ·rcases T _ (dn rfl) with C|C;·exact dc C
    ·exact dn ⟨C,by omega⟩
 have hsp:∀r∈fa.flatten,upd M p n' r=M r:=fun r hr=>aW fun e=>(cL.1 w).1 (by rw[<-e];exact hr)
 refine⟨_,upd M p n',sv,n',Tr.mk ⟨h.page,true⟩ (P++(Tr.bH (Tr.cj (A++(kc,c)::B)) ((A++(kc,c)::B).foldl (Tr.bL k) ([],sp)).1++N)),p::fa.flatten,_,l.nodes hts Y hS (fun _ h=>dc h) z,o.row.row.zk.trans (mQ.nodes Y hS (fun _ h=>dc h) T z (Dom.upd _ _ _)),bG _ _ _,⟨by rw[H],by rw[H],by rw[H],by rw[H]⟩,
  ⟨n',fs,bG _ _ _,⟨by rw[H];exact s.mI.level,by rw[H];exact s.mI.page,by rw[H];rfl,by rw[H];exact⟨by show Tr.sz (k+1) _<=664;exact aH hsz (by decide),v.row⟩,fun e=>by cases e⟩, ?_,by rw[K]⟩,rfl,v,w,fun r hr=> ?_,fun r y hr hy=> ?_⟩
 ·have e:n'.its=J:=by rw[H]
  rw[e];exact d.frame fun r hr=>by rw[K] at hr;exact hsp r hr
 ·rcases aX.1 hr with rfl|hr;·exact dc aE
  ·exact (t r hr).imp_left (aI _)
 ·rw[aW (fun e=>hr (by rw[e];exact aE))];exact o.same r y hr hy
end
section
variable {E:Ev} {X0 Xs X X' V:World} {R0 Rs R R':Nat->Prop} {ps:List (Nat×List UInt8)} {pg:List (Option Wl.Text)} {rt:List Nat} {Ms M M':Nat->Option NV} {k p q sb:Nat} {n m:NV} {gG sv eT lv:Value} {h:Tr.Hd} {P A B N:List (Tr.Tx×Tr.E (k+1))} {kc:Tr.Tx} {c0 c:Tr.E (k+1)} {F:List Nat} {l0:List Int} {sp:List Nat}
def qt (k:Nat) (A B:List (Tr.Tx×Tr.E (k+1))) (kc:Tr.Tx) (c0:Tr.E (k+1)) (q:Nat):List It:=aq (k+1) A++⟨kc,ej (k+1) c0,aD q⟩::aq (k+1) B
def SI (E:Ev) (X0:World) (R0:Nat->Prop) (ps:List (Nat×List UInt8)) (pg:List (Option Wl.Text)) (rt:List Nat) (Rs:Nat->Prop) (Ms:Nat->Option NV) (Xs:World) (sb:Nat) (gG:Value) (k p:Nat) (n:NV) (P N W:List (Tr.Tx×Tr.E (k+1))) (w:List It) (F:List Nat) (l0:List Int) (sp:List Nat) (j:Nat) (lv:Value) (X:World):Prop:=
 ∃iL f2 R M sv LI fa,iL.length=j/\j<=W.length/\mH E X0 R0 ps pg rt Rs Ms Xs sb gG k p n (aq (k+1) P) (aq (k+1) N) F l0 ((W.take j).foldl (Tr.bL k) ([],sp)) iL (w.drop j) (W.drop j) f2 R M X sv lv LI fa
def ZY (E:Ev) (X0:World) (R0:Nat->Prop) (ps:List (Nat×List UInt8)) (pg:List (Option Wl.Text)) (rt:List Nat) (Rs:Nat->Prop) (Ms:Nat->Option NV) (Xs:World) (sb:Nat) (gG:Value) (k p:Nat) (n:NV) (P N W:List (Tr.Tx×Tr.E (k+1))) (w:List It) (F:List Nat) (l0:List Int) (sp:List Nat) (j:Nat) (lv:Value) (nq:Nat) (X:World):Prop:=
 ∃iL i f f2 R M sv LI fa,∃h:j<W.length,iL.length=j/\SE E X0 R0 ps pg rt Rs Ms Xs sb gG k p n (aq (k+1) P) (aq (k+1) N) F l0 ((W.take j).foldl (Tr.bL k) ([],sp)) iL i (w.drop (j+1)) W[j] (W.drop (j+1)) f f2 nq R M X sv lv LI fa
def WIn (E:Ev) (X0:World) (R0:Nat->Prop) (ps:List (Nat×List UInt8)) (pg:List (Option Wl.Text)) (rt:List Nat) (Rs:Nat->Prop) (Ms:Nat->Option NV) (Xs:World) (sb:Nat) (gG:Value) (k p:Nat) (n:NV) (P N W:List (Tr.Tx×Tr.E (k+1))) (w:List It) (F:List Nat) (l0:List Int) (sp:List Nat) (j L:Nat) (ra:Option Addr) (J:Nat) (lv:Value) (X:World):Prop:=
 ∃iL i f f2 nq r Mb Xb T b c a rv IT fs R M sv LI fa,∃h:j<W.length,iL.length=j/\SE E X0 R0 ps pg rt Rs Ms Xs sb gG k p n (aq (k+1) P) (aq (k+1) N) F l0 ((W.take j).foldl (Tr.bL k) ([],sp)) iL i (w.drop (j+1)) W[j] (W.drop (j+1)) f f2 nq r Mb Xb T b c a/\
  (∃rc,rv=cx ra L rc)/\IT.length=L/\(∀t∈IT,t.node.isSome=true)/\J<=L/\
  wD E X0 R0 ps pg rt Rs Ms Xs sb gG k Mb Xb (a.flatten++f) l0 rv IT (Tr.parted k W[j]).1 fs (rowAt k W[j].1 (((W.take j).foldl (Tr.bL k) ([],sp)).1,((W.take j).foldl (Tr.bL k) ([],sp)).2++(Tr.parted k W[j]).2) (Tr.parted k W[j]).1 J) J R M X sv lv LI fa
theorem CJ {IT LI:List It} {cs:List (Tr.Tx×Tr.E (k+1))} {fs fa:List (List Nat)} {st:List (Tr.Tx×Tr.E (k+1))×List Nat} {j:Nat} {rv:Value} {Mb:Nat->Option NV} {Xb:World} (o:wD E X0 R0 ps pg rt Rs Ms Xs sb gG k Mb Xb F l0 rv IT cs fs st j R M X sv lv LI fa) (h:Below X.heap.size X V):wD E X0 R0 ps pg rt Rs Ms Xs sb gG k Mb Xb F l0 rv IT cs fs st j R M V sv lv LI fa:=
 ⟨⟨o.row.row.step (o.row.row.ss.still h) (mQ.still h),o.row.kids,o.row.got,o.row.nd⟩,o.rest,o.nd,Own.below o.own h (ah _),o.Cw,o.news,o.same,aH o.size h.size,o.low,o.dom⟩
theorem Jh {iL wI LI:List It} {i:It} {c:Tr.Tx×Tr.E (k+1)} {W2:List (Tr.Tx×Tr.E (k+1))} {f:List Nat} {f2 fa:List (List Nat)} {st:List (Tr.Tx×Tr.E (k+1))×List Nat} {I1 I2:List It} (o:SE E X0 R0 ps pg rt Rs Ms Xs sb gG k p n I1 I2 F l0 st iL i wI c W2 f f2 q R M X sv lv LI fa) (h:Below X.heap.size X V):SE E X0 R0 ps pg rt Rs Ms Xs sb gG k p n I1 I2 F l0 st iL i wI c W2 f f2 q R M V sv lv LI fa:=
 ⟨lC o.o h,o.node,o.zg⟩
theorem L9 {k:Nat} {x:Tr.Tx} {st:List (Tr.Tx×Tr.E (k+1))×List Nat} {cs:List (Tr.Tx×Tr.E (k+1))} {j:Nat} (h:j<cs.length):(rowAt k x st cs (j+1)).1≠[]:=by rw[qm h];exact Tr.wH _ _ _ _ _
theorem AU {c:Tr.Tx×Tr.E (k+1)} (h:0<(Tr.parted k c).1.length):((Tr.parted k c).1[0]).1=c.1:=by
 by_cases e:(Tr.its c.2).isEmpty=true;·grind [uf]
 ·grind [wF,wG]
theorem wN (c:Tr.Tx×Tr.E (k+1)):(Tr.parted k c).1.length<=2/\(Tr.parted k c).2.length<=1:=by
 unfold Tr.parted
 split
 ·grind
 ·grind
theorem zA (x:Tr.Tx) (st:List (Tr.Tx×Tr.E (k+1))×List Nat) (cs:List (Tr.Tx×Tr.E (k+1))):∀j,(rowAt k x st cs j).1.length<=st.1.length+j/\(rowAt k x st cs j).2.length<=st.2.length+(k+1)*j
 |0=>⟨ah _,Nat.le_add_right _ _⟩
 |j+1=>by
  have i:=zA x st cs j;by_cases h:j<cs.length;·rw[qm h];have:=Tr.ug k x (rowAt k x st cs j).1 (rowAt k x st cs j).2 cs[j];rw[Nat.mul_succ];omega
  ·have e:rowAt k x st cs (j+1)=rowAt k x st cs j:=(by grind [rowAt,cg]);rw[e,Nat.mul_succ];omega
theorem L_ (s:Slot pg Ms k p q n m h (P++A) (B++N) kc c0 c F) {j:Nat} (H:j<(A++(kc,c)::B).length) (a:j<(qt k A B kc c0 q).length) (hn:(qt k A B kc c0 q)[j].node=av):
  Tr.Ok (k+1) (eW n (P.length+j)) (jA (eu n (P.length+j))) ((A++(kc,c)::B)[j]).2:=by
 have b:j≠A.length:=by
  rintro rfl;have e:(qt k A B kc c0 q)[A.length]?=aD ⟨kc,ej (k+1) c0,aD q⟩:=by simp_all[qt,aq,aT,Nat.sub_self]
  rw[aK a] at e;rw[Option.some.inj e] at hn;cases hn
 have d:j<(A++(kc,c0)::B).length:=by simpa using H
 have E:(A++(kc,c)::B)[j]=(A++(kc,c0)::B)[j]:=by grind
 rw[E];have hd:(P++A)++(kc,c0)::(B++N)=(P++(A++(kc,c0)::B).take j)++(A++(kc,c0)::B)[j]::((A++(kc,c0)::B).drop (j+1)++N):=by
  have f:(A++(kc,c0)::B)=(A++(kc,c0)::B).take j++(A++(kc,c0)::B)[j]::(A++(kc,c0)::B).drop (j+1):=by simp_all
  rw[all_eq]
  conv=>lhs;rw[f]
  simp only[aF,gJ]
 have hl:(P++(A++(kc,c0)::B).take j).length=P.length+j:=by rw[au,aO,ct (by omega)]
 have:=mD (A:=P++(A++(kc,c0)::B).take j) (key:=((A++(kc,c0)::B)[j]).1) (c:=((A++(kc,c0)::B)[j]).2) (B:=(A++(kc,c0)::B).drop (j+1)++N) s.mI.near (by rw[Tr.its_mk,hd]) s.keys
 rwa [hl] at this
theorem CK:(qt k A B kc c0 q).length=(A++(kc,c)::B).length:=by unfold qt aq;simp
theorem Ji (s:Slot pg Ms k p q n m h (P++A) (B++N) kc c0 c F) (hA:A.length<=1) (hB:B.length<=1) (hk:k<=15) (hl:l0.length+sp.length<=50000) (Q:∃h',Tr.ji k h' (A++(kc,c)::B)):
  Steps p q sb E.tb P.length (P.length+(A++(kc,c)::B).length) n.rg n.ro n.its.length n.cap
   (fun a lv X=>∃j,a=P.length+j/\SI E X0 R0 ps pg rt Rs Ms Xs sb gG k p n P N (A++(kc,c)::B) (qt k A B kc c0 q) F l0 sp j lv X)
   (fun a lv nq X=>∃j,a=P.length+j/\ZY E X0 R0 ps pg rt Rs Ms Xs sb gG k p n P N (A++(kc,c)::B) (qt k A B kc c0 q) F l0 sp j lv nq X)
   (fun a L ra J lv X=>∃j,a=P.length+j/\WIn E X0 R0 ps pg rt Rs Ms Xs sb gG k p n P N (A++(kc,c)::B) (qt k A B kc c0 q) F l0 sp j L ra J lv X):=by
 obtain⟨h',Q⟩:=Q
 have hwl:(qt k A B kc c0 q).length=(A++(kc,c)::B).length:=CK
 have hW3:(A++(kc,c)::B).length<=3:=by rw[au,a_];omega
 have w:∀x∈A++(kc,c)::B,x.1.length<=96:=by
  have H:=(iI s.XT).2.2;intro x C;rcases aj.1 C with C|C;·grind
  ·rcases aX.1 C with rfl|C;·exact H (kc,c0) (aj.2 (dn aE))
   ·grind
 have hcell:∀{I1 I2:List It} {R M X},TS E X0 R0 R ps pg rt M X->M p=aD {n with its:=I1++I2}->(I1++I2).map It.key=n.its.map It.key->X.cell? ⟨p,1,av⟩=aD (cx (aD ⟨n.rg,n.ro,av⟩) n.its.length n.cap):=by
  intro I1 I2 R M X ht hm hks;have r:(I1++I2).length=n.its.length:=by have:=congrArg List.length hks;rwa [aT,aT] at this
  have:=(ht.mem.nd p _ hm).c1;rw[<-r];exact this
 generalize ZZ:A++(kc,c)::B=W at*
 generalize hWi:qt k A B kc c0 q=W0 at*
 refine⟨?_, ?_, ?_, ?_, ?_, ?_, ?_, ?_⟩
 ·rintro a lv X ⟨j,rfl,iL,f2,R,M,sv,LI,fa,H,D,o⟩;exact⟨o.row.row.ss.blk.cell (j:=0) rfl,hcell o.row.row.ss.ts o.at_ o.keys⟩
 ·rintro a lv X V ⟨j,rfl,iL,f2,R,M,sv,LI,fa,H,D,o⟩ y;exact⟨j,rfl,iL,f2,R,M,sv,LI,fa,H,D,lC o y⟩
 ·rintro a lv X ⟨j,rfl,iL,f2,R,M,sv,LI,fa,H,D,o⟩-hlt;have b:j<W.length:=by omega
  have hj0:j<W0.length:=by omega
  rw[cw b,cw hj0] at o;obtain⟨i1,i2,f,f2,e1,rfl,-,-⟩:=o.rest.cons_inv;have hI:(aq (k+1) P++iL).length=P.length+j:=by rw[au,H];unfold aq;rw[aT]
  refine (CA o (Below.refl _ _) s.mI.level hk (by rw[hI]) (fun hn=> ?_)).mono ?_;·grind [L_]
  ·rintro e X' ⟨nq,R',M',f',rfl,g⟩;exact⟨nq,rfl,j,rfl,iL,_,f',f2,R',M',sv,LI,fa,b,H,g⟩
 ·rintro a lv nq X V ⟨j,rfl,iL,i,f,f2,R,M,sv,LI,fa,b,H,g⟩ y;exact⟨j,rfl,iL,i,f,f2,R,M,sv,LI,fa,b,H,Jh g y⟩
 ·rintro a lv nq X ⟨j,rfl,iL,i,f,f2,R,M,sv,LI,fa,b,H,g⟩;have G:=g.o.row.row.ss.ts;refine⟨hcell G g.o.at_ g.o.keys,i, ?_, ?_⟩;·have Jj:=(G.mem.nd p _ g.o.at_).row;have hI:(aq (k+1) P++iL).length=P.length+j:=(by rw[au,H];unfold aq;rw[aT]);have hidx:P.length+j<(aq (k+1) P++(iL++(i::W0.drop (j+1)++aq (k+1) N))).length:=(by rw[<-aF,au,hI];simp);have:=v_.of (j:=P.length+j) Jj hidx;have e:(aq (k+1) P++(iL++(i::W0.drop (j+1)++aq (k+1) N)))[P.length+j]'hidx=i:=(by grind);rw[<-e];exact this
  ·have hold:=(Tr.ji.at (qp (W1:=W.take j) (W2:=W[j]::W.drop (j+1)) (by rw[lT,cP];exact Q))).2.2.1;have t:=(Tr.pE k (W.take j) ([],sp)).2;have hlb:(2*k+3)*(W.take j).length<=99:=by
    have:(W.take j).length<=3:=by rw[aO];omega
    calc (2*k+3)*(W.take j).length<=33*3:=Nat.mul_le_mul (by omega) this
     _=99:=rfl
   refine (Jd g (Below.refl _ _) hold.1 (by rw[au];unfold gP;rw[aT];simp only at t;omega)).mono ?_;rintro e X' ⟨rv,R',M',eT,IT,fs,rfl,SD,z⟩;obtain⟨ra,rc,rfl,-⟩:=Own.slice z.own;have u:=z.rest.len.1;have hp2:=(wN W[j]).1;have hL:IT.length=(Tr.parted k W[j]).1.length:=u;refine⟨IT.length,ra,rc,rfl,by omega,j,rfl,iL,i,f,f2,nq,R,M,X,sv,lv,LI,fa,_,IT,fs,R',M',eT,LI,fa,b,H,g,⟨rc,rfl⟩,rfl,SD,aB _,z⟩
 ·rintro a L ra J lv X V ⟨j,rfl,iL,i,f,f2,nq,S,Mb,Xb,T,U,Y,v,rv,IT,fs,R,M,sv,LI,fa,b,H,g,D,h3,h4,h5,o⟩ y;exact⟨j,rfl,iL,i,f,f2,nq,S,Mb,Xb,T,U,Y,v,rv,IT,fs,R,M,sv,LI,fa,b,H,g,D,h3,h4,h5,CJ o y⟩
 ·rintro a L ra J lv X ⟨j,rfl,iL,i,f,f2,nq,S,Mb,Xb,T,U,Y,v,rv,IT,fs,R,M,sv,LI,fa,b,H,g,⟨rc,rfl⟩,h3,h4,h5,o⟩ hlt;have Im:J<IT.length:=by omega
  obtain⟨gr,cr,hv,-,mw,-⟩:=Own.form o.own (by omega);have hra:ra=aD ⟨gr,0,av⟩:=by injection hv
  have u:=o.rest.len.1;rw[aZ,aZ] at u;have Z:J<(Tr.parted k W[j]).1.length:=by omega
  have I:=o.own;rw[hv] at I;have Wn:=v_.of (Own.lies I) Im;refine⟨gr,IT[J],hra,Wn,fun V y=> ?_⟩;have t:=Tr.pE k (W.take j) ([],sp);have K:=zA W[j].1 (((W.take j).foldl (Tr.bL k) ([],sp)).1,((W.take j).foldl (Tr.bL k) ([],sp)).2++(Tr.parted k W[j]).2) (Tr.parted k W[j]).1 J;have htk:(W.take j).length<=3:=by rw[aO];omega
  have hlb:(2*k+3)*(W.take j).length<=99:=by
   calc (2*k+3)*(W.take j).length<=33*3:=Nat.mul_le_mul (by omega) htk
    _=99:=rfl
  have hp2:=wN W[j];have abo:(k+1)*J<=32:=by
   calc (k+1)*J<=16*2:=Nat.mul_le_mul (by omega) (by omega)
    _=32:=rfl
  have abp:=o.row.kids.len.1;have Wo:=E9 (x:=[]) sp (((W.take j).foldl (Tr.bL k) ([],sp)).2++(Tr.parted k W[j]).2) (W1:=W.take j) (c:=W[j]) (W2:=W.drop (j+1)) (h:=h') (by rw[lT,cP];exact Q) (fun d l _=>Tr.nil_le _) (w _ (bI b)) J Z;have e2:(((W.take j).foldl (Tr.bL k) ([],sp)).2++(Tr.parted k W[j]).2).length=((W.take j).foldl (Tr.bL k) ([],sp)).2.length+(Tr.parted k W[j]).2.length:=au
  refine (E8 o y Im Z h4 (by simp only at K t;simp only[ef] at t;omega) Wo.1 (by
   rw[au];unfold gP;rw[aT];simp only at K t;omega) hk Wo.2).mono ?_
  rintro e V' ⟨mA,R',M',eT,N3,jV,rfl,o'⟩
  have Z0:Tr.bO k ((Tr.parted k W[j]).1[J]).1 (rowAt k W[j].1 (((W.take j).foldl (Tr.bL k) ([],sp)).1,((W.take j).foldl (Tr.bL k) ([],sp)).2++(Tr.parted k W[j]).2) (Tr.parted k W[j]).1 J).1 (rowAt k W[j].1 (((W.take j).foldl (Tr.bL k) ([],sp)).1,((W.take j).foldl (Tr.bL k) ([],sp)).2++(Tr.parted k W[j]).2) (Tr.parted k W[j]).1 J).2 (Tr.parted k W[j]).1[J]=
    rowAt k W[j].1 (((W.take j).foldl (Tr.bL k) ([],sp)).1,((W.take j).foldl (Tr.bL k) ([],sp)).2++(Tr.parted k W[j]).2) (Tr.parted k W[j]).1 (J+1):=by
   rw[qm Z];refine (Cy k _ _ _ _ fun he=> ?_).symm;cases J with
   |zero=>exact (AU Z).symm
   |succ J=>exact absurd he (L9 (by omega))
  rw[Z0] at o';exact⟨mA,rfl,j,rfl,iL,i,f,f2,nq,S,Mb,Xb,T,U,Y,v,_,IT,fs,R',M',eT,N3,jV,b,H,g,⟨rc,rfl⟩,h3,h4,by omega,o'⟩
 ·rintro a L ra lv X ⟨j,rfl,iL,i,f,f2,nq,S,Mb,Xb,T,U,Y,v,rv,IT,fs,R,M,sv,LI,fa,b,H,g,⟨rc,rfl⟩,h3,h4,h5,o⟩;have u:=o.rest.len.1;rw[aZ,aZ] at u;have O:=Fa g o;have r:(Tr.parted k W[j]).1.length<=L:=by omega
  have Z0:rowAt k W[j].1 (((W.take j).foldl (Tr.bL k) ([],sp)).1,((W.take j).foldl (Tr.bL k) ([],sp)).2++(Tr.parted k W[j]).2) (Tr.parted k W[j]).1 L=(W.take (j+1)).foldl (Tr.bL k) ([],sp):=by have e1:rowAt k W[j].1 (((W.take j).foldl (Tr.bL k) ([],sp)).1,((W.take j).foldl (Tr.bL k) ([],sp)).2++(Tr.parted k W[j]).2) (Tr.parted k W[j]).1 L=rowAt k W[j].1 (((W.take j).foldl (Tr.bL k) ([],sp)).1,((W.take j).foldl (Tr.bL k) ([],sp)).2++(Tr.parted k W[j]).2) (Tr.parted k W[j]).1 (Tr.parted k W[j]).1.length:=(by unfold rowAt;rw[cg r,cg (ah _)]);rw[e1,AK,List.take_add_one,aK b,List.foldl_append];rfl
  rw[Z0] at O;exact⟨j+1,by omega,iL++[i],f2,R,M,sv,LI,fa,by rw[au,H];rfl,by omega,O⟩
end
section
variable {w:World} {p q sb tb:Nat} {m:NV}
theorem AV {P:Nat->Value->World->Prop} {PB:Nat->Value->Nat->World->Prop} {Q:Nat->Nat->Option Addr->Nat->Value->World->Prop} {at_ fr to rg ro NL cap:Nat} (h:Nd w q m) (hf:cz m.its<=510) (hs:(cz m.its:Int)<m.was)
  (c6:w.cell? ⟨p,6,av⟩=aD (bf cu at_)) (c1:w.cell? ⟨p,1,av⟩=aD (cx (aD ⟨rg,ro,av⟩) NL cap)) (hp:p<w.heap.size)
  (r:fr=at_-1) (s:to=min (at_+2) NL) (hN:NL<=400) (hat:at_<NL) (QX:∀V,Below w.heap.size w V->P fr (cx av 0 0) V) (hS:Steps p q sb tb fr to rg ro NL cap P PB Q)
  {G:World->Prop} {PF PG:Option Addr->Nat->Nat->World->Prop} (hE:Ends p fr to rg ro NL cap P G PF PG) (Ki:NL<=cap):
  Calls Tryz.prog 87 #[ptr sb,ptr p,ptr q] w fun e w'=>e=eb (bf cu 0)/\G w':=by
 have J:=aa (fun V (l:Below w.heap.size w V)=>je (h.still l));have N:=aa (fun V (l:Below w.heap.size w V)=>gZ (h.still l));have O:=aa (fun V (l:Below w.heap.size w V)=>(h.still l).c5);rw[decide_eq_true hf] at J;have yF:¬(cz m.its:Int)≥m.was:=by omega
 have c:=aa (Below.refl w.heap.size w);have HC:=aa (fun V (l:Below w.heap.size w V)=>And.intro ((l.cell (p:=⟨p,6,av⟩) hp).trans c6) ((l.cell (p:=⟨p,1,av⟩) hp).trans c1));have HP:=aa QX;have I:=aa hS;have t:=aa hE;have xM:(NL:Int)<=cap:=by omega
 have Vp:fr<to/\to<=NL:=by omega
 have A:=aa (And.intro r (And.intro s (And.intro hN (And.intro hat Vp))));unfold ptr at J N;have IP:(NL:Int)<=400:=by omega
 have LB:(at_:Int)<NL:=by omega
 have q1:IntKind.i64.wrap ((at_:Int)-1)=(at_:Int)-1:=by rw[IntKind.wrap_i64];omega
 have q2:IntKind.i64.wrap ((at_:Int)+2)=(at_:Int)+2:=by rw[IntKind.wrap_i64];omega
 have e1:max ((at_:Int)-1) 0=(fr:Int):=by omega
 have e2:min ((at_:Int)+2) (NL:Int)=(to:Int):=by omega
 clear h hf hs c6 c1 QX r s hN hat hS Vp hE Ki;go_enter Tryz.func87,Tryz.ntmps87;unfold ptr;go_wp2_with (refine wp_region_any (by kernel_rfl) ?_;refine Hid.o ?_);refine aa ?_;try (change wpAny _ _ _ _ _ _ _ (bJ _))
 refine tk 0 ?_;refine rd [1] (rn fun K d=> ?_);go_simp;refine (J.o _ ((Below.refl _ w).drew)).mono ?_;rintro e w1 ⟨rfl,B⟩;refine d _ _ ?_;clear d K;have c:=aa (((Below.refl w.heap.size w).drew).trans B);have W:=aa (O.o w1 c.o);have c5:=W.o;clear B;refine tk 2 ?_;refine tk 3 ?_;refine tk 5 ?_;refine tk 6 ?_;refine tk 7 ?_;try simp only[Act.put,aA,az,ay]
 refine rd [4,8] (AllReady.cons rfl (fun K d=> ?_) (rn fun K d=> ?_))
 focus
  go_simp
  refine (N.o _ c.o).mono ?_
  rintro e D ⟨rfl,f⟩
  have c:=aa (c.o.trans (f.mono c.o.size))
  have W:=aa (O.o D c.o)
  have c5:=W.o
  clear f
  refine d _ _ ?_;clear d K
  refine rd [8] (rn fun K d=> ?_)
  go_simp
  refine d _ _ ?_;clear d K
 rotate_left
 focus
  go_simp
  refine d _ _ ?_;clear d K
  refine rd [4] (rn fun K d=> ?_)
  go_simp
  refine (N.o _ c.o).mono ?_
  rintro e D ⟨rfl,f⟩
  have c:=aa (c.o.trans (f.mono c.o.size))
  have W:=aa (O.o D c.o)
  have c5:=W.o
  clear f
  refine d _ _ ?_;clear d K
 all_goals
  try simp only[Act.put,aA,az,ay]
  refine tk 9 ?_
  refine tk 10 ?_
  refine wpAny_done (by kernel_rfl) ?_ _
  clear c5
  have c6:=(HC.o _ c.o).1
  have c1:=(HC.o _ c.o).2
  go_wp2_with (refine wp_region_held_drew (S:=(fun X=>X.cell? ⟨p,6,av⟩=aD (bf cu at_)/\X.cell? ⟨p,1,av⟩=aD (cx (aD ⟨rg,ro,av⟩) NL cap))) (by kernel_rfl) ?_ (fun hS=> ?_);focus skip;rotate_left;refine Hid.o ?_)
  refine aa ?_
  ·first|trivial|exact⟨c6,c1⟩
  refine bg 0 hS ?_
  refine bg 1 hS ?_
  refine bg 2 hS ?_
  refine bg 3 hS ?_
  refine bg 4 hS ?_
  refine bg 5 hS ?_
  refine bg 6 hS ?_
  refine bg 7 hS ?_
  refine bg 8 hS ?_
  refine bg 9 hS ?_
  refine bg 10 hS ?_
  refine bg 11 hS ?_
  refine bg 12 hS ?_
  refine bg 13 hS ?_
  refine bg 14 hS ?_
  refine bg 15 hS ?_
  refine bg 16 hS ?_
  refine bg 17 hS ?_
  refine bg 18 hS ?_
  refine wpAnyH_done (by kernel_rfl) ?_ _
  try simp only[Act.put,aA,az,ay]
  have c:=aa (c.o.drew)
  clear c6 c1
  go_wp2_with fail
  go_loopw [9,10,11,12,14] (fun lv R _ _ _ wr=>∃a:Nat,fr<=a/\a<=to/\R=bf cu a/\Hid (P a lv wr)) (fun _ R _ _ _ _=>to-(RowKit.intOf R).toNat)
  case atStart=>exact⟨fr,ah _,by have:=A.o;omega,rfl,aa (HP.o _ c.o)⟩
  case round=>
   obtain⟨a,T,hat,rfl,U⟩:=hrel;obtain⟨c0,c1⟩:=I.o.cells a _ _ U.o;unfold ptr at c0;by_cases u:a<to
   ·have hI:(a:Int)<to:=(by omega);have XH:(a:Int)<NL:=(by have:=A.o;omega);go_wp2_with fail;refine (I.o.below a _ _ U.o T u).mono ?_;rintro e w2 ⟨nq,rfl,Y_⟩;unfold ptr;obtain⟨d1,it,H,C⟩:=I.o.LL a _ _ _ Y_;have E:=H.key;have a1:=H.val;have F:=H.node;clear c0 c1;have M:=aa C;clear C;go_wp2_with fail;refine M.o.mono ?_;rintro e w3 ⟨L,ra,rc,rfl,hL,v⟩;have EO:(L:Int)<=1000:=(by omega);have Za:=aa v;clear v d1 E a1 F H;go_wp2_with fail
    go_loopw [9,12,14,73] (fun lv _ _ Y wq=>∃j:Nat,j<=L/\Y=bf cu j/\Hid (Q a L ra j lv wq)) (fun _ _ _ Y _=>L-(RowKit.intOf Y).toNat)
    case atStart=>exact⟨0,aB _,rfl,Za⟩
    case round=>
     obtain⟨j,hj,rfl,v⟩:=hrel;by_cases we:j<L
     ·have Ir:(j:Int)<L:=(by omega);obtain⟨g,i,rfl,H,C⟩:=I.o.step a L _ j _ _ v.o we;have E:=H.key;have a1:=H.val;have F:=H.node;have M:=aa C;clear C;rw[bE] at E a1 F;obtain⟨W1,n⟩:∃W1,W1=wr.alloc (ey #[bR (bs i.key),bR (bs i.val),e7 (pa i.node)] 122):=⟨_,rfl⟩;obtain⟨ib,k⟩:∃ib,ib=wr.heap.size:=⟨_,rfl⟩;have k0:W1.cell? ⟨ib,0,av⟩=aD (bR (bs i.key)):=(by rw[n,k];exact (aU.new wr _ _).cell rfl);have Z:W1.cell? ⟨ib,1,av⟩=aD (bR (bs i.val)):=(by rw[n,k];exact (aU.new wr _ _).cell rfl);have k2:W1.cell? ⟨ib,2,av⟩=aD (e7 (pa i.node)):=(by rw[n,k];exact (aU.new wr _ _).cell rfl);have x:Below wr.heap.size wr W1:=(by rw[n];exact (Below.refl _ wr).alloc (ah _) _);have QY:=aa x;clear x;generalize pa i.node=nd at*;generalize bs i.key=kb at*;generalize bs i.val=vb at*;go_wp2_with fail;rw[<-n,<-k];clear n k E a1 F H;go_wp2_with fail;refine (M.o _ QY.o).mono ?_;rintro e D ⟨mA,rfl,Vq⟩;have Zb:=aa Vq;clear Vq k0 Z k2;go_wp2_with fail;go_roundw
      case rel=>exact⟨j+1,we,by go_num,Zb⟩
      case measure=>simp[RowKit.intOf];omega
     ·obtain rfl:j=L:=by omega
      have Ir:¬(j:Int)<j:=(by omega);have HD:=aa (I.o.done a j ra _ _ v.o);go_wp2_with fail;go_roundw
      case rel=>exact⟨a+1,by omega,u,by go_num,HD⟩
      case measure=>simp[RowKit.intOf];omega
   ·obtain rfl:a=to:=by omega
    have hI:¬(a:Int)<a:=(by omega);have Vm:(a:Int)<=cap:=(by have:=A.o;omega);have hI4:(fr:Int)<=a:=(by omega);obtain⟨la,ln,lc,rfl,GG,C⟩:=t.o.eq _ _ U.o;have M:=aa C;have IQ:(ln:Int)<=1000:=(by omega);clear C;go_wp2_with fail;refine M.o.mono ?_;rintro e w5 ⟨b,rfl,B,aV⟩;cases b with
    |true=>
     have y:=aa (B rfl);clear B aV;go_wp2_with fail;go_ret;exact⟨rfl,y.o⟩
    |false=>
     have Vr:=aa (aV rfl);clear B aV c0 c1;by_cases h0:ln=0;·subst h0;have hz:¬((0:Nat):Int)>0:=(by decide);obtain⟨c1,C⟩:=t.o.new _ _ _ _ (t.o.empty _ _ _ Vr.o);have Io:=aa C;clear C;go_wp2_with fail;refine Io.o.mono ?_;rintro e w6 ⟨va,vn,vc,rfl,⟨v1,Z⟩,⟨v7,k7⟩,f1,f7,z⟩;have y:=aa z;clear z;go_wp2_with fail;go_ret;exact⟨rfl,y.o⟩
     ·have hpos:0<ln:=(by omega);have hz:(ln:Int)>0:=(by omega);obtain⟨c1,g,kb,k0,rfl,r0,g0,fz,Sg⟩:=t.o.first _ _ _ _ Vr.o hpos;obtain⟨X1,IU⟩:∃X1,X1=w5.setCell ⟨g,0,av⟩ (bR kb):=⟨_,rfl⟩;rw[<-IU] at Sg;have IE:=aa IU;clear IU;have hI5:(fr:Int)<NL:=(by have:=A.o;omega);go_wp2_with fail;rw[<-IE.o];obtain⟨c1,C⟩:=t.o.new _ _ _ _ Sg;have Io:=aa C;clear C Sg r0 g0 fz;go_wp2_with fail;refine Io.o.mono ?_;rintro e w6 ⟨va,vn,vc,rfl,⟨v1,Z⟩,⟨v7,k7⟩,f1,f7,z⟩;have y:=aa z;clear z;go_wp2_with fail;go_ret;exact⟨rfl,y.o⟩
end
theorem Jk (W:World) (d:Nat) (a b:Option Nat) (ha:∀p,a=aD p->∃cur t,W.heap[p]?=aD (ey cur t (0,0))) (j:∀p,b=aD p->∃cur t,W.heap[p]?=aD (ey cur t (0,0))):
  (Op.equalIn (d+1) 118 (.pointer (pa a)) (.pointer (pa b))).run Tryz.prog W=.ok (decide (a=b)) W:=by
 have hu:Tryz.prog.underlying 118=aD (.pointer 127):=Tryz.underlying118;have i:∀w:World,(sizeOf 127).run Tryz.prog w=.ok 8 w:=fun w=>by kernel_rfl
 cases a with
 |none=>cases b<;>simp[pa,Op.equalIn,run_underlying hu]
 |some a=>
  cases b with
  |none=>simp[pa,Op.equalIn,run_underlying hu]
  |some b=>
   obtain⟨C,T,H⟩:=ha a rfl;obtain⟨cb,tb,c⟩:=j b rfl;by_cases e:a=b;·subst e;simp[pa,Op.equalIn,run_underlying hu,i,run_sameAddr_same]
   ·have f:(⟨a,0,av⟩:Addr)≠⟨b,0,av⟩:=(by intro h;injection h with h;exact e h);have g:=run_sameAddr_other (P:=Tryz.prog) (w:=W) f H c;simp[pa,Op.equalIn,run_underlying hu,i,g,e]
def AW (l m:List It) (w:World) (e:Ending) (w':World):Prop:=∃b,e=eb (eX b)/\(b=true↔l=m)/\Below w.heap.size w w'
def CL (w:World) (l:List It):Prop:=∀i∈l,∀p,i.node=aD p->∃cur t,w.heap[p]?=aD (ey cur t (0,0))
theorem CL.below {w w':World} {l:List It} (h:CL w l) (H:Below w.heap.size w w'):CL w' l:=fun i hi p hp=>by obtain⟨cur,t,hc⟩:=h i hi p hp;exact⟨cur,t,by rw[H.block p (iY.1 hc).1];exact hc⟩
theorem CN (w:World) (G O c1 C D c2:Nat) (l m:List It) (E:bu ak w G O l) (J:bu ak w C D m) (hl:l.length<=400) (X:m.length<=400) (q:CL w l) (r:CL w m):
  Calls Tryz.prog 133 #[cx (aD ⟨G,O,av⟩) l.length c1,cx (aD ⟨C,D,av⟩) m.length c2] w fun e w'=>AW l m w e w':=by
 have R:(l.length:Int)<=400:=by omega
 have Z:(m.length:Int)<=400:=by omega
 by_cases k:l.length=m.length
 ·have u:=aa (And.intro E (And.intro J k));have M:=aa (And.intro q r);rw[<-k];clear E J q r;obtain⟨L,z⟩:∃L,L=l.length:=⟨_,rfl⟩;rw[<-z] at R |-;have A:=aa z;clear z;go_enter Tryz.func133,Tryz.ntmps133;go_wp2
  go_loopw [13] (fun I wr=>∃j:Nat,j<=L/\I=bf cu j/\Hid (l.take j=m.take j)/\Hid (Below w.heap.size w wr)) (fun I _=>L-(RowKit.intOf I).toNat)
  case atStart=>exact⟨0,aB _,rfl,aa rfl,aa (Below.refl _ _)⟩
  case round=>
   obtain⟨j,N,rfl,P,d⟩:=hrel;by_cases f:j<L
   ·have T:(j:Int)<L:=(by omega);have b:j<l.length:=(by rw[<-A.o];exact f);have g:j<m.length:=(by rw[<-u.o.2.2];exact b);obtain⟨a0,a1,a2⟩:=bh (ez u.o.1 d.o) j b;obtain⟨b0,b1,b2⟩:=bh (ez u.o.2.1 d.o) j g
    have n:=aa (show j<L/\l.take (j+1)=l.take j++[l[j]]/\m.take (j+1)=m.take j++[m[j]]/\(l[j]=m[j]\/l≠m) from⟨f,cC b,cC g,by
     by_cases h:l[j]=m[j];·exact dc h
     ·exact dn (by rintro rfl;exact h rfl)⟩)
    have s:CL wr.drew l:=M.o.1.below d.o.drew;have Q:CL wr.drew m:=M.o.2.below d.o.drew;have v:(Op.equalIn 9999 118 (e7 (pa l[j].node)) (e7 (pa m[j].node))).run Tryz.prog wr.drew=.ok (decide (l[j].node=m[j].node)) wr.drew:=Jk wr.drew 9998 _ _ (s _ (bI b)) (Q _ (bI g));have a:(l[j].key=m[j].key/\l[j].val=m[j].val/\l[j].node=m[j].node)↔l[j]=m[j]:=(by cases l[j];cases m[j];simp only[It.mk.injEq]);generalize l[j]=x at*;generalize m[j]=y at*;clear f N b g s Q;by_cases i:x.key=y.key
    ·have B:(bs x.key).toList=(bs y.key).toList:=(by rw[i]);by_cases p:x.val=y.val
     ·have U:(bs x.val).toList=(bs y.val).toList:=(by rw[p]);by_cases hn:x.node=y.node
      ·have t:x=y:=a.1 ⟨i,p,hn⟩;have c:decide (x.node=y.node)=true:=decide_eq_true hn;rw[c] at v;have S:=aa t;clear i p hn c a t;go_wp2_with fail;go_wp2_with (refine wp_region_any (by kernel_rfl) ?_;refine Hid.o ?_);refine aa ?_;try (change wpAny _ _ _ _ _ _ _ (bJ _))
       refine tk 0 ?_;refine tk 1 ?_;refine tk 2 ?_;refine tk 4 ?_;refine tk 5 ?_;refine tk 6 ?_;try simp only[Act.put,aA,az,ay]
       refine rd [3,7] (AllReady.cons rfl (fun K H=> ?_) (rn fun K H=> ?_))
       focus
        go_simp
        refine H _ _ ?_;clear H K
        refine rd [7] (rn fun K H=> ?_)
        go_simp
        refine H _ _ ?_;clear H K
        refine rd [8] (rn fun K H=> ?_)
        go_simp
        refine H _ _ ?_;clear H K
       rotate_left
       focus
        go_simp
        refine H _ _ ?_;clear H K
        refine rd [3] (rn fun K H=> ?_)
        go_simp
        refine H _ _ ?_;clear H K
        refine rd [8] (rn fun K H=> ?_)
        go_simp
        refine H _ _ ?_;clear H K
       all_goals
        refine wpAny_done (by kernel_rfl) ?_ _
        have Y:=aa (show l.take (j+1)=m.take (j+1) by rw[n.o.2.1,n.o.2.2.1,P.o,S.o])
        have F:=aa (show Below w.heap.size w wr.drew from d.o.drew)
        go_wp2
        go_roundw
        case rel=>exact⟨j+1,n.o.1,by go_num,Y,F⟩
        case measure=>have:=n.o.1;simp[RowKit.intOf];omega
      ·have c:decide (x.node=y.node)=false:=decide_eq_false hn;rw[c] at v;have S:=aa (show ¬x=y from fun e=>hn (a.2 e).2.2);clear i p hn c a;go_wp2_with fail;go_wp2_with (refine wp_region_any (by kernel_rfl) ?_;refine Hid.o ?_);refine aa ?_;try (change wpAny _ _ _ _ _ _ _ (bJ _))
       refine tk 0 ?_;refine tk 1 ?_;refine tk 2 ?_;refine tk 4 ?_;refine tk 5 ?_;refine tk 6 ?_;try simp only[Act.put,aA,az,ay]
       refine rd [3,7] (AllReady.cons rfl (fun K H=> ?_) (rn fun K H=> ?_))
       focus
        go_simp
        refine H _ _ ?_;clear H K
        refine rd [7] (rn fun K H=> ?_)
        go_simp
        refine H _ _ ?_;clear H K
        refine rd [8] (rn fun K H=> ?_)
        go_simp
        refine H _ _ ?_;clear H K
       rotate_left
       focus
        go_simp
        refine H _ _ ?_;clear H K
        refine rd [3] (rn fun K H=> ?_)
        go_simp
        refine H _ _ ?_;clear H K
        refine rd [8] (rn fun K H=> ?_)
        go_simp
        refine H _ _ ?_;clear H K
       all_goals
        refine wpAny_done (by kernel_rfl) ?_ _
        have F:=aa (show AW l m w (eb (eX false)) wr.drew from⟨false,rfl,⟨fun h=>(by cases h),fun h=>absurd h (n.o.2.2.2.resolve_left S.o)⟩,d.o.drew⟩)
        go_wp2
        go_ret
        exact F.o
     ·have U:¬(bs x.val).toList=(bs y.val).toList:=(by rw[bt,bt];exact p);have S:=aa (show ¬x=y from fun e=>p (a.2 e).2.1);clear i p v a;go_wp2_with fail;go_wp2_with (refine wp_region_any (by kernel_rfl) ?_;refine Hid.o ?_);refine aa ?_;try (change wpAny _ _ _ _ _ _ _ (bJ _))
      refine tk 0 ?_;refine tk 1 ?_;refine tk 2 ?_;refine tk 4 ?_;refine tk 5 ?_;refine tk 6 ?_;try simp only[Act.put,aA,az,ay]
      refine rd [3,7] (AllReady.cons rfl (fun K H=> ?_) (rn fun K H=> ?_))
      focus
       go_simp
       refine H _ _ ?_;clear H K
       refine rd [7] (rn fun K H=> ?_)
       go_simp
       refine H _ _ ?_;clear H K
       refine rd [8] (rn fun K H=> ?_)
       go_simp
       refine H _ _ ?_;clear H K
      rotate_left
      focus
       go_simp
       refine H _ _ ?_;clear H K
       refine rd [3] (rn fun K H=> ?_)
       go_simp
       refine H _ _ ?_;clear H K
       refine rd [8] (rn fun K H=> ?_)
       go_simp
       refine H _ _ ?_;clear H K
      all_goals
       refine wpAny_done (by kernel_rfl) ?_ _
       have F:=aa (show AW l m w (eb (eX false)) wr.drew from⟨false,rfl,⟨fun h=>(by cases h),fun h=>absurd h (n.o.2.2.2.resolve_left S.o)⟩,d.o.drew⟩)
       go_wp2
       go_ret
       exact F.o
    ·have B:¬(bs x.key).toList=(bs y.key).toList:=(by rw[bt,bt];exact i);have S:=aa (show ¬x=y from fun e=>i (a.2 e).1);clear i v a;go_wp2_with fail;go_wp2_with (refine wp_region_any (by kernel_rfl) ?_;refine Hid.o ?_);refine aa ?_;try (change wpAny _ _ _ _ _ _ _ (bJ _))
     refine tk 0 ?_;refine tk 1 ?_;refine tk 2 ?_;refine tk 4 ?_;refine tk 5 ?_;refine tk 6 ?_;try simp only[Act.put,aA,az,ay]
     refine rd [3,7] (AllReady.cons rfl (fun K H=> ?_) (rn fun K H=> ?_))
     focus
      go_simp
      refine H _ _ ?_;clear H K
      refine rd [7] (rn fun K H=> ?_)
      go_simp
      refine H _ _ ?_;clear H K
      refine rd [8] (rn fun K H=> ?_)
      go_simp
      refine H _ _ ?_;clear H K
     rotate_left
     focus
      go_simp
      refine H _ _ ?_;clear H K
      refine rd [3] (rn fun K H=> ?_)
      go_simp
      refine H _ _ ?_;clear H K
      refine rd [8] (rn fun K H=> ?_)
      go_simp
      refine H _ _ ?_;clear H K
     all_goals
      refine wpAny_done (by kernel_rfl) ?_ _
      have F:=aa (show AW l m w (eb (eX false)) wr.drew from⟨false,rfl,⟨fun h=>(by cases h),fun h=>absurd h (n.o.2.2.2.resolve_left S.o)⟩,d.o.drew⟩)
      go_wp2
      go_ret
      exact F.o
   ·have T:¬(j:Int)<L:=by omega
    have V:=aa (show l=m by
     have:=P.o
     rwa [cg (by rw[<-A.o];omega),cg (by rw[<-u.o.2.2,<-A.o];omega)] at this)
    clear f N;go_wp2;go_ret;exact (show AW l m w (eb (eX true)) wr from⟨true,rfl,⟨fun _=>V.o,fun _=>rfl⟩,d.o⟩)
 ·have W:((l.length:Int)==m.length)=false:=by rw[beq_eq_false_iff_ne];omega
  go_enter Tryz.func133,Tryz.ntmps133;go_wp2;go_ret;exact (show AW l m w (eb (eX false)) w from⟨false,rfl,⟨fun h=>(by cases h),fun h=>absurd (congrArg List.length h) k⟩,Below.refl _ _⟩)
theorem CO (w:World) (a:Option Addr) (c1 g o c2:Nat) (l m:List It) (hl:l.length<=400) (c:m.length<=400) (H:l.length≠m.length):
  Calls Tryz.prog 133 #[cx a l.length c1,cx (aD ⟨g,o,av⟩) m.length c2] w fun e w'=>AW l m w e w':=by
 have j:(l.length:Int)<=400:=by omega
 have O:(m.length:Int)<=400:=by omega
 have b:((l.length:Int)==m.length)=false:=by rw[beq_eq_false_iff_ne];omega
 go_enter Tryz.func133,Tryz.ntmps133;go_wp2;go_ret;exact (show AW l m w (eb (eX false)) w from⟨false,rfl,⟨fun h=>(by cases h),fun h=>absurd (congrArg List.length h) H⟩,Below.refl _ _⟩)
theorem Ma {α:Type} {w0:It} {WI:List It} {W:List (Tr.Tx×α)} (h:(w0::WI).map It.key=W.map (·.1)):w0.key=Tr.cj W:=by
 cases W with
 |nil=>cases h
 |cons x W=>exact (List.cons.inj h).1
theorem CP {X:World} {M:Nat->Option NV} {q:Nat} {y:NV} (h:Mem X M) (H:M q=aD y):∃cur t,X.heap[q]?=aD (ey cur t (0,0)):=⟨_,_,(h.nd q y H).blk⟩
theorem bp.Cz {X:World} {M:Nat->Option NV} {pg:List (Option Wl.Text)} {k:Nat} (b:Mem X M):∀{is:List It} {xs:List (Tr.Tx×Tr.E (k+1))} {fs:List (List Nat)},bp pg k (dO M pg k) is xs fs->CL X is
 |[],[],[],_=>fun i hi=>by cases hi
 |i::is,x::xs,f::fs,h=>fun j H q a=>by
  rcases aX.1 H with rfl|H
  ·rcases h.1.2.2 with⟨hn,_⟩|⟨q',m,hr⟩;·grind
   ·rw[m] at a;cases a;obtain⟨y,hy,-,-⟩:=hr.head;exact CP b hy
  ·exact bp.Cz b h.2 j H q a
 |[],[],_::_,h=>h.elim
 |[],_::_,_,h=>h.elim
 |_::_,[],_,h=>h.elim
 |_::_,_::_,[],h=>h.elim
section
variable {E:Ev} {X0 Xs X X' V:World} {R0 Rs R R':Nat->Prop} {ps:List (Nat×List UInt8)} {pg:List (Option Wl.Text)} {rt:List Nat} {Ms M M':Nat->Option NV} {k p q sb:Nat} {n m:NV} {gG sv eT lv:Value} {h:Tr.Hd} {P A B N:List (Tr.Tx×Tr.E (k+1))} {kc:Tr.Tx} {c0 c:Tr.E (k+1)} {F:List Nat} {l0:List Int} {sp:List Nat}
def Wq (E:Ev) (X0:World) (R0:Nat->Prop) (ps:List (Nat×List UInt8)) (pg:List (Option Wl.Text)) (rt:List Nat) (Rs:Nat->Prop) (Ms:Nat->Option NV) (Xs:World) (sb:Nat) (gG:Value) (k p:Nat) (n:NV) (P N:List (Tr.Tx×Tr.E (k+1))) (F:List Nat) (l0:List Int) (st:List (Tr.Tx×Tr.E (k+1))×List Nat) (W:Nat) (la:Option Addr) (ln lc:Nat) (X:World):Prop:=
 ∃WI R M sv LI fa,ln=LI.length/\WI.length=W/\mH E X0 R0 ps pg rt Rs Ms Xs sb gG k p n (aq (k+1) P) (aq (k+1) N) F l0 st WI [] [] [] R M X sv (cx la ln lc) LI fa
theorem qu {st:List (Tr.Tx×Tr.E (k+1))×List Nat} {I1 I2 WI LI:List It} {fa:List (List Nat)} (o:mH E X0 R0 ps pg rt Rs Ms Xs sb gG k p n I1 I2 F l0 st WI [] [] [] R M X sv lv LI fa):
  X.cell? ⟨p,1,av⟩=aD (cx (aD ⟨n.rg,n.ro,av⟩) n.its.length n.cap)/\(I1++(WI++I2)).length=n.its.length/\bu ak X n.rg n.ro (I1++(WI++I2)):=by
 have h:=o.keys;rw[dI] at h;have H:(I1++(WI++I2)).length=n.its.length:=by have:=congrArg List.length h;rwa [aT,aT] at this
 have hat:=o.at_;rw[dI] at hat;have a:=o.row.row.ss.ts.mem.nd p _ hat;have:=a.c1;rw[<-H];exact⟨this,rfl,a.row⟩
theorem Mc (s:Slot pg Ms k p q n m h (P++A) (B++N) kc c0 c F) (hA:A=[]->P=[]) (V:B=[]->N=[]) (RJ:A.length<=1) (Ke:B.length<=1):
  Ends p P.length (P.length+(A++(kc,c)::B).length) n.rg n.ro n.its.length n.cap
   (fun a lv X=>∃j,a=P.length+j/\SI E X0 R0 ps pg rt Rs Ms Xs sb gG k p n P N (A++(kc,c)::B) (qt k A B kc c0 q) F l0 sp j lv X)
   (fun X=>CC E X0 R0 Rs ps pg rt Ms Xs sb gG l0 sp k p n h (P++((A++(kc,c)::B)++N)) (Tr.big k [(kc,c)]) F X)
   (fun la ln lc X=>Wq E X0 R0 ps pg rt Rs Ms Xs sb gG k p n P N F l0 ((A++(kc,c)::B).foldl (Tr.bL k) ([],sp)) (A++(kc,c)::B).length la ln lc X)
   (fun la ln lc X=>Wq E X0 R0 ps pg rt Rs Ms Xs sb gG k p n P N F l0 (Tr.bH (Tr.cj (A++(kc,c)::B)) ((A++(kc,c)::B).foldl (Tr.bL k) ([],sp)).1,((A++(kc,c)::B).foldl (Tr.bL k) ([],sp)).2) (A++(kc,c)::B).length la ln lc X):=by
 have hW3:(A++(kc,c)::B).length<=3:=by rw[au,a_];omega
 have mP:0<(A++(kc,c)::B).length:=by rw[au,a_];omega
 have v:=(Tr.pE k (A++(kc,c)::B) ([],sp)).1
 have W:(aq (k+1) P).length=P.length:=aT _
 have w:=s.Q_
 rw[all_eq] at w
 refine⟨?_, ?_, ?_, ?_⟩
 ·rintro lv X ⟨j,hj,iL,f2,R,M,sv,LI,fa,Y,h2,o⟩;obtain rfl:j=(A++(kc,c)::B).length:=by omega
  rw[List.take_length,List.drop_length,List.drop_eq_nil_of_le (by rw[CK (c:=c)];exact ah _)] at o;obtain⟨-,rfl⟩:=o.rest.uN;obtain⟨la,lc,rfl,-⟩:=Own.slice o.row.row.own;have J:=o.row.kids.len.1;have abq:LI.length<=6:=by simp only[ef] at v;omega
  refine⟨la,LI.length,lc,rfl,by omega, ?_⟩;obtain⟨-,d,K⟩:=qu o;have u:=o.row.row.ss.ts.mem;have e:P.length+(A++(kc,c)::B).length-P.length=iL.length:=by omega
  rw[e];have cO:Calls Tryz.prog 133 #[cx la LI.length lc,cx (aD ⟨n.rg,n.ro+P.length*3,av⟩) iL.length (n.cap-P.length)] X fun e w'=>AW LI iL X e w':=by
   by_cases hl:LI.length=iL.length;·obtain⟨g,c',z,-,-,-⟩:=Own.form o.row.row.own (by omega);have t:la=aD ⟨g,0,av⟩:=(by injection z);subst t;have f:=bu.part K P.length iL.length (by rw[au,W];omega);rw[<-W,List.drop_left,fX,W] at f;refine CN X g 0 lc n.rg (n.ro+P.length*3) (n.cap-P.length) LI iL (Own.lies o.row.row.own) f (by omega) (by omega) (bp.Cz u o.row.kids) (fun i hi q hq=> ?_);obtain⟨y,hy⟩:=o.Cz i hi q hq;exact CP u hy
   ·grind [CO,LI]
  refine cO.mono ?_;rintro e X' ⟨b,rfl,L,r⟩;refine⟨b,rfl,fun ht=> ?_,fun _=>⟨iL,R,M,sv,LI,fa,rfl,Y,lC o r⟩⟩;obtain rfl:=L.1 ht;exact L8 s hA V (lC o r)
 ·rintro la lc X ⟨WI,R,M,sv,LI,fa,hl,C,o⟩;have J:LI=[]:=eG.1 hl.symm;subst J;have D:((A++(kc,c)::B).foldl (Tr.bL k) ([],sp)).1=[]:=eG.1 o.row.kids.len.1.symm;refine⟨WI,R,M,sv,[],fa,hl,C, ?_⟩;have e:(Tr.bH (Tr.cj (A++(kc,c)::B)) ((A++(kc,c)::B).foldl (Tr.bL k) ([],sp)).1,((A++(kc,c)::B).foldl (Tr.bL k) ([],sp)).2)=(A++(kc,c)::B).foldl (Tr.bL k) ([],sp):=by rw[D];exact Prod.ext D.symm rfl
  rw[e];exact o
 ·rintro la ln lc X ⟨WI,R,M,sv,LI,fa,rfl,C,o⟩ hpos;obtain⟨hc,d,K⟩:=qu o;refine⟨hc, ?_⟩;obtain⟨g,c',z,-,mw,-⟩:=Own.form o.row.row.own hpos;have t:la=aD ⟨g,0,av⟩:=by injection z
  subst t;cases LI with
  |nil=>cases hpos
  |cons i LI=>
   have O:=wM o w;have hidx:P.length<(aq (k+1) P++(WI++aq (k+1) N)).length:=(by rw[au,au,W];omega);have Q:=v_.of K hidx;have G:((aq (k+1) P++(WI++aq (k+1) N))[P.length]'hidx).key=Tr.cj (A++(kc,c)::B):=by
    have e1:(aq (k+1) P++(WI++aq (k+1) N))[P.length]'hidx=WI[0]'(by omega):=(by grind);rw[e1];cases WI with
    |nil=>simp at C
    |cons w0 WI=>exact Ma O
   have Cb:=Own.lies o.row.row.own;refine⟨g,bs (Tr.cj (A++(kc,c)::B)),bs i.key,rfl, ?_, ?_,Own.frozen o.row.row.own 0, ?_⟩;·rw[<-G];exact Q.key
   ·have:=(bh Cb 0 (by simp)).1;simpa using this
   ·obtain⟨R',o'⟩:=Jg o (Tr.cj (A++(kc,c)::B)) rfl rfl;exact⟨WI,R',M,sv,{i with key:=Tr.cj (A++(kc,c)::B)}::LI,fa,rfl,C,o'⟩
 ·rintro la ln lc X ⟨WI,R,M,sv,LI,fa,rfl,C,o⟩;obtain⟨hc,d,K⟩:=qu o;refine⟨hc, ?_⟩;have u:=o.row.row.ss.ts.mem;have hat:=o.at_;have hown:=u.own p _ hat s.own;have S:n.ro=0:=hown.1;have Ws:aY 0 X (cx (aD ⟨n.rg,0,av⟩) (aq (k+1) P++(WI++aq (k+1) N)).length n.cap) (aq (k+1) P++(WI++aq (k+1) N)):=hown.2;have I:=u.nd p _ hat;have BQ:(aq (k+1) P++(WI++aq (k+1) N)).length<=400:=I.small.len;have J:=o.row.kids.len.1;have yE:∀(x:Tr.Tx) (l:List (Tr.Tx×Tr.E (k+1))),(Tr.bH x l).length=l.length:=fun x l=>by cases l<;>rfl
  rw[yE] at J;have RR:LI.length<=400:=by simp only[ef] at v;omega
  rw[S,<-d]
  refine (CG Ws (aB _) BQ (Own.mono o.row.row.own (aB _)) (fun b L=>fun e=> ?_) RR (i:=P.length) (j:=P.length+(A++(kc,c)::B).length) (by omega) (by
   have Y:(aq (k+1) P++(WI++aq (k+1) N)).length=P.length+(WI.length+(aq (k+1) N).length):=(by rw[au,au,W]);omega)).mono ?_
  ·exact (o.row.row.Q6 b L).2.1 ⟨p,_,hat,dn e⟩
  ·rintro e X' ⟨v',rfl,T,Z,Wt,TY⟩;have fQ:(aq (k+1) P++(WI++aq (k+1) N)).take P.length++LI++(aq (k+1) P++(WI++aq (k+1) N)).drop (P.length+(A++(kc,c)::B).length)=aq (k+1) P++(LI++aq (k+1) N):=(by grind [fX,au,aF,aq,List.drop_left]);rw[fQ] at T;have O3:p≠n.rg:=fun e=>u.EK hat hat e.symm;have U:¬(Value.slice (aD ⟨n.rg,0,av⟩) (aq (k+1) P++(WI++aq (k+1) N)).length n.cap).ownBlock=aD p:=fun e=>O3 (Option.some.inj e).symm;have H:=I.blk.but Z U;obtain⟨a,cc,z,-⟩:=Own.slice T;subst z;refine⟨a,_,cc,rfl,⟨_,H.cell (j:=1) rfl⟩,⟨_,H.cell (j:=7) rfl⟩,H.frozen 1,H.frozen 7, ?_⟩;exact Pu s hA V o T Z Wt (TY rfl) rfl
theorem uz (s:Slot pg M k p q n m h A B kc c0 c F) (hs:SS E X0 R0 R ps pg rt M X sb sv (l0++gP sp)) (I:k<=15) (hl:l0.length+sp.length<=50000):
  Calls Tryz.prog 87 #[ptr sb,ptr p,ptr q] X fun e X'=>e=eb (bf cu 0)/\CC E X0 R0 R ps pg rt M X sb sv l0 sp k p n h (A++(kc,c)::B) (Tr.big k [(kc,c)]) F X':=by
 have t:=hs.ts.mem.nd q m s.lS;have hp:=hs.ts.mem.nd p n s.at_;have u:=(s.zg.sz s.lS).1;by_cases H:Tr.sz k (Tr.its c)<=510/\Tr.sz k (Tr.its c0)<=Tr.sz k (Tr.its c);·refine (AL (sb:=sb) (p:=p) t (by rw[u];exact H.1) (by rw[s.was,u];exact_mod_cast H.2)).mono ?_;rintro e X' ⟨rfl,v⟩;exact⟨rfl,Je s hs H.1 H.2 v⟩
 ·obtain⟨P,d,rfl,C,hA⟩:∃P d,A=P++d/\d.length<=1/\(d=[]->P=[]):=by
   by_cases e:A=[];·exact⟨[],[],e,aB _,fun _=>rfl⟩
   ·obtain⟨P,a,rfl⟩:=Tr.dR e;exact⟨P,[a],rfl,ah _,fun e=>by cases e⟩
  obtain⟨B',N,rfl,K,w⟩:∃B' N,B=B'++N/\B'.length<=1/\(B'=[]->N=[]):=by
   cases B with
   |nil=>exact⟨[],[],rfl,aB _,fun _=>rfl⟩
   |cons b B=>exact⟨[b],B,rfl,ah _,fun e=>by cases e⟩
  have J:=(nw s hA w sp).2;have f:=Ji (E:=E) (X0:=X0) (Xs:=X) (R0:=R0) (Rs:=R) (ps:=ps) (rt:=rt) (gG:=sv) (sb:=sb) s C K I hl J;have g:=Mc (E:=E) (X0:=X0) (Xs:=X) (R0:=R0) (Rs:=R) (ps:=ps) (rt:=rt) (gG:=sv) (sb:=sb) (l0:=l0) (sp:=sp) s hA w C K;have D:n.its.length=P.length+(d.length+1+(B'.length+N.length)):=by rw[s.its,au,a_];unfold aq;rw[aT,aT,au,au];omega
  have L:(d++(kc,c)::B').length=d.length+1+B'.length:=by rw[au,a_];omega
  have O:d.length=0->P.length=0:=fun e=>by rw[hA (eG.1 e)];rfl
  have S:B'.length=0->N.length=0:=fun e=>by rw[w (eG.1 e)];rfl
  have hidx:n.at_=((P.length+d.length:Nat):Int):=by rw[s.idx,au]
  have c6:=hp.c6;rw[hidx] at c6;have Y:=hp.small.len;have T:=cL.1 s.nd;have Q:∀V,Below X.heap.size X V->∃j,P.length=P.length+j/\SI E X0 R0 ps pg rt R M X sb sv k p n P N (d++(kc,c)::B') (qt k d B' kc c0 q) F l0 sp j (cx av 0 0) V:=by
   intro V G;refine⟨0,rfl,[],(d.map fun _=>[])++F::B'.map (fun _=>[]),R,M,sv,[],[],rfl,aB _, ?_⟩;have W:((d.map fun _=>[])++F::B'.map (fun _=>[])).flatten=F:=(by rw[dL,iJ,dA,iJ,bA,dI]);have l:n.its=aq (k+1) P++([]++(qt k d B' kc c0 q++aq (k+1) N)):=(by rw[s.its,dK,dK];unfold qt;simp);refine⟨⟨⟨hs.ts.but.size,hs.still G,mQ.still G,Own.nil _ _ _ _,fun b v=>by cases v⟩,trivial,fun i hi=>(by cases hi),List.nodup_nil⟩, ?_, ?_, ?_, ?_,fun r hr=> ?_,fun r y _ hy=>hy,fun r y hy=>(hs.ts.mem.lt hy).1,fun i hi=>(by cases hi)⟩;·rw[List.drop_zero,<-l];exact s.at_
   ·rw[List.drop_zero,<-l]
   ·rw[List.drop_zero,List.drop_zero];exact (ia fun x z=>s.sides x (dc (aj.2 (dn z)))).append ⟨⟨rfl,rfl,dn ⟨q,rfl,s.zg⟩⟩,ia fun x z=>s.sides x (dn (aj.2 (dc z)))⟩
   ·rw[W];exact s.nd
   ·rw[W] at hr;exact dc hr
  have o:=all_eq P d B' N kc c;rw[o];by_cases hf:cz m.its<=510;·refine AV t hf (by rw[s.was,u];have:¬Tr.sz k (Tr.its c0)<=Tr.sz k (Tr.its c):=fun e=>H ⟨by omega,e⟩;omega) c6 hp.c1 hp.blk.lt (by omega) (by omega) Y (by omega) Q f g hp.small.cap.1
  ·exact Ch t hf c6 hp.c1 hp.blk.lt (by omega) (by omega) Y (by omega) Q f g hp.small.cap.1
end
inductive iM (M:Nat->Option NV) (pg:List (Option Wl.Text)):(k q:Nat)->(lo hi:List UInt8)->(c0:Tr.E (k+1))->(K:Nat)->(T:Tr.E (K+1))->(ps:List Nat)->(pre post:List (Tr.Tx×Tr.Tx))->(out:List Nat)->Prop
 |top {k q:Nat} {c0:Tr.E (k+1)}:iM M pg k q [] [] c0 k c0 [] [] [] []
 |up {k p q:Nat} {n:NV} {h:Tr.Hd} {A B:List (Tr.Tx×Tr.E (k+1))} {kc:Tr.Tx} {c0:Tr.E (k+1)} {K:Nat} {T:Tr.E (K+1)} {ps:List Nat} {pre post:List (Tr.Tx×Tr.Tx)} {out:List Nat} (hat:M p=aD n) (fQ:n.its=aq (k+1) A++⟨kc,ej (k+1) c0,aD q⟩::aq (k+1) B) (ko:∀x,x∈A\/x∈B->cS pg (k+1) x.2) (hown:n.own=true)
   (nJ:kQ pg (k+1) n (Tr.mk h (A++(kc,c0)::B))) (hidx:n.at_=A.length) (Md:n.was=Tr.sz (k+1) (A++(kc,c0)::B)) (hfit:Tr.sz (k+1) (A++(kc,c0)::B)<=510) (hfresh:h.fresh=false) (hu:iM M pg (k+1) p n.lo n.hi (Tr.mk h (A++(kc,c0)::B)) K T ps pre post out):
   iM M pg k q (eW n A.length) (eu n A.length) c0 K T (p::ps) (pre++Tr.cB (k+1) A) (Tr.cB (k+1) B++post) (h.page.toList++(Tr.dW (k+1) A++Tr.dW (k+1) B)++out)
section
variable {M M':Nat->Option NV} {pg:List (Option Wl.Text)} {k q K:Nat} {lo hi:List UInt8} {c0:Tr.E (k+1)} {T:Tr.E (K+1)} {ps:List Nat} {pre post:List (Tr.Tx×Tr.Tx)} {out:List Nat}
theorem iM.frame (h:iM M pg k q lo hi c0 K T ps pre post out) (H:∀r∈ps,M' r=M r):iM M' pg k q lo hi c0 K T ps pre post out:=by
 induction h with
 |top=>exact .top
 |up hat fQ ko hown nJ hidx Md hfit hfresh hu i=>exact .up (by rw[H _ aE];exact hat) fQ ko hown nJ hidx Md hfit hfresh (i fun r hr=>H r (aI _ hr))
theorem iM.level (h:iM M pg k q lo hi c0 K T ps pre post out):k+ps.length=K:=by
 induction h with
 |top=>rfl
 |up _ _ _ _ _ _ _ _ _ _ i=>rw[a_];omega
theorem iM.dom (h:iM M pg k q lo hi c0 K T ps pre post out):∀r∈ps,∃n,M r=aD n:=by
 induction h with
 |top=>intro r hr;cases hr
 |up hat _ _ _ _ _ _ _ _ _ i=>
  intro r hr;rcases aX.1 hr with rfl|hr;·exact⟨_,hat⟩
  ·exact i r hr
theorem iM.cB (h:iM M pg k q lo hi c0 K T ps pre post out):Tr.cB K (Tr.its T)=pre++Tr.cB k (Tr.its c0)++post:=by
 induction h with
 |top=>simp
 |up _ _ _ _ _ _ _ _ _ _ i=>rw[i,Tr.its_mk,Tr.bT,show ∀(x:Tr.Tx×Tr.E _) l,x::l=[x]++l from fun _ _=>rfl,Tr.bT,Tr.dY];simp only[aF]
theorem iM.ck (h:iM M pg k q lo hi c0 K T ps pre post out):(out++Tr.ck (k+1) c0).Perm (Tr.ck (K+1) T):=by
 induction h with
 |top=>exact List.Perm.refl _
 |@up k p q n h A B kc c0 K T ps pre post out hat fQ ko hown nJ hidx Md hfit hfresh hu ih=>refine List.Perm.trans ?_ ih;show (h.page.toList++(Tr.dW (k+1) A++Tr.dW (k+1) B)++out++Tr.ck (k+1) c0).Perm (out++(h.page.toList++Tr.dW (k+1) (A++(kc,c0)::B)));rw[Tr.bU,Tr.f_];show (h.page.toList++(Tr.dW (k+1) A++Tr.dW (k+1) B)++out++Tr.ck (k+1) c0).Perm (out++(h.page.toList++(Tr.dW (k+1) A++(Tr.ck (k+1) c0++Tr.dW (k+1) B))));rw[List.perm_iff_count];intro a;simp only[List.count_append];omega
end
end
end Go.Proofs.YtlpfhjbpknbndaaGreatDoor
