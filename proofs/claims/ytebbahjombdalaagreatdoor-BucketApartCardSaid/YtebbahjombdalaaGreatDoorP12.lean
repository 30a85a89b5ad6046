/- Elder texts, cut down and merged (12). -/
import Derived.Test.YtebbahjombdalaaGreatDoorP11
import Derived.Test.YtebbahjombdalaaGreatDoorP10
import Derived.Test.YtebbahjombdalaaGreatDoorP8
import Derived.Test.YtebbahjombdalaaGreatDoorP9
import Derived.Test.YtebbahjombdalaaGreatDoorP7
import Derived.BigRegion
import Derived.Test.YtebbahjombdalaaGreatDoorPTk
set_option maxRecDepth 100000
set_option maxHeartbeats 8000000
namespace Go.Proofs.YtebbahjombdalaaGreatDoor
open List renaming flatten_append→dm,mem_append→ah,length_eq_zero_iff→ef,length_append→aq,append_assoc→aB,map_append→bI,nodup_append→aL,length_pos_iff→ej,length_map→aM,getD_eq_getElem?_getD→bT,getElem?_eq_getElem→aJ,pairwise_iff_getElem→gE,append_nil→bh,mem_singleton→cH,mem_cons→aQ,drop_eq_getElem_cons→cm,length_drop→aT,flatten_cons→cU,getElem_mem→bB,pairwise_cons→cw,mem_cons_self→aA,nodup_cons→cD,setIfInBounds_toArray→az,set_cons_succ→ay,set_cons_zero→au,map_cons→bH,nil_append→dF,mem_cons_of_mem→aF,length_cons→aW,take_of_length_le→bZ,length_take→aN
open Nat renaming le_trans→aG,le_refl→af,zero_le→aC,zero_add→bV,min_eq_left→b_
open World renaming drew→bD
section
open Go.RowKit Lib
section
variable {E:Ev} {X0:World} {R0:Nat→Prop} {ps:List (Nat×List UInt8)} {pg:List (Option Wl.Text)} {rt:List Nat} {sb:Nat}
theorem A7:∀k,k≤15→Dz E X0 R0 ps pg rt sb k
 |0,_=>fun _ _ _ _ _ _ _ _ _ _ _ _ _ _ _ _ h r1 r2 hp hq hnd on om hx hc hold hl=>Gw h r1 r2 hp hq hnd on om hx hc hold (by omega)
 |k+1,hk=>Gz (A7 k (by omega)) (by omega)
end
section
variable {E:Ev} {X0 Xs X X':World} {R0 Rs R R' S:Nat→Prop} {ps:List (Nat×List UInt8)} {pg:List (Option Wl.Text)} {rt:List Nat} {Ms M M':Nat→Option NV} {p q:Nat} {n m:NV} {sb:Nat} {ga sv eC lv:Value} {l l':List Int} {L LI:List It} {k:Nat}
structure Kc (E:Ev) (X0:World) (R0:Nat→Prop) (ps:List (Nat×List UInt8)) (pg:List (Option Wl.Text)) (rt:List Nat) (Rs:Nat→Prop) (Ms:Nat→Option NV) (Xs:World) (sb:Nat) (ga:Value) (k:Nat) (R:Nat→Prop) (M:Nat→Option NV) (X:World) (sv:Value) (l:List Int) (lv:Value) (LI:List It) (acc:List (Tr.Tx×Tr.E (k+1))) (fa:List (List Nat)):Prop where
 row:Row E X0 R0 ps pg rt Rs Ms Xs sb ga R M X sv l lv LI
 kids:aX pg k (dx M pg k) LI acc fa
 got:∀i∈LI,i.node.isSome=true
 nd:fa.flatten.Nodup
structure Far (sb:Nat) (M:Nat→Option NV) (X:World) (sv lv:Value) (M':Nat→Option NV) (X':World) (eC lp:Value):Prop where
 but:aE (fun b=>b=sb∨sv.ownBlock=some b∨MB M b∨lv.ownBlock=some b) X X'
 mb:∀b,MB M' b→MB M b∨X.heap.size≤b
 sp:∀b,eC.ownBlock=some b→sv.ownBlock=some b∨X.heap.size≤b
 li:∀b,lp.ownBlock=some b→lv.ownBlock=some b∨X.heap.size≤b
 dom:Dom M M'
def TW (E:Ev) (X0:World) (R0:Nat→Prop) (ps:List (Nat×List UInt8)) (pg:List (Option Wl.Text)) (rt:List Nat) (Rs:Nat→Prop) (Ms:Nat→Option NV) (Xs:World) (sb:Nat) (ga:Value) (k:Nat) (M:Nat→Option NV) (X:World) (sv lv:Value) (l:List Int) (F:List Nat) (acc:List (Tr.Tx×Tr.E (k+1))) (e:Ending) (X':World):Prop:=
 ∃lp R' M' eC L0 jt,e=.returned (.tuple #[lp,.int .i64 0])∧Kc E X0 R0 ps pg rt Rs Ms Xs sb ga k R' M' X' eC l lp L0 acc jt∧(∀r∈jt.flatten,r∈F∨X.heap.size≤r)∧(∀r y,r∉F→M r=some y→M' r=some y)∧Far sb M X sv lv M' X' eC lp
theorem iW.at {R1:Nat→Tr.E (k+1)→List Nat→Prop} {i:It} {x:Tr.Tx×Tr.E (k+1)} {f:List Nat} (h:iW pg k R1 i x f) (hg:i.node.isSome=true):∃q,i.node=some q∧R1 q x.2 f:=by
 rcases h.2.2 with⟨hn,_⟩|h
 ·grind
 ·exact h
theorem Ke {acc:List (Tr.Tx×Tr.E (k+1))} {fa:List (List Nat)} {it:It} {key:Tr.Tx} {c:Tr.E (k+1)} {f:List Nat} {sp:List Nat} {l0:List Int}
  (h:Kc E X0 R0 ps pg rt Rs Ms Xs sb ga k R M X sv (l0++gy sp) lv LI acc fa) (hi:iW pg k (dx M pg k) it (key,c) f) (hg:it.node.isSome=true) (hnd:(fa.flatten++f).Nodup) (hlen:LI.length≤400) (hkey:key.length≤96) (hl:(l0++gy sp).length+k≤100000) (hk:k≤15)
  (hok:∀A a,acc=A++[a]→¬Tr.cut (k+1) a.2 key c→∃wz zZ,Tr.Ok (k+1) wz (some key) a.2∧Tr.Ok (k+1) key zZ c∧Tr.Old (k+1) c):
  Calls Tryz.prog 132 #[ptr sb,lv,.agg #[.string (bs it.key),.string (bs it.val),.pointer (pa it.node)]] X fun e X'=>TW E X0 R0 ps pg rt Rs Ms Xs sb ga k M X sv lv (l0++gy (Tr.bG k key acc sp (key,c)).2) (fa.flatten++f) (Tr.bG k key acc sp (key,c)).1 e X':=by
 have hB:Xs.heap.size≤X.heap.size:=h.row.xU.but.size
 have Mp:∀{e:Ending} {X':World},xL Xs.heap.size X lv (LI++[it]) e X'→TW E X0 R0 ps pg rt Rs Ms Xs sb ga k M X sv lv (l0++gy sp) (fa.flatten++f) (acc++[(key,c)]) e X':=by
  intro e X' ha
  obtain⟨lp,R',he,hr,hs,kN⟩:=h.row.add ha
  refine⟨lp,R',M,sv,LI++[it],fa++[f],he,⟨hr,h.kids.append ⟨hi,trivial⟩,fun i hm=> ?_,by rw[dm];simpa using hnd⟩,fun r hr=>.inl (by rw[dm] at hr;simpa using hr),fun _ _ _ hy=>hy,⟨hs.mono fun _ _ hb=>.inr (.inr (.inr hb)),fun _ hb=>.inl hb,fun _ hb=>.inl hb,kN,Dom.refl _⟩⟩
  rcases ah.1 hm with hm|hm
  ·exact h.got i hm
  ·grind
 by_cases e:acc=[]
 ·subst e
  have Dl:LI=[]:=ef.1 h.kids.len.1
  subst Dl
  refine (y6 h.row.own hB).mono ?_
  intro e X' ha
  exact Mp ha
 ·obtain⟨A,⟨ka,a⟩,rfl⟩:=Tr.dA e
  obtain⟨I1,I',f1,f',rfl,rfl,k1,k2⟩:=h.kids.parts
  obtain⟨last,I0,fl,f0,rfl,rfl,k3,k4⟩:=k2.cons_inv
  obtain⟨rfl,rfl⟩:=k4.tE
  obtain⟨pl,dH,r1⟩:=k3.at (h.got last (by simp))
  obtain⟨ql,EZ,r2⟩:=hi.at hg
  obtain⟨np,hnp,qU,-⟩:=r1.head
  obtain⟨nq,mJ,fD,-⟩:=r2.head
  have s1:cj np.its=Tr.sz k (Tr.its a):=(r1.sz hnp).1
  have s2:cj nq.its=Tr.sz k (Tr.its c):=(r2.sz mJ).1
  have n1:=h.row.ss.ts.mem.nd pl np hnp
  have n2:=h.row.ss.ts.mem.nd ql nq mJ
  have lM:it.key=key:=hi.1
  have hlv:=qU.level
  rw[Tr.dB]
  by_cases hc:Tr.cut (k+1) a key c
  ·rw[if_pos hc]
   refine (y7 h.row.own hB (by rw[aq] at hlen;omega) dH EZ n1 n2 (by rw[lM];omega) (by rw[s1,s2,hlv,lM];unfold Tr.cut at hc;omega)).mono ?_
   intro e X' ha
   exact Mp ha
  ·rw[if_neg hc]
   obtain⟨wz,zZ,o1,o2,o3⟩:=hok A (ka,a) rfl hc
   have jg:(fl++f).Nodup:=by
    grind
   have hj:=y8 (sb:=sb) (w:=X) (lv:=lv) (B:=Xs.heap.size) (it:=it) (Q:=fun x X'=>x=0∧∃w1,Below X.heap.size X w1∧qw E X0 R0 R ps pg rt M w1 sb sv k pl np nq (fl++f) (Tr.join k a c key).1 (l0++gy sp++gy (Tr.join k a c key).2) X') h.row.own (by rw[aq] at hlen;omega) dH EZ n1 n2 (by rw[lM];omega) (by rw[s1,s2,hlv,lM];unfold Tr.cut at hc;omega) (fun w1 hb=>by
    refine (A7 k hk M w1 R sv (l0++gy sp) pl ql np nq a c fl f key wz zZ (h.row.ss.still hb) r1 r2 hnp mJ jg o1 o2 hkey hc o3 hl).mono ?_|>fun hh=>by rw[lM];exact hh
    rintro e X' ⟨rfl,hj⟩
    exact⟨0,rfl,rfl,w1,hb,hj⟩)
   refine hj.mono ?_
   rintro e X' ⟨x,rfl,rfl,w1,hb,M',n',F',hto,Kf,hat,-,-,nr,hnew,hsame⟩
   obtain⟨R',eC,hs',ht'⟩:=lD.1 hto
   have hst:lQ R M X sb sv R' M' eC X':=(lQ.still hb).trans ht'
   have hFl:∀r∈F',r∈fl++f∨X.heap.size≤r:=fun r hr=>(hnew r hr).imp_right fun h=>aG hb.size h
   have zk:∀r∈f1.flatten,r∉fl++f:=by
    grind
   have hk1:aX pg k (dx M' pg k) I1 A f1:=k1.frame fun r hr=>by
    obtain⟨y,hy⟩:=k1.dom r hr
    rw[hy];exact hsame r y (zk r hr) hy
   have TX:{last with node:=some pl}=last:=by cases last;simp only at dH;subst dH;rfl
   have XL:iW pg k (dx M' pg k) last (ka,(Tr.join k a c key).1) F':=by
    have:=k3.iE (R2:=dx M' pg k) (f':=F') (a':=(Tr.join k a c key).1) pl Kf
    rw[TX] at this
    exact this
   refine⟨lv,R',M',eC,I1++[last],f1++[F'],rfl,⟨?_,hk1.append ⟨XL,trivial⟩,h.got, ?_⟩,fun r hr=> ?_,fun r y hr hy=>hsame r y (fun h2=>hr ?_) hy,⟨hst.but.mono fun _ _ hb=>hb.imp_right fun hb=>hb.imp_right .inl,hst.mb,hst.sp,fun _ hb=>.inl hb,hst.dom⟩⟩
   ·have:=h.row.step hs' hst
    rw[aB] at this
    show Row _ _ _ _ _ _ _ _ _ _ _ _ _ _ _ (l0++gy (sp++(Tr.join k a c key).2)) _ _
    unfold gy at this ⊢
    rw[bI]
    exact this
   ·rw[dm]
    refine aL.2 ⟨?_,by simpa using nr,fun r hr s kN e=> ?_⟩
    ·have:=h.nd
     rw[dm] at this
     exact (aL.1 this).1
    ·subst e
     rcases hFl r (by simpa using kN) with h5|h5
     ·exact zk r hr h5
     ·obtain⟨y,hy⟩:=k1.dom r hr
      have:=(h.row.ss.ts.mem.lt hy).1
      omega
   ·rw[dm] at hr ⊢
    rcases ah.1 hr with hr|hr
    ·exact .inl (ah.2 (.inl (ah.2 (.inl hr))))
    ·rcases hFl r (by simpa using hr) with h5|h5
     ·left
      rcases ah.1 h5 with h5|h5
      ·exact ah.2 (.inl (ah.2 (.inr (by simpa using h5))))
      ·exact ah.2 (.inr h5)
     ·exact .inr h5
   ·rw[dm]
    rcases ah.1 h2 with h5|h5
    ·exact ah.2 (.inl (ah.2 (.inr (by simpa using h5))))
    ·exact ah.2 (.inr h5)
end
def Tr.parted (k:Nat) (c:Tr.Tx×Tr.E (k+1)):List (Tr.Tx×Tr.E (k+1))×List Nat:=
 if (Tr.its c.2).isEmpty then ([],(Tr.hd c.2).page.toList)
 else if Tr.sz k (Tr.its c.2)≤510 then ([c],[])
 else ([(c.1,(Tr.part k c.2).low),((Tr.part k c.2).key,(Tr.part k c.2).up)],[])
theorem zm (k:Nat) (x:Tr.Tx) (st:List (Tr.Tx×Tr.E (k+1))×List Nat) (c:Tr.Tx×Tr.E (k+1)):
  Tr.dn k x st c=(Tr.parted k c).1.foldl (fun s i=>Tr.bG k x s.1 s.2 i) (st.1,st.2++(Tr.parted k c).2):=by
 unfold Tr.dn Tr.parted
 by_cases e:(Tr.its c.2).isEmpty=true
 ·grind
 ·grind
section
variable {E:Ev} {X0 X X':World} {R0 R R':Nat→Prop} {ps:List (Nat×List UInt8)} {pg:List (Option Wl.Text)} {rt:List Nat} {M M':Nat→Option NV} {p q:Nat} {n m:NV} {sb:Nat} {sv eC:Value} {l l':List Int} {it:It} {k:Nat}
structure Ns (E:Ev) (X0:World) (R0:Nat→Prop) (ps:List (Nat×List UInt8)) (pg:List (Option Wl.Text)) (rt:List Nat) (sb:Nat) (k:Nat) (R:Nat→Prop) (M:Nat→Option NV) (X:World) (sv:Value) (f:List Nat) (cs:List (Tr.Tx×Tr.E (k+1))) (l':List Int) (rv:Value) (R':Nat→Prop) (M':Nat→Option NV) (eC:Value) (IT:List It) (fs:List (List Nat)) (X':World):Prop where
 ss:SS E X0 R0 R' ps pg rt M' X' sb eC l'
 xU:lQ R M X sb sv R' M' eC X'
 own:aR X.heap.size X' rv IT
 A8:∀b,rv.ownBlock=some b→¬MB M' b∧eC.ownBlock≠some b
 kids:aX pg k (dx M' pg k) IT cs fs
 got:∀i∈IT,i.node.isSome=true
 nd:fs.flatten.Nodup
 news:∀r∈fs.flatten,r∈f∨X.heap.size≤r
 same:∀r y,r∉f→M r=some y→M' r=some y
theorem A9 {t:Tr.E (k+1)} {F:List Nat} {H:Nat} (hr:dx M pg k p t F) (hn:M p=some n) (hb:510<Tr.sz k (Tr.its t)) (hH:H=eL (cj n.its) 0 n.its):
  0<H∧(n.level=0→Tr.lt ((n.its.map It.key).getD (H-1) []) ((n.its.map It.key).getD H [])=true):=by
 obtain⟨n',hn',ho,_⟩:=hr.head
 rw[hn] at hn'
 cases hn'
 have hz:=hr.sz hn
 have hne:n.its≠[]:=by intro e;have h1:=hz.1;rw[e] at h1;have:cj ([]:List It)=0:=rfl;omega
 have hlt:=nO (cj n.its) n.its 0 hne
 rw[←hH] at hlt
 have Qb:H=(Tr.cg k (Tr.sz k (Tr.its t)) 0 (Tr.its t)).1.length:=by rw[hH,hz.1];exact uS k _ _ _ _ (EX hr hn)
 have hL:=Tr.l_ k _ (Tr.its t) rfl (fun x hx=>by have:=ho.near.2.size x hx;omega) hb
 have h0:0<H:=by rw[Qb];exact ej.2 hL
 refine⟨h0,fun _=> ?_⟩
 have hp:=(gY ho.near.2).1
 rw[←hz.2.1] at hp
 have hlen:(n.its.map It.key).length=n.its.length:=aM _
 rw[bT,bT,aJ (by rw[hlen];omega),aJ (by rw[hlen];omega)]
 exact gE.1 hp (H-1) H (by rw[hlen];omega) (by rw[hlen];omega) (by omega)
theorem GA {key:Tr.Tx} {c:Tr.E (k+1)} {f:List Nat} (h:SS E X0 R0 R ps pg rt M X sb sv l) (hr:dx M pg k q c f) (hi:iW pg k (dx M pg k) it (key,c) f) (hq:it.node=some q) (hf:f.Nodup) (hp:(Tr.hd c).page.isSome=true) (hl:l.length≤1000000):
  Calls Tryz.prog 131 #[ptr sb,ptr q,.agg #[.string (bs it.key),.string (bs it.val),.pointer (pa it.node)]] X fun e X'=>∃rv R' M' eC IT fs,e=.returned rv∧Ns E X0 R0 ps pg rt sb k R M X sv f (Tr.parted k (key,c)).1 (l++gy (Tr.parted k (key,c)).2) rv R' M' eC IT fs X':=by
 obtain⟨nq,mJ,ho,hqF⟩:=hr.head
 have hz:=hr.sz mJ
 have hnd:=h.ts.mem.nd q nq mJ
 unfold Tr.parted
 by_cases e:(Tr.its c).isEmpty=true
 ·rw[if_pos e]
  have hn0:nq.its=[]:=by
   grind
  refine (Di h.blk h.sp hnd hl hn0).mono ?_
  rintro e X' ⟨rfl,hlf⟩
  rw[ho.page,←List.singleton_append (l:=[]),bh] at hlf
  obtain⟨eC,R',s',h1,h2,h3,h4⟩:=h.left hlf
  rw[iK hp] at s'
  exact⟨_,R',M,eC,[],[],rfl,⟨s',⟨h1,h2,(aE.refl _ X).trans h3 fun b _ hb=>hb.imp_right .inl,fun _ hb=>.inl hb,h4,Dom.refl _⟩,Own.nil _ _ _ _,(fun b hb=>by cases hb),trivial,(fun i hi=>by cases hi),List.nodup_nil,(fun r hr=>by cases hr),fun _ _ _ hy=>hy⟩⟩
 ·rw[if_neg e]
  have hne:nq.its≠[]:=by
   grind
  by_cases hs:Tr.sz k (Tr.its c)≤510
  ·rw[if_pos hs]
   refine (Gh hnd hne (by rw[hz.1];exact hs)).mono ?_
   rintro e X' ⟨v,rfl,Kg,hb⟩
   have hss:=h.still hb
   refine⟨v,R,M,sv,[it],[f],rfl,⟨?_,lQ.still hb,Kg,fun b aP=> ?_,⟨hi,trivial⟩,fun i hi=>by rw[cH.1 hi,hq];rfl,by simpa using hf,fun r hr=>.inl (by simpa using hr),fun _ _ _ hy=>hy⟩⟩
   ·show SS _ _ _ _ _ _ _ _ _ _ _ (l++[])
    rw[bh];exact hss
   ·have h1:=(Own.block Kg b aP).1
    refine⟨fun hm=> ?_,fun hk=> ?_⟩
    ·have:=h.ts.mem.lg hm;omega
    ·have:=(Own.block h.sp b hk).2;omega
  ·rw[if_neg hs]
   obtain⟨H,hH⟩:∃H,H=eL (cj nq.its) 0 nq.its:=⟨_,rfl⟩
   have dX:510<Tr.sz k (Tr.its c):=by omega
   obtain⟨h0,oh⟩:=A9 hr mJ dX hH
   refine (Gi h.ts.mem mJ H hH h0 oh (by rw[hz.1];exact hs)).mono ?_
   rintro e X' ⟨v,q',rfl,Kg,hmem,lN,jG⟩
   obtain⟨M',zb⟩:∃M',M'=upd (upd M q (fZ nq H)) q' (jd nq H):=⟨_,rfl⟩
   rw[←zb] at hmem
   have TY:q'∉f:=fun hh=>by obtain⟨y,hy⟩:=hr.dom q' hh;have:=(h.ts.mem.lt hy).1;omega
   obtain⟨wy,F1,F2,r1,r2,jg,hF⟩:=uT hr mJ hf TY dX hH zb
   have hmb:∀b,MB M' b→MB M b∨b=q':=by
    rintro b ⟨r,y,hy,hb⟩
    rw[zb] at hy
    rcases aI hy with⟨rfl,rfl⟩|⟨_,hy⟩
    ·rcases hb with rfl|rfl
     ·exact .inr rfl
     ·exact .inl ⟨q,nq,mJ,.inr rfl⟩
    ·rcases aI hy with⟨rfl,rfl⟩|⟨_,hy⟩
     ·exact .inl ⟨_,nq,mJ,hb⟩
     ·exact .inl ⟨r,y,hy,hb⟩
   have RB:∀b,(b=q∨b=nq.rg)→MB M b:=fun b hb=>⟨q,nq,mJ,hb⟩
   have XM:q'<X'.heap.size:=(hmem.lt (p:=q') (n:=jd nq H) (by rw[zb,bz])).1
   have hts:TS E X0 R0 (fun b=>R b∨b=q') ps pg rt M' X':=h.ts.own jG (fun b _ hb=>h.ts.jR b (RB b hb)) hmem (fun b hb=>by
    rcases hmb b hb with hb|rfl
    ·exact⟨.inl (h.ts.jR b hb).1,(h.ts.jR b hb).2⟩
    ·exact⟨.inr rfl,aG h.ts.but.size lN⟩) (fun b hb=>.inl hb) (fun b hb=>hb.imp_right fun hb=>by rw[hb];exact⟨lN,XM⟩)
   have Nt:∀b,MB M' b→MB M b∨X.heap.size≤b:=fun b hb=>(hmb b hb).imp_right fun hb=>by rw[hb];exact lN
   have hsub:∀b,R b→R b∨b=q':=fun b hb=>.inl hb
   have hss:=h.nodes hts jG RB hsub Nt
   refine⟨v,_,M',sv,_,[F1,F2],rfl,⟨?_,lQ.nodes jG RB hsub (fun b hb=>hb.imp_right fun hb=>by rw[hb];exact lN) Nt (by rw[zb];exact (Dom.upd _ _ _).trans (Dom.upd _ _ _)),Kg,fun b aP=> ?_,⟨⟨hi.1,hi.2.1,.inr ⟨q,hq,r1⟩⟩,⟨wy,rfl,.inr ⟨q',rfl,r2⟩⟩,trivial⟩,fun i hi=> ?_,by simpa using jg,fun r hr=> ?_,fun r y hr hy=> ?_⟩⟩
   ·show SS _ _ _ _ _ _ _ _ _ _ _ (l++[])
    rw[bh];exact hss
   ·have h1:=(Own.block Kg b aP).1
    refine⟨fun hm=> ?_,fun hk=> ?_⟩
    ·rcases hmb b hm with hm|hm
     ·have:=h.ts.mem.lg hm;omega
     ·subst hm
      obtain⟨g,cap,hv,_,_,_⟩:=Own.form Kg (by simp)
      rw[hv] at aP
      have hg:g=b:=by have e2:some g=some b:=aP;exact Option.some.inj e2
      subst hg
      have hblk:=(hmem.nd g (jd nq H) (by rw[zb,bz])).blk
      rcases Kg.2 with⟨_,h00⟩|⟨g2,cap2,cur,Iz,_,hh,_⟩
      ·simp at h00
      ·rw[hv] at Iz
       injection Iz with e1 e2 e3
       injection e1 with e1
       injection e1 with e1
       subst e1
       unfold aS at hblk
       rw[hh] at hblk
       injection hblk with hblk
       injection hblk with _ hty _
       exact absurd hty (by decide)
    ·have:=(Own.block h.sp b hk).2;omega
   ·rcases aQ.1 hi with rfl|hi
    ·rw[hq];rfl
    ·rw[cH.1 hi];rfl
   ·rcases hF r (by simpa using hr) with hr|rfl
    ·exact .inl hr
    ·exact .inr lN
   ·have xJ:r≠q:=fun e=>hr (by rw[e];exact hqF)
    have XN:r≠q':=fun e=>by have:=(h.ts.mem.lt hy).1;omega
    rw[zb,aO XN,aO xJ];exact hy
end
theorem A_ (k:Nat) (x:Tr.Tx) (acc:List (Tr.Tx×Tr.E (k+1))) (sp:List Nat) (i:Tr.Tx×Tr.E (k+1)) (h:acc=[]→x=i.1):Tr.bG k x acc sp i=Tr.bG k i.1 acc sp i:=by
 by_cases e:acc=[]
 ·rw[h e]
 ·obtain⟨A,a,rfl⟩:=Tr.dA e
  rw[Tr.dB,Tr.dB]
def rowAt (k:Nat) (x:Tr.Tx) (st:List (Tr.Tx×Tr.E (k+1))×List Nat) (cs:List (Tr.Tx×Tr.E (k+1))) (j:Nat):List (Tr.Tx×Tr.E (k+1))×List Nat:=(cs.take j).foldl (fun s i=>Tr.bG k x s.1 s.2 i) st
theorem o8 {k:Nat} {x:Tr.Tx} {st:List (Tr.Tx×Tr.E (k+1))×List Nat} {cs:List (Tr.Tx×Tr.E (k+1))} {j:Nat} (hj:j<cs.length):rowAt k x st cs (j+1)=Tr.bG k x (rowAt k x st cs j).1 (rowAt k x st cs j).2 cs[j]:=by
 unfold rowAt
 rw[List.take_add_one,aJ hj,List.foldl_append]
 rfl
theorem aX.Nu {pg:List (Option Wl.Text)} {k:Nat} {R:Nat→Tr.E (k+1)→List Nat→Prop} {is:List It} {xs:List (Tr.Tx×Tr.E (k+1))} {fs:List (List Nat)} {j:Nat} (h:aX pg k R (is.drop j) (xs.drop j) (fs.drop j)) (h1:j<is.length) (h2:j<xs.length) (h3:j<fs.length):
  iW pg k R is[j] xs[j] fs[j]∧aX pg k R (is.drop (j+1)) (xs.drop (j+1)) (fs.drop (j+1)):=by
 rw[cm h1,cm h2,cm h3] at h
 exact h
section
variable {E:Ev} {X0 Xs Xb X V:World} {R0 Rs R R':Nat→Prop} {ps:List (Nat×List UInt8)} {pg:List (Option Wl.Text)} {rt:List Nat} {Ms Mb M M':Nat→Option NV} {sb:Nat} {ga sv eC lv rv:Value} {l0:List Int} {LI IT:List It} {k j:Nat}
structure uY (E:Ev) (X0:World) (R0:Nat→Prop) (ps:List (Nat×List UInt8)) (pg:List (Option Wl.Text)) (rt:List Nat) (Rs:Nat→Prop) (Ms:Nat→Option NV) (Xs:World) (sb:Nat) (ga:Value) (k:Nat) (Mb:Nat→Option NV) (Xb:World) (F:List Nat) (l0:List Int) (rv:Value) (IT:List It) (cs:List (Tr.Tx×Tr.E (k+1))) (fs:List (List Nat)) (st:List (Tr.Tx×Tr.E (k+1))×List Nat) (j:Nat) (R:Nat→Prop) (M:Nat→Option NV) (X:World) (sv:Value) (lv:Value) (LI:List It) (fa:List (List Nat)):Prop where
 row:Kc E X0 R0 ps pg rt Rs Ms Xs sb ga k R M X sv (l0++gy st.2) lv LI st.1 fa
 rest:aX pg k (dx M pg k) (IT.drop j) (cs.drop j) (fs.drop j)
 nd:(fa.flatten++(fs.drop j).flatten).Nodup
 own:aR Xs.heap.size X rv IT
 A8:∀b,rv.ownBlock=some b→¬MB M b∧b≠sb∧sv.ownBlock≠some b∧lv.ownBlock≠some b
 news:∀r∈fa.flatten++(fs.drop j).flatten,r∈F∨Xb.heap.size≤r
 same:∀r y,r∉F→Mb r=some y→M r=some y
 size:Xb.heap.size≤X.heap.size
 low:∀r y,Mb r=some y→r<Xb.heap.size
 dom:Dom Mb M
theorem DD {F:List Nat} {cs:List (Tr.Tx×Tr.E (k+1))} {fs:List (List Nat)} {st:List (Tr.Tx×Tr.E (k+1))×List Nat} {fa:List (List Nat)}
  (h:uY E X0 R0 ps pg rt Rs Ms Xs sb ga k Mb Xb F l0 rv IT cs fs st j R M X sv lv LI fa) (hV:Below X.heap.size X V) (hj:j<IT.length) (hc:j<cs.length) (Qk:∀i∈IT,i.node.isSome=true) (hlen:LI.length≤400) (hkey:(cs[j]).1.length≤96) (hl:(l0++gy st.2).length+k≤100000) (hk:k≤15)
  (hok:∀A a,st.1=A++[a]→¬Tr.cut (k+1) a.2 (cs[j]).1 (cs[j]).2→∃wz zZ,Tr.Ok (k+1) wz (some (cs[j]).1) a.2∧Tr.Ok (k+1) (cs[j]).1 zZ (cs[j]).2∧Tr.Old (k+1) (cs[j]).2):
  Calls Tryz.prog 132 #[ptr sb,lv,.agg #[.string (bs (IT[j]).key),.string (bs (IT[j]).val),.pointer (pa (IT[j]).node)]] V fun e V'=>∃lp R' M' eC L0 jt,e=.returned (.tuple #[lp,.int .i64 0])∧uY E X0 R0 ps pg rt Rs Ms Xs sb ga k Mb Xb F l0 rv IT cs fs (Tr.bG k (cs[j]).1 st.1 st.2 cs[j]) (j+1) R' M' V' eC lp L0 jt:=by
 have hlr:=h.rest.len
 simp only[aT] at hlr
 have hf:j<fs.length:=by omega
 obtain⟨h1,h2⟩:=h.rest.Nu hj hc hf
 have uZ:fs.drop j=fs[j]::fs.drop (j+1):=cm hf
 have hnd:=h.nd
 have hnews:=h.news
 rw[uZ,cU,←aB] at hnd hnews
 have hd:=aL.1 hnd
 have hV':Kc E X0 R0 ps pg rt Rs Ms Xs sb ga k R M V sv (l0++gy st.2) lv LI st.1 fa:=⟨h.row.row.step (h.row.row.ss.still hV) (lQ.still hV),h.row.kids,h.row.got,h.row.nd⟩
 have hown:aR Xs.heap.size V rv IT:=Own.below h.own hV (af _)
 refine (Ke hV' h1 (Qk _ (bB _)) hd.1 hlen hkey hl hk hok).mono ?_
 rintro e V' ⟨lp,R',M',eC,L0,jt,rfl,hrow,hnew,hsame,RC⟩
 have hrd:∀r∈(fs.drop (j+1)).flatten,M' r=M r:=fun r hr=>by
  obtain⟨y,hy⟩:=h2.dom r hr
  rw[hy]
  exact hsame r y (fun hm=>hd.2.2 r hm r hr rfl) hy
 have td:=Own.block hown
 refine⟨lp,R',M',eC,L0,jt,rfl,⟨hrow,h2.frame hrd,aL.2 ⟨hrow.nd,hd.2.1,fun r hr s hs e=> ?_⟩,Own.but hown RC.but fun b hb hs=> ?_,fun b hb=>⟨fun hm=> ?_,(h.A8 b hb).2.1,fun hs=> ?_,fun hs=> ?_⟩,fun r hr=> ?_,fun r y hr hy=> ?_,by have:=RC.but.size;have:=hV.size;have:=h.size;omega,h.low,h.dom.trans RC.dom⟩⟩
 ·subst e
  rcases hnew r hr with hr|hr
  ·grind
  ·obtain⟨y,hy⟩:=h2.dom r hs
   have:=(h.row.row.ss.ts.mem.lt hy).1
   have:=hV.size
   omega
 ·obtain⟨n1,n2,n3,n4⟩:=h.A8 b hb
  rcases hs with hs|hs|hs|hs
  ·exact n2 hs
  ·exact n3 hs
  ·exact n1 hs
  ·exact n4 hs
 ·rcases RC.mb b hm with hm|hm
  ·exact (h.A8 b hb).1 hm
  ·have:=(td b hb).2;omega
 ·rcases RC.sp b hs with hm|hm
  ·exact (h.A8 b hb).2.2.1 hm
  ·have:=(td b hb).2;omega
 ·rcases RC.li b hs with hm|hm
  ·exact (h.A8 b hb).2.2.2 hm
  ·have:=(td b hb).2;omega
 ·rcases ah.1 hr with hr|hr
  ·rcases hnew r hr with hr|hr
   ·exact hnews r (ah.2 (.inl hr))
   ·right;have:=hV.size;have:=h.size;omega
  ·exact hnews r (ah.2 (.inr hr))
 ·have hy2:=h.same r y hr hy
  refine hsame r y (fun hm=> ?_) hy2
  rcases hnews r (ah.2 (.inl hm)) with h5|h5
  ·exact hr h5
  ·have:=h.low r y hy;omega
end
theorem wV {α:Type} {x:Tr.Tx} {l:List (Tr.Tx×α)}:Tr.bA x l=[]↔l=[]:=by cases l<;>simp
theorem zn {k:Nat} {x:Tr.Tx} {h:Option Tr.Tx} {acc:List (Tr.Tx×Tr.E (k+1))} {i:Tr.Tx×Tr.E (k+1)} (ha:Tr.Acc k x (some i.1) (Tr.bA x acc)) (oi:Tr.Ok (k+1) i.1 h i.2)
  (hn:Tr.Old (k+1) i.2∨∀a,acc.getLast?=some a→Tr.cut (k+1) a.2 i.1 i.2):∀A a,acc=A++[a]→¬Tr.cut (k+1) a.2 i.1 i.2→∃wz zZ,Tr.Ok (k+1) wz (some i.1) a.2∧Tr.Ok (k+1) i.1 zZ i.2∧Tr.Old (k+1) i.2:=by
 rintro A a rfl hc
 obtain⟨A',y,h1,-⟩:=Tr.jB x A a
 have hs:=ha.seg
 rw[h1] at hs
 exact⟨y,h,hs.last,oi,hn.resolve_right fun hn=>hc (hn a (Tr.cF A a))⟩
theorem u_ {k:Nat} {c:Tr.Tx×Tr.E (k+1)} (e:¬(Tr.its c.2).isEmpty=true) (hs:Tr.sz k (Tr.its c.2)≤510):(Tr.parted k c).1=[c]:=by unfold Tr.parted;rw[if_neg e,if_pos hs]
theorem ve {k:Nat} {c:Tr.Tx×Tr.E (k+1)} (e:¬(Tr.its c.2).isEmpty=true) (hs:¬Tr.sz k (Tr.its c.2)≤510):(Tr.parted k c).1=[(c.1,(Tr.part k c.2).low),((Tr.part k c.2).key,(Tr.part k c.2).up)]:=by unfold Tr.parted;rw[if_neg e,if_neg hs]
theorem sI {k:Nat} {c:Tr.Tx×Tr.E (k+1)} (e:(Tr.its c.2).isEmpty=true):(Tr.parted k c).1=[]:=by unfold Tr.parted;rw[if_pos e]
def Hok (k:Nat) (st:List (Tr.Tx×Tr.E (k+1))) (i:Tr.Tx×Tr.E (k+1)):Prop:=
 i.1.length≤96∧∀A a,st=A++[a]→¬Tr.cut (k+1) a.2 i.1 i.2→∃wz zZ,Tr.Ok (k+1) wz (some i.1) a.2∧Tr.Ok (k+1) i.1 zZ i.2∧Tr.Old (k+1) i.2
theorem Kh {k:Nat} {x:Tr.Tx} {h:Option Tr.Tx} {acc:List (Tr.Tx×Tr.E (k+1))} {sp:List Nat} {c:Tr.Tx×Tr.E (k+1)} (ha:Tr.Acc k x (some c.1) (Tr.bA x acc)) (hx:acc=[]→Tr.le x c.1) (hl:c.1.length≤96)
  (oc:Tr.ig k c.1 h c.2) (ho:Tr.Old (k+1) c.2):∀j (hj:j<(Tr.parted k c).1.length),Hok k (rowAt k c.1 (acc,sp) (Tr.parted k c).1 j).1 (Tr.parted k c).1[j]:=by
 by_cases e:(Tr.its c.2).isEmpty=true
 ·simp_all[sI]
 ·have e':Tr.its c.2≠[]:=fun h=>e (List.isEmpty_iff.2 h)
  by_cases hs:Tr.sz k (Tr.its c.2)≤510
  ·rw[u_ e hs]
   intro j hj
   have h0:j=0:=by simpa using hj
   subst h0
   exact⟨hl,zn ha (oc.ok e' hs) (.inl ho)⟩
  ·rw[ve e hs]
   have S:=Tr.nJ k oc (by omega)
   generalize Tr.part k c.2=s at S
   intro j hj
   match j,hj with
   |0,_=>exact⟨hl,zn (i:=(c.1,s.low)) ha S.low (.inl (S.old ho))⟩
   |1,_=>
    have J:=Tr.mj (i:=(c.1,s.low)) (sp:=sp) ha (fun e=>⟨hx (wV.1 e),S.old ho⟩) (fun _=>hl) S.low (.inl (S.old ho))
    have E1:=(Tr.kG k x c.1 acc sp (c.1,s.low)).2
    refine⟨S.len,zn (i:=(s.key,s.up)) (x:=x) ?_ S.up (.inr fun a hla=> ?_)⟩
    ·show Tr.Acc k x _ (Tr.bA x (Tr.bG k c.1 acc sp (c.1,s.low)).1)
     rw[E1]
     exact J.row
    ·have Nv:(Tr.bG k c.1 acc sp (c.1,s.low)).1.getLast?=some a:=hla
     obtain⟨A,b,hA⟩:=Tr.dA (l:=(Tr.bG k c.1 acc sp (c.1,s.low)).1) (fun e=>by rw[e] at Nv;cases Nv)
     rw[hA,Tr.cF] at Nv
     cases Nv
     obtain⟨A',y,h1,-⟩:=Tr.jB x A a
     refine Tr.mX S.cut (J.last (y,a.2) ?_)
     rw[←E1,hA,h1,Tr.cF]
theorem zo {k:Nat} {acc:List (Tr.Tx×Tr.E (k+1))} {sp:List Nat} {c:Tr.Tx×Tr.E (k+1)}:rowAt k c.1 (acc,sp++(Tr.parted k c).2) (Tr.parted k c).1 (Tr.parted k c).1.length=Tr.bC k (acc,sp) c:=by
 unfold rowAt Tr.bC
 rw[zm,List.take_length]
theorem xV {k:Nat} {h:Option Tr.Tx} {c:Tr.Tx×Tr.E (k+1)} {W2:List (Tr.Tx×Tr.E (k+1))}:∀{W1:List (Tr.Tx×Tr.E (k+1))},Tr.iI k h (W1++c::W2)→Tr.iI k (some c.1) W1
 |[],_=>trivial
 |[_],hn=>⟨hn.1,hn.2.1.1,hn.2.1.2.2⟩
 |_::b::r,hn=>⟨hn.1,hn.2.1,xV (W1:=b::r) hn.2.2⟩
theorem o9 {k:Nat} {h:Option Tr.Tx} {W2:List (Tr.Tx×Tr.E (k+1))}:∀{W1:List (Tr.Tx×Tr.E (k+1))},Tr.iI k h (W1++W2)→Tr.iI k h W2
 |[],hn=>hn
 |_::W1,hn=>o9 (W1:=W1) hn.at.2.2.2.1
theorem E0 {k:Nat} {x:Tr.Tx} {h:Option Tr.Tx} {c:Tr.Tx×Tr.E (k+1)} {W2:List (Tr.Tx×Tr.E (k+1))}:∀{W1:List (Tr.Tx×Tr.E (k+1))},Tr.iI k h (W1++c::W2)→(∀d l,W1++c::W2=d::l→Tr.le x d.1)→Tr.le x c.1
 |[],_,hx=>hx c W2 rfl
 |[a],hn,hx=>Tr.le_trans (hx a _ rfl) (Tr.le_of_lt hn.2.1.1)
 |a::b::r,hn,hx=>E0 (W1:=b::r) hn.2.2 fun d l hd=>by
  have e:b=d:=(List.cons.inj hd).1
  rw[←e]
  exact Tr.le_trans (hx a _ rfl) (Tr.le_of_lt hn.2.1.1)
theorem Nw {k:Nat} {x:Tr.Tx} {h:Option Tr.Tx} {W1 W2:List (Tr.Tx×Tr.E (k+1))} {c:Tr.Tx×Tr.E (k+1)} (sp:List Nat) (hn:Tr.iI k h (W1++c::W2)) (hx:∀d l,W1++c::W2=d::l→Tr.le x d.1):
  Tr.Acc k x (some c.1) (Tr.bA x (W1.foldl (Tr.bC k) ([],sp)).1)∧Tr.le x c.1:=by
 refine⟨?_,E0 hn hx⟩
 rw[(Tr.nk k x W1 [] sp).2]
 refine (Tr.y9 (h:=some c.1) W1 [] sp (Tr.Acc.nil _ _ _) ?_ (xV hn)).row
 rintro d l rfl
 exact⟨fun _=>hx d _ rfl,fun h=>absurd rfl h⟩
theorem DE {k:Nat} {x:Tr.Tx} {h:Option Tr.Tx} {W1 W2:List (Tr.Tx×Tr.E (k+1))} {c:Tr.Tx×Tr.E (k+1)} (sp sp':List Nat) (hn:Tr.iI k h (W1++c::W2)) (hx:∀d l,W1++c::W2=d::l→Tr.le x d.1) (hl:c.1.length≤96):
  ∀j (hj:j<(Tr.parted k c).1.length),Hok k (rowAt k c.1 ((W1.foldl (Tr.bC k) ([],sp)).1,sp') (Tr.parted k c).1 j).1 (Tr.parted k c).1[j]:=by
 obtain⟨h1,h2⟩:=Nw sp hn hx
 have hc:=(o9 (W1:=W1) hn).at
 exact Kh h1 (fun _=>h2) hl hc.1 hc.2.2.1
end
namespace Tr
theorem GB:∀(k:Nat) (n m:E (k+1)) (x:Tx),(hd (join k n m x).1).page=(hd n).page
 |0,_,_,_=>rfl
 |k+1,n,m,x=>by
  unfold join
  split
  ·split<;>rfl
  ·rfl
theorem mu {k:Nat} {x:Tx} {acc:List (Tx×E (k+1))} {sp:List Nat} {i e:Tx×E (k+1)} (he:e∈(bG k x acc sp i).1):
  (∃a∈acc,a.1=e.1∧(hd a.2).page=(hd e.2).page)∨((hd i.2).page=(hd e.2).page∧(e.1=i.1∨(acc=[]∧e.1=x))):=by
 by_cases h:acc=[]
 ·simp_all[iU]
 ·obtain⟨A,a,rfl⟩:=dA h
  rw[dB] at he
  split at he
  ·grind
  ·grind [GB]
theorem vf (k:Nat) (x:Tx) (acc:List (Tx×E (k+1))) (sp:List Nat) (i:Tx×E (k+1)):(bG k x acc sp i).1≠[]:=by
 by_cases h:acc=[]
 ·subst h;rw[iU];simp
 ·obtain⟨A,a,rfl⟩:=dA h
  rw[dB]
  split<;>simp
theorem DF {k:Nat} {acc:List (Tx×E (k+1))} {sp:List Nat} {c e:Tx×E (k+1)} (he:e∈(bC k (acc,sp) c).1):
  (∃a∈acc,a.1=e.1∧(hd a.2).page=(hd e.2).page)∨(c.1=e.1∧(hd c.2).page=(hd e.2).page)∨(510<sz k (its c.2)∧e.1=(part k c.2).key):=by
 unfold bC dn at he
 split at he
 ·grind
 ·split at he
  ·grind [mu]
  ·rename_i hs
   rcases mu he with⟨a,ha,h1,h2⟩|⟨_,h2|⟨h2,_⟩⟩
   ·rcases mu ha with⟨b,hb,h3,h4⟩|⟨h3,h4|⟨_,h4⟩⟩
    ·grind
    ·exact .inr (.inl ⟨h4.symm.trans h1,h3.trans h2⟩)
    ·exact .inr (.inl ⟨h4.symm.trans h1,h3.trans h2⟩)
   ·grind
   ·simp_all[vf]
theorem xW {k:Nat} {e:Tx×E (k+1)}:∀(W:List (Tx×E (k+1))) (acc:List (Tx×E (k+1))) (sp:List Nat),e∈(W.foldl (bC k) (acc,sp)).1→
  (∃a∈acc,a.1=e.1∧(hd a.2).page=(hd e.2).page)∨(∃w∈W,w.1=e.1∧(hd w.2).page=(hd e.2).page)∨(∃A c B,W=A++c::B∧510<sz k (its c.2)∧e.1=(part k c.2).key)
 |[],_,_,he=>.inl ⟨e,he,rfl,rfl⟩
 |c::W,acc,sp,he=>by
  rcases xW W (bC k (acc,sp) c).1 (bC k (acc,sp) c).2 he with⟨a,ha,h1,h2⟩|⟨w,hw,h⟩|⟨A,d,B,h1,h2⟩
  ·rcases DF ha with⟨b,hb,h3,h4⟩|⟨h3,h4⟩|⟨h3,h4⟩
   ·grind
   ·grind
   ·exact .inr (.inr ⟨[],c,W,rfl,h3,h1.symm.trans h4⟩)
  ·grind
  ·grind
theorem iI.lE {k:Nat} {h:Option Tx}:∀{W:List (Tx×E (k+1))},iI k h W→W.Pairwise fun a b=>lt a.1 b.1=true
 |[],_=>.nil
 |[_],_=>List.pairwise_singleton _ _
 |a::b::r,hn=>by
  have ih:=iI.lE (W:=b::r) hn.2.2
  refine cw.2 ⟨fun y hy=> ?_,ih⟩
  rcases aQ.1 hy with rfl|hy
  ·exact hn.2.1.1
  ·exact lt_trans hn.2.1.1 ((cw.1 ih).1 y hy)
theorem xX {k:Nat} {h:Option Tx} {B:List (Tx×E (k+1))}:∀{A:List (Tx×E (k+1))},iI k h (A++B)→iI k h B
 |[],hn=>hn
 |_::A,hn=>xX (A:=A) hn.at.2.2.2.1
theorem GD {k:Nat} {h:Option Tx} {W:List (Tx×E (k+1))} (sp:List Nat) (hn:iI k h W) (hk:(W.foldl (bC k) ([],sp)).1.map (·.1)=W.map (·.1)):
  (W.foldl (bC k) ([],sp)).1.map (fun p=>(p.1,(hd p.2).page))=W.map fun p=>(p.1,(hd p.2).page):=by
 have hr:=hn.lE
 have hl:(W.foldl (bC k) ([],sp)).1.length=W.length:=by have:=congrArg List.length hk;rwa [aM,aM] at this
 refine List.ext_getElem (by rw[aM,aM,hl]) fun j h1 h2=> ?_
 rw[aM] at h1 h2
 rw[List.getElem_map,List.getElem_map]
 obtain⟨e,he⟩:∃e,e=(W.foldl (bC k) ([],sp)).1[j]:=⟨_,rfl⟩
 have VB:e.1=(W[j]).1:=by
  have e1:((W.foldl (bC k) ([],sp)).1.map (·.1))[j]'(by rw[aM];exact h1)=(W.map (·.1))[j]'(by rw[aM];exact h2):=by simp only[hk]
  rw[List.getElem_map,List.getElem_map] at e1
  rw[he];exact e1
 rw[←he]
 rcases xW W [] sp (show e∈_ by rw[he];exact bB h1) with⟨_,h3,_⟩|⟨w,hw,h3,h4⟩|⟨A,c,B,h3,h4,h5⟩
 ·cases h3
 ·obtain⟨i,hi,rfl⟩:=List.mem_iff_getElem.1 hw
  have hij:i=j:=by
   rcases Nat.lt_trichotomy i j with hlt|rfl|hlt
   ·have:=gE.1 hr i j hi h2 hlt
    rw[h3,VB] at this;rw[lt_irrefl] at this;cases this
   ·rfl
   ·have:=gE.1 hr j i h2 hi hlt
    rw[h3,VB] at this;rw[lt_irrefl] at this;cases this
  subst hij
  rw[VB,h4]
 ·exfalso
  have hc:iI k h (c::B):=xX (A:=A) (by rw[←h3];exact hn)
  have hca:=hc.at
  have hp:=nJ k hca.1 h4
  have hlo:lt c.1 (part k c.2).key=true:=hp.low.lt
  have hhi:su (part k c.2).key (tC h B):=hp.up.lt
  have hjm:W[j]∈A++c::B:=by rw[←h3];exact bB h2
  rw[VB] at h5
  rw[h3] at hr
  have jS:=List.pairwise_append.1 hr
  rcases ah.1 hjm with hm|hm
  ·grind [lt_trans,aA,lt_irrefl]
  ·rcases aQ.1 hm with hm|hm
   ·simp_all[lt_irrefl]
   ·have Cs:=jS.2.1
    cases B with
    |nil=>cases hm
    |cons b B=>
     have hb:lt (part k c.2).key b.1=true:=hhi
     rcases aQ.1 hm with hm|hm
     ·simp_all[lt_irrefl]
     ·have:=lt_trans hb ((cw.1 (cw.1 Cs).2).1 _ hm)
      rw[←h5,lt_irrefl] at this;cases this
theorem rO {k:Nat} {h:Option Tx} {kc:Tx} {c0 c:E (k+1)} {N:List (Tx×E (k+1))} (hs:sz k (its c0)≤sz k (its c)):∀{P:List (Tx×E (k+1))},cV (Ok (k+1)) (cut (k+1)) h (P++(kc,c0)::N)→Ok (k+1) kc (tC h N) c→cV (Ok (k+1)) (cut (k+1)) h (P++(kc,c)::N)
 |[],s,o=>by
  cases N with
  |nil=>exact o
  |cons b N=>exact⟨o,⟨s.2.1.1,s.2.1.2.1,mX s.2.1.2.2 hs⟩,s.2.2⟩
 |[a],s,o=>by
  have ih:=rO (P:=[]) hs s.2.2 o
  exact⟨s.1,⟨s.2.1.1,s.2.1.2.1,kY s.2.1.2.2 hs⟩,ih⟩
 |a::b::P,s,o=>⟨s.1,s.2.1,rO (P:=b::P) hs s.2.2 o⟩
theorem Ki {k:Nat} {lo:Tx} {h:Option Tx} {P N:List (Tx×E (k+1))} {kc:Tx} {c0 c:E (k+1)} (o:Rw (k+1) lo h (P++(kc,c0)::N)) (nc:ig k (if P=[] then lo else kc) (tC h N) c) (h1:sz k (its c)≤510) (h0:its c≠[]) (hs:sz k (its c0)≤sz k (its c)):
  Rw (k+1) lo h (P++(kc,c)::N):=by
 obtain⟨h3,h4⟩:=o
 rw[dr] at h4
 rw[lq] at h3
 refine⟨?_, ?_⟩
 ·rw[lq]
  intro p hp
  cases P with
  |nil=>cases hp;exact h3 (kc,c0) rfl
  |cons a P=>cases hp;exact h3 _ rfl
 ·rw[dr,lz]
  rw[lz] at h4
  refine rO hs h4 ?_
  have e:(if P.isEmpty=true then lo else kc)=if P=[] then lo else kc:=by cases P<;>rfl
  rw[e]
  exact nc.ok h0 h1
end Tr
section
open Go.RowKit Lib
theorem xY {n n':NV} (h:n'.its.map It.key=n.its.map It.key) (h1:n'.lo=n.lo) (j:Nat):eF n' j=eF n j:=by unfold eF;rw[h,h1]
theorem xZ {n n':NV} (h:n'.its.map It.key=n.its.map It.key) (h1:n'.hi=n.hi) (j:Nat):dW n' j=dW n j:=by
 grind [List.length,aM,dW]
section
variable {E:Ev} {X0 Xs X X' V:World} {R0 Rs R R':Nat→Prop} {ps:List (Nat×List UInt8)} {pg:List (Option Wl.Text)} {rt:List Nat} {Ms M M':Nat→Option NV} {sb p q:Nat} {n0:NV} {ga sv eC lv rv:Value} {l0:List Int} {LI IT I1 I2 h_ vg:List It} {k:Nat}
structure lF (E:Ev) (X0:World) (R0:Nat→Prop) (ps:List (Nat×List UInt8)) (pg:List (Option Wl.Text)) (rt:List Nat) (Rs:Nat→Prop) (Ms:Nat→Option NV) (Xs:World) (sb:Nat) (ga:Value) (k p:Nat) (n0:NV) (I1 I2:List It) (F:List Nat) (l0:List Int) (st:List (Tr.Tx×Tr.E (k+1))×List Nat) (h_ vg:List It) (W2:List (Tr.Tx×Tr.E (k+1))) (f2:List (List Nat)) (R:Nat→Prop) (M:Nat→Option NV) (X:World) (sv:Value) (lv:Value) (LI:List It) (fa:List (List Nat)):Prop where
 row:Kc E X0 R0 ps pg rt Rs Ms Xs sb ga k R M X sv (l0++gy st.2) lv LI st.1 fa
 at_:M p=some {n0 with its:=I1++(h_++(vg++I2))}
 keys:(I1++(h_++(vg++I2))).map It.key=n0.its.map It.key
 rest:aX pg k (dx M pg k) vg W2 f2
 nd:(p::(fa.flatten++f2.flatten)).Nodup
 news:∀r∈fa.flatten++f2.flatten,r∈F∨Xs.heap.size≤r
 same:∀r y,r∉p::F→Ms r=some y→M r=some y
 low:∀r y,Ms r=some y→r<Xs.heap.size
 Ba:∀i∈h_,∀q,i.node=some q→∃y,M q=some y
structure Ql (E:Ev) (X0:World) (R0:Nat→Prop) (ps:List (Nat×List UInt8)) (pg:List (Option Wl.Text)) (rt:List Nat) (Rs:Nat→Prop) (Ms:Nat→Option NV) (Xs:World) (sb:Nat) (ga:Value) (k p:Nat) (n0:NV) (I1 I2:List It) (F:List Nat) (l0:List Int) (st:List (Tr.Tx×Tr.E (k+1))×List Nat) (h_:List It) (i:It) (vg:List It) (c:Tr.Tx×Tr.E (k+1)) (W2:List (Tr.Tx×Tr.E (k+1))) (f:List Nat) (f2:List (List Nat)) (q:Nat) (R:Nat→Prop) (M:Nat→Option NV) (X:World) (sv:Value) (lv:Value) (LI:List It) (fa:List (List Nat)):Prop where
 out:lF E X0 R0 ps pg rt Rs Ms Xs sb ga k p n0 I1 I2 F l0 st h_ (i::vg) (c::W2) (f::f2) R M X sv lv LI fa
 node:i.node=some q
 xQ:dx M pg k q c.2 f
abbrev Ql.o:=@Ql.out
theorem Bb {F:List Nat} {st:List (Tr.Tx×Tr.E (k+1))×List Nat} {i:It} {c:Tr.Tx×Tr.E (k+1)} {W2:List (Tr.Tx×Tr.E (k+1))} {f:List Nat} {f2 fa:List (List Nat)} {j:Int}
  (h:lF E X0 R0 ps pg rt Rs Ms Xs sb ga k p n0 I1 I2 F l0 st h_ (i::vg) (c::W2) (f::f2) R M X sv lv LI fa) (hV:Below X.heap.size X V) (hlv:n0.level=k+1) (hk:k≤15) (hj:j=(I1++h_).length)
  (iX:i.node=none→Tr.Ok (k+1) (eF n0 (I1++h_).length) (iV (dW n0 (I1++h_).length)) c.2):
  Calls Tryz.prog 79 #[ptr E.tb,ptr p,.int .i64 j] V fun e X'=>∃q R' M' f',e=.returned (.tuple #[ptr q,.int .i64 0])∧Ql E X0 R0 ps pg rt Rs Ms Xs sb ga k p n0 I1 I2 F l0 st h_ {i with node:=some q} vg c W2 f' f2 q R' M' X' sv lv LI fa:=by
 obtain⟨ki,qy⟩:=h.rest
 have hnd:=cD.1 h.nd
 have jg:=aL.1 hnd.2
 rw[cU] at jg
 have hnf:=aL.1 jg.2.1
 have hpf:p∉f:=fun hm=>hnd.1 (ah.2 (.inr (by rw[cU];exact ah.2 (.inl hm))))
 have hp2:p∉f2.flatten:=fun hm=>hnd.1 (ah.2 (.inr (by rw[cU];exact ah.2 (.inr hm))))
 have hpa:p∉fa.flatten:=fun hm=>hnd.1 (ah.2 (.inl hm))
 have hts:=h.row.row.ss.ts
 refine (xT (I1:=I1++h_) (I2:=vg++I2) (key:=c.1) hts hV h.at_ hlv (show I1++(h_++(i::vg++I2))=(I1++h_)++i::(vg++I2) by simp) ki (fun hn=> ?_) hpf hnf.1 hk hj).mono ?_
 ·rw[xY (n:=n0) (n':={n0 with its:=I1++(h_++(i::vg++I2))}) h.keys rfl,xZ (n:=n0) (n':={n0 with its:=I1++(h_++(i::vg++I2))}) h.keys rfl]
  exact iX hn
 rintro e X' ⟨q,M',R',fq,rfl,b⟩
 have wv:∀b,b=n0.rg→MB M b:=fun b hb=>⟨p,_,h.at_,.inr hb⟩
 have hss:=h.row.row.ss.nodes b.ts b.but wv b.sub b.mb
 have hst:lQ R M X sb sv R' M' sv X':=lQ.nodes b.but wv b.sub b.new b.mb (Dom.but b.at_ b.same)
 have hfr:∀{fs:List (List Nat)} {is:List It} {xs:List (Tr.Tx×Tr.E (k+1))},aX pg k (dx M pg k) is xs fs→p∉fs.flatten→aX pg k (dx M' pg k) is xs fs:=fun hks sC=>hks.frame fun r hr=>by
  obtain⟨y,hy⟩:=hks.dom r hr
  rw[hy]
  exact b.same r y (fun e=>sC (by rw[←e];exact hr)) hy
 have hnew:∀r∈fq,r∈f∨X.heap.size≤r:=b.news
 have hXs:=h.row.row.xU.but.size
 have zk:∀{fs:List (List Nat)} {is:List It} {xs:List (Tr.Tx×Tr.E (k+1))},aX pg k (dx M pg k) is xs fs→(∀r∈f,r∉fs.flatten)→∀r∈fq,r∉fs.flatten:=fun hks hd r hr hm=>by
  rcases hnew r hr with h1|h1
  ·exact hd r h1 hm
  ·obtain⟨y,hy⟩:=hks.dom r hm
   have:=(hts.mem.lt hy).1
   omega
 have hda:=zk h.row.kids fun r hr hm=>jg.2.2 r hm r (ah.2 (.inl hr)) rfl
 have hd2:=zk qy fun r hr hm=>hnf.2.2 r hr r hm rfl
 refine⟨q,R',M',fq,rfl,⟨⟨⟨h.row.row.step hss hst,hfr h.row.kids hpa,h.row.got,h.row.nd⟩, ?_, ?_,⟨⟨ki.1,ki.2.1,.inr ⟨q,rfl,b.xQ⟩⟩,hfr qy hp2⟩, ?_,fun r hr=> ?_,fun r y hr hy=> ?_,h.low,fun j hj s hs=>by obtain⟨y,hy⟩:=h.Ba j hj s hs;exact hst.dom s y hy⟩,rfl,b.xQ⟩⟩
 ·rw[b.at_]
  simp
 ·rw[←h.keys]
  simp
 ·rw[cU]
  refine cD.2 ⟨fun hm=> ?_,aL.2 ⟨jg.1,aL.2 ⟨b.nd,hnf.2.1,fun r hr s hs e=>hd2 r hr (by rw[e];exact hs)⟩,fun r hr s hs e=> ?_⟩⟩
  ·rcases ah.1 hm with hm|hm
   ·exact hpa hm
   ·rcases ah.1 hm with hm|hm
    ·exact b.pn hm
    ·exact hp2 hm
  ·subst e
   rcases ah.1 hs with hs|hs
   ·exact hda r hs hr
   ·exact jg.2.2 r hr r (ah.2 (.inr hs)) rfl
 ·rw[cU] at hr
  rcases ah.1 hr with hr|hr
  ·exact h.news r (ah.2 (.inl hr))
  ·rcases ah.1 hr with hr|hr
   ·rcases hnew r hr with h1|h1
    ·exact h.news r (ah.2 (.inr (by rw[cU];exact ah.2 (.inl h1))))
    ·right;omega
   ·exact h.news r (ah.2 (.inr (by rw[cU];exact ah.2 (.inr hr))))
 ·exact b.same r y (fun e=>hr (by rw[e];exact aA)) (h.same r y hr hy)
end
section
variable {E:Ev} {X0 Xs X X' V:World} {R0 Rs R R':Nat→Prop} {ps:List (Nat×List UInt8)} {pg:List (Option Wl.Text)} {rt:List Nat} {Ms M M':Nat→Option NV} {sb p q:Nat} {n0:NV} {ga sv eC lv lp rv:Value} {l0:List Int} {LI L0 IT I1 I2 h_ vg:List It} {k:Nat}
theorem GF {F:List Nat} {st:List (Tr.Tx×Tr.E (k+1))×List Nat} {i:It} {c:Tr.Tx×Tr.E (k+1)} {W2:List (Tr.Tx×Tr.E (k+1))} {f:List Nat} {f2 fa:List (List Nat)}
  (h:Ql E X0 R0 ps pg rt Rs Ms Xs sb ga k p n0 I1 I2 F l0 st h_ i vg c W2 f f2 q R M X sv lv LI fa) (hV:Below X.heap.size X V) (hp:(Tr.hd c.2).page.isSome=true) (hl:(l0++gy st.2).length≤1000000):
  Calls Tryz.prog 131 #[ptr sb,ptr q,.agg #[.string (bs i.key),.string (bs i.val),.pointer (pa i.node)]] V fun e X'=>∃rv R' M' eC IT fs,e=.returned rv∧(∀t∈IT,t.node.isSome=true)∧uY E X0 R0 ps pg rt Rs Ms Xs sb ga k M X (fa.flatten++f) l0 rv IT (Tr.parted k c).1 fs (st.1,st.2++(Tr.parted k c).2) 0 R' M' X' eC lv LI fa:=by
 obtain⟨o,hn,Du⟩:=h
 obtain⟨ki,qy⟩:=o.rest
 have hnd:=cD.1 o.nd
 have jg:=aL.1 hnd.2
 rw[cU] at jg
 have hnf:=aL.1 jg.2.1
 have hss:=o.row.row.ss
 refine (GA (key:=c.1) (hss.still hV) Du ki hn hnf.1 hp hl).mono ?_
 rintro e X' ⟨rv,R',M',eC,IT,fs,rfl,it⟩
 have hst:lQ R M X sb sv R' M' eC X':=(lQ.still hV).trans it.xU
 have hs1:=hV.size
 have hda:∀r∈fa.flatten,r∉f:=fun r hr hm=>jg.2.2 r hr r (ah.2 (.inl hm)) rfl
 have hka:aX pg k (dx M' pg k) LI st.1 fa:=o.row.kids.frame fun r hr=>by
  obtain⟨y,hy⟩:=o.row.kids.dom r hr
  rw[hy]
  exact it.same r y (hda r hr) hy
 have hXs:=o.row.row.xU.but.size
 have e1:l0++gy (st.2++(Tr.parted k c).2)=(l0++gy st.2)++gy (Tr.parted k c).2:=by unfold gy;rw[bI,aB]
 refine⟨rv,R',M',eC,IT,fs,rfl,it.got,⟨⟨?_,hka,o.row.got,o.row.nd⟩,it.kids, ?_,it.own.mono (by omega),fun b hb=> ?_,fun r hr=> ?_,fun r y hr hy=>it.same r y (fun hm=>hr (ah.2 (.inr hm))) hy,hst.but.size,fun r y hy=>(hss.ts.mem.lt hy).1,hst.dom⟩⟩
 ·show Row _ _ _ _ _ _ _ _ _ _ _ _ _ _ _ (l0++gy (st.2++(Tr.parted k c).2)) _ _
  rw[e1]
  exact o.row.row.step it.ss hst
 ·show (fa.flatten++fs.flatten).Nodup
  refine aL.2 ⟨jg.1,it.nd,fun r hr s hs e=> ?_⟩
  subst e
  rcases it.news r hs with h1|h1
  ·exact hda r hr h1
  ·obtain⟨y,hy⟩:=o.row.kids.dom r hr
   have:=(hss.ts.mem.lt hy).1
   omega
 ·have h1:=(Own.block it.own b hb).1
  obtain⟨h2,h3⟩:=it.A8 b hb
  refine⟨h2,fun e=> ?_,h3,fun e=> ?_⟩
  ·have:=hss.blk.lt;omega
  ·have:=(Own.block o.row.row.own b e).2;omega
 ·have jS:r∈fa.flatten++fs.flatten:=hr
  rcases ah.1 jS with hr|hr
  ·exact .inl (ah.2 (.inl hr))
  ·rcases it.news r hr with h1|h1
   ·exact .inl (ah.2 (.inr h1))
   ·right;omega
theorem DG {F:List Nat} {st st':List (Tr.Tx×Tr.E (k+1))×List Nat} {i:It} {c:Tr.Tx×Tr.E (k+1)} {W2 cs:List (Tr.Tx×Tr.E (k+1))} {f:List Nat} {f2 fs fa jt:List (List Nat)} {j:Nat}
  (h:Ql E X0 R0 ps pg rt Rs Ms Xs sb ga k p n0 I1 I2 F l0 st h_ i vg c W2 f f2 q R M X sv lv LI fa) (hi:uY E X0 R0 ps pg rt Rs Ms Xs sb ga k M X (fa.flatten++f) l0 rv IT cs fs st' j R' M' X' eC lp L0 jt):
  lF E X0 R0 ps pg rt Rs Ms Xs sb ga k p n0 I1 I2 F l0 st' (h_++[i]) vg W2 f2 R' M' X' eC lp L0 jt:=by
 obtain⟨o,hn,Du⟩:=h
 obtain⟨ki,qy⟩:=o.rest
 have hnd:=cD.1 o.nd
 rw[cU,←aB] at hnd
 have hd:=aL.1 hnd.2
 have Rv:p∉fa.flatten++f:=fun hm=>hnd.1 (ah.2 (.inl hm))
 have hp2:p∉f2.flatten:=fun hm=>hnd.1 (ah.2 (.inr hm))
 have hXs:=o.row.row.xU.but.size
 have dH:=(o.row.row.ss.ts.mem.lt o.at_).1
 have hnew:∀r∈jt.flatten,r∈fa.flatten++f∨X.heap.size≤r:=fun r hr=>hi.news r (ah.2 (.inl hr))
 have TZ:∀r,r∈fa.flatten++f∨r∈f2.flatten→r∈F∨Xs.heap.size≤r:=fun r hr=>by
  refine o.news r ?_
  rw[cU,←aB]
  exact ah.2 hr
 refine⟨hi.row, ?_, ?_,qy.frame fun r hr=> ?_,cD.2 ⟨fun hm=> ?_,aL.2 ⟨hi.row.nd,hd.2.1,fun r hr s hs e=> ?_⟩⟩,fun r hr=> ?_,fun r y hr hy=> ?_,o.low,fun j hj s hs=> ?_⟩
 ·rw[hi.same p _ Rv o.at_]
  simp
 ·rw[←o.keys]
  simp
 ·obtain⟨y,hy⟩:=qy.dom r hr
  rw[hy]
  exact hi.same r y (fun hm=>hd.2.2 r hm r hr rfl) hy
 ·grind
 ·subst e
  rcases hnew r hr with h1|h1
  ·grind
  ·obtain⟨y,hy⟩:=qy.dom r hs
   have:=(o.row.row.ss.ts.mem.lt hy).1
   omega
 ·grind
 ·have hy2:=o.same r y hr hy
  refine hi.same r y (fun hm=> ?_) hy2
  rcases TZ r (.inl hm) with h1|h1
  ·grind
  ·have:=o.low r y hy
   omega
 ·rcases ah.1 hj with hj|hj
  ·obtain⟨y,hy⟩:=o.Ba j hj s hs
   exact hi.dom s y hy
  ·rw[cH.1 hj,hn] at hs
   cases hs
   obtain⟨y,hy,-,-⟩:=Du.head
   exact hi.dom q y hy
end
section
variable {w:World} {p q sb:Nat} {m:NV}
theorem zq (h:Nd w q m) (hf:cj m.its≤510) (hs:m.was≤cj m.its):
  Calls Tryz.prog 87 #[ptr sb,ptr p,ptr q] w fun e w'=>e=.returned (.int .i64 0)∧Below w.heap.size w w':=by
 have HF:=aa (fun V (hV:Below w.heap.size w V)=>iF (h.still hV))
 have HS:=aa (fun V (hV:Below w.heap.size w V)=>gJ (h.still hV))
 have HW:=aa (fun V (hV:Below w.heap.size w V)=>(h.still hV).c5)
 rw[decide_eq_true hf] at HF
 have xk:(cj m.its:Int)≥m.was:=by omega
 have c5:=h.c5
 have HB:=aa (Below.refl w.heap.size w)
 unfold ptr at HF HS
 clear h hf hs
 go_enter Tryz.func87,Tryz.ntmps87
 unfold ptr
 go_wp2_with (refine wp_region_any (by kernel_rfl) ?_;refine Hid.o ?_)
 refine aa ?_
 try (change wpAny _ _ _ _ _ _ _ (bD _))
 refine tk 0 ?_
 refine rd [1] (rn fun K hK=> ?_)
 go_simp
 refine (HF.o _ ((Below.refl _ w).drew)).mono ?_;rintro e w1 ⟨rfl,bF⟩
 refine hK _ _ ?_;clear hK K
 have HB:=aa (((Below.refl w.heap.size w).drew).trans bF)
 have HC:=aa (HW.o w1 HB.o)
 have c5:=HC.o
 clear bF
 refine tk 2 ?_
 refine tk 3 ?_
 refine tk 5 ?_
 refine tk 6 ?_
 refine tk 7 ?_
 try simp only[Act.put,az,ay,au]
 refine rd [4,8] (AllReady.cons rfl (fun K hK=> ?_) (rn fun K hK=> ?_))
 focus
  go_simp
  refine (HS.o _ HB.o).mono ?_
  rintro e w4 ⟨rfl,hb4⟩
  have HB:=aa (HB.o.trans (hb4.mono HB.o.size))
  have HC:=aa (HW.o w4 HB.o)
  have c5:=HC.o
  clear hb4
  refine hK _ _ ?_;clear hK K
  refine rd [8] (rn fun K hK=> ?_)
  go_simp
  refine hK _ _ ?_;clear hK K
 rotate_left
 focus
  go_simp
  refine hK _ _ ?_;clear hK K
  refine rd [4] (rn fun K hK=> ?_)
  go_simp
  refine (HS.o _ HB.o).mono ?_
  rintro e w4 ⟨rfl,hb4⟩
  have HB:=aa (HB.o.trans (hb4.mono HB.o.size))
  have HC:=aa (HW.o w4 HB.o)
  have c5:=HC.o
  clear hb4
  refine hK _ _ ?_;clear hK K
 all_goals
  try simp only[Act.put,az,ay,au]
  refine tk 9 ?_
  refine tk 10 ?_
  refine wpAny_done (by kernel_rfl) ?_ _
  go_wp2_with fail
  go_ret
  exact⟨rfl,HB.o⟩
end
theorem jH {pg:List (Option Wl.Text)}:∀{k:Nat} {n:Tr.E (k+1)},cK pg (k+1) n→Tr.Old (k+1) n
 |0,_,h=>by
  obtain⟨⟨page,hp,_⟩,_,_⟩:=h
  exact⟨by rw[hp];rfl,fun _ _=>trivial⟩
 |k+1,_,h=>by
  obtain⟨⟨page,hp,_⟩,_,hk⟩:=h
  exact⟨by rw[hp];rfl,fun p hm=>jH (hk p (List.mem_of_mem_head? hm))⟩
theorem x6 {k:Nat} {n:NV} {A B:List (Tr.Tx×Tr.E (k+1))} {key:Tr.Tx} {c:Tr.E (k+1)} (hn:Tr.Rw (k+1) n.lo (iV n.hi) (A++(key,c)::B)) (hks:n.its.map It.key=(A++(key,c)::B).map (·.1)):
  eF n A.length=(if A=[] then n.lo else key)∧iV (dW n A.length)=Tr.tC (iV n.hi) B:=by
 obtain⟨_,h4⟩:=hn
 rw[Tr.dr] at h4
 have hlen:n.its.length=(A++(key,c)::B).length:=by
  grind [List.length,aM]
 have hlo:eF n A.length=if A=[] then n.lo else key:=by
  simp_all[eF]
 have hB:∀b B',B=b::B'→dW n A.length=b.1:=by
  simp_all[dW,aq]
 have LY:B=[]→dW n A.length=n.hi:=by
  simp_all[dW]
 have hne:∀b B',B=b::B'→b.1≠[]:=by
  intro b B' e eb
  rw[e,Tr.lz] at h4
  have:=(Tr.cV.append.1 h4).2.1.1
  rw[eb] at this
  have h0:∀x:Tr.Tx,Tr.lt x []=false:=fun x=>by cases x<;>rfl
  rw[h0] at this
  cases this
 refine⟨hlo, ?_⟩
 cases B with
 |nil=>rw[LY rfl];rfl
 |cons b B'=>
  rw[hB b B' rfl]
  unfold iV
  rw[if_neg (hne b B' rfl)]
  rfl
theorem zu {k:Nat} {A B:List (Tr.Tx×Tr.E (k+1))} {kc:Tr.Tx} {c0 c:Tr.E (k+1)}:Tr.sz (k+1) (A++(kc,c)::B)=Tr.sz (k+1) (A++(kc,c0)::B):=by
 rw[Tr.dV,Tr.dV];rfl
theorem Bc {k:Nat} {c0 c:Tr.E (k+1)} (h:(Tr.hd c).page=(Tr.hd c0).page):dS (k+1) c=dS (k+1) c0:=by
 show pv ((Tr.hd c).page.getD 0)=pv ((Tr.hd c0).page.getD 0)
 rw[h]
theorem dh (k:Nat) (a b:List (Tr.Tx×Tr.E k)):ak k (a++b)=ak k a++ak k b:=bI
theorem wW {k:Nat} {a b:List (Tr.Tx×Tr.E (k+1))} (h:a.map (fun p=>(p.1,(Tr.hd p.2).page))=b.map fun p=>(p.1,(Tr.hd p.2).page)):ak (k+1) a=ak (k+1) b:=by
 have e:∀l:List (Tr.Tx×Tr.E (k+1)),ak (k+1) l=(l.map fun p=>(p.1,(Tr.hd p.2).page)).map fun x=>(⟨x.1,pv (x.2.getD 0),none⟩:It):=by
  intro l
  unfold ak
  rw[List.map_map]
  rfl
 rw[e,e,h]
section
variable {E:Ev} {X0 X X':World} {R0 R R':Nat→Prop} {ps:List (Nat×List UInt8)} {pg:List (Option Wl.Text)} {rt:List Nat} {M M':Nat→Option NV} {k p q sb:Nat} {n m:NV} {sv eC:Value} {h:Tr.Hd} {A B:List (Tr.Tx×Tr.E (k+1))} {kc:Tr.Tx} {c0 c:Tr.E (k+1)} {F:List Nat} {l0:List Int} {sp:List Nat}
structure Slot (pg:List (Option Wl.Text)) (M:Nat→Option NV) (k p q:Nat) (n m:NV) (h:Tr.Hd) (A B:List (Tr.Tx×Tr.E (k+1))) (kc:Tr.Tx) (c0 c:Tr.E (k+1)) (F:List Nat):Prop where
 at_:M p=some n
 its:n.its=ak (k+1) A++⟨kc,dS (k+1) c0,some q⟩::ak (k+1) B
 sides:∀x,x∈A∨x∈B→cK pg (k+1) x.2
 own:n.own=true
 lG:jU pg (k+1) n (Tr.mk h (A++(kc,c0)::B))
 idx:n.at_=A.length
 xQ:dx M pg k q c F
 kI:M q=some m
 near:Tr.ig k (eF n A.length) (iV (dW n A.length)) c
 page:(Tr.hd c).page=(Tr.hd c0).page
 old:Tr.Old (k+1) c
 was:m.was=Tr.sz k (Tr.its c0)
 fit:Tr.sz (k+1) (A++(kc,c0)::B)≤510
 fresh:h.fresh=false
 nd:(p::F).Nodup
theorem Slot.keys (s:Slot pg M k p q n m h A B kc c0 c F):n.its.map It.key=(A++(kc,c0)::B).map (·.1):=by
 rw[s.its,bI,bH,c9,c9,bI,bH]
theorem Slot.O5 (s:Slot pg M k p q n m h A B kc c0 c F):n.its.map It.key=(A++(kc,c)::B).map (·.1):=by
 rw[s.keys,bI,bH,bI,bH]
theorem Slot.VC (s:Slot pg M k p q n m h A B kc c0 c F):Tr.Rw (k+1) n.lo (iV n.hi) (A++(kc,c0)::B):=s.lG.near.2
theorem Slot.ends (s:Slot pg M k p q n m h A B kc c0 c F):eF n A.length=(if A=[] then n.lo else kc)∧iV (dW n A.length)=Tr.tC (iV n.hi) B:=x6 s.VC s.keys
theorem Slot.O6 (s:Slot pg M k p q n m h A B kc c0 c F):Tr.ig k (if A=[] then n.lo else kc) (Tr.tC (iV n.hi) B) c:=by
 have:=s.near
 rwa [s.ends.1,s.ends.2] at this
theorem Slot.ok0 (s:Slot pg M k p q n m h A B kc c0 c F):Tr.Ok (k+1) (eF n A.length) (iV (dW n A.length)) c0:=lB s.lG.near rfl s.keys
theorem x7 {n n':NV} {h:Tr.Hd} {l l':List (Tr.Tx×Tr.E (k+1))} (o:jU pg (k+1) n (Tr.mk h l)) (h1:n'.level=n.level) (h2:n'.page=n.page) (h3:n'.fresh=n.fresh) (h4:n'.lo=n.lo) (h5:n'.hi=n.hi) (hz:Tr.sz (k+1) l'≤664) (hw:Tr.Rw (k+1) n.lo (iV n.hi) l') (hp:l'.map (fun p=>(p.1,(Tr.hd p.2).page))=l.map fun p=>(p.1,(Tr.hd p.2).page)):jU pg (k+1) n' (Tr.mk h l'):=by
 refine⟨by rw[h1];exact o.level,by rw[h2];exact o.page,by rw[h3];exact o.fresh,by rw[h4,h5];exact⟨hz,hw⟩,fun hf=> ?_⟩
 obtain⟨page,e1,e2,e3,e4⟩:=o.held hf
 refine⟨page,e1,e2, ?_,fun _ x hx=> ?_⟩
 ·show pg.getD page none=some (Dk.full (cB (k+1) (ak (k+1) l')))
  rw[wW hp]
  exact e3
 ·have hm:(x.1,(Tr.hd x.2).page)∈l.map fun p=>(p.1,(Tr.hd p.2).page):=by rw[←hp];exact List.mem_map.2 ⟨x,hx,rfl⟩
  obtain⟨y,hy,e⟩:=List.mem_map.1 hm
  have e5:=e4 (Nat.succ_pos k) y hy
  have e6:(Tr.hd y.2).page=(Tr.hd x.2).page:=(Prod.mk.inj e).2
  show (Tr.hd x.2).page.isSome=true
  rw[←e6]
  exact e5
theorem x8 (hp:(Tr.hd c).page=(Tr.hd c0).page):(A++(kc,c)::B).map (fun p=>(p.1,(Tr.hd p.2).page))=(A++(kc,c0)::B).map fun p=>(p.1,(Tr.hd p.2).page):=by
 grind
def Bd (E:Ev) (X0:World) (R0 R:Nat→Prop) (ps:List (Nat×List UInt8)) (pg:List (Option Wl.Text)) (rt:List Nat) (M:Nat→Option NV) (X:World) (sb:Nat) (sv:Value) (l0:List Int) (sp:List Nat) (k p:Nat) (n:NV) (h:Tr.Hd) (all:List (Tr.Tx×Tr.E (k+1))) (b:Nat) (F:List Nat) (X':World):Prop:=
 ∃R' M' eC n' t' F' sp',SS E X0 R0 R' ps pg rt M' X' sb eC (l0++gy sp')∧lQ R M X sb sv R' M' eC X'∧M' p=some n'∧(n'.lo=n.lo∧n'.hi=n.hi∧n'.was=n.was∧n'.own=true)∧dx M' pg (k+1) p t' F'∧(Tr.hd t').page=h.page∧
  Tr.tD k n.lo (iV n.hi) all (Tr.its t') b sp sp'∧F'.Nodup∧(∀r∈F',r∈p::F∨X.heap.size≤r)∧∀r y,r∉p::F→M r=some y→M' r=some y
theorem nu {R1:Nat→Tr.E (k+1)→List Nat→Prop} {I:List It} {W:List (Tr.Tx×Tr.E (k+1))} {fs:List (List Nat)} {P N:List (Tr.Tx×Tr.E (k+1))} (hP:∀x∈P,cK pg (k+1) x.2) (hN:∀x∈N,cK pg (k+1) x.2) (hw:aX pg k R1 I W fs):
  ∃fs',aX pg k R1 (ak (k+1) P++(I++ak (k+1) N)) (P++(W++N)) fs'∧fs'.flatten=fs.flatten:=
 ⟨_,(gM hP).append (hw.append (gM hN)),by rw[dm,dm,gZ,gZ,dF,bh]⟩
theorem GG (s:Slot pg M k p q n m h A B kc c0 c F) (hs:SS E X0 R0 R ps pg rt M X sb sv (l0++gy sp)) (hz:Tr.sz k (Tr.its c)≤510) (hg:Tr.sz k (Tr.its c0)≤Tr.sz k (Tr.its c)) (hb:Below X.heap.size X X'):
  Bd E X0 R0 R ps pg rt M X sb sv l0 sp k p n h (A++(kc,c)::B) (Tr.big k [(kc,c)]) F X':=by
 have h0:Tr.its c≠[]:=by
  intro e
  have h1:=Tr.Mz s.ok0.1
  rw[e] at hg
  have:Tr.sz k ([]:List (Tr.Tx×Tr.E k))=0:=rfl
  omega
 have hrw:=Tr.Ki s.VC s.O6 hz h0 hg
 have hbig:Tr.big k [(kc,c)]=0:=by unfold Tr.big;rw[if_pos hz];rfl
 have nP:=x8 (A:=A) (B:=B) (kc:=kc) s.page
 have hfit:=s.fit
 obtain⟨fs,hk,hfl⟩:=nu (R1:=dx M pg k) (fun x hx=>s.sides x (.inl hx)) (fun x hx=>s.sides x (.inr hx)) (show aX pg k (dx M pg k) [⟨kc,dS (k+1) c0,some q⟩] [(kc,c)] [F] from⟨⟨rfl,rfl,.inr ⟨q,rfl,s.xQ⟩⟩,trivial⟩)
 refine⟨R,M,sv,n,Tr.mk h (A++(kc,c)::B),p::F,sp,hs.still hb,lQ.still hb,s.at_,⟨rfl,rfl,rfl,s.own⟩, ?_,rfl, ?_,s.nd,fun r hr=>.inl hr,fun _ _ _ hy=>hy⟩
 ·refine⟨n,fs,s.at_,x7 s.lG rfl rfl rfl rfl rfl (by rw[zu (c0:=c0)];omega) hrw nP, ?_, ?_⟩
  ·rw[s.its];exact hk
  ·rw[hfl];simp
 ·rw[hbig]
  refine⟨hrw,rfl,List.Perm.refl _,rfl,Nat.le_add_right _ _,fun ho p hp=>ho p (List.mem_of_mem_head? hp)⟩
end
end
namespace Tr
theorem Be {k:Nat} {h:Option Tx} {a a':Tx} {x:E (k+1)}:∀{r:List (Tx×E (k+1))},iI k h ((a,x)::r)→le a' a→iI k h ((a',x)::r)
 |[],hn,hl=>⟨hn.1.lo hl,ug hl hn.2.1,hn.2.2⟩
 |_::_,hn,hl=>⟨hn.1.lo hl,⟨lt_of_le_of_lt hl hn.2.1.1,hn.2.1.2⟩,hn.2.2⟩
theorem Bf {k:Nat} {lo:Tx} {h:Option Tx} {P A B N:List (Tx×E (k+1))} {kc:Tx} {c0 c:E (k+1)} (o:Rw (k+1) lo h (P++((A++(kc,c0)::B)++N))) (nc:ig k (if P=[]∧A=[] then lo else kc) (tC h (B++N)) c)
  (oA:∀p∈A,Old (k+1) p.2) (oc:Old (k+1) c) (oB:∀p∈B,Old (k+1) p.2):∃h',iI k h' (A++(kc,c)::B):=by
 obtain⟨h3,h4⟩:=o
 rw[dr] at h4
 rw[lq] at h3
 refine⟨tC h N, ?_⟩
 rw[uO] at nc
 cases P with
 |cons a P=>
  have h5:=(cV.uN (cV.behind (A:=(lo,a.2)::P) h4)).1
  exact nQ h5 (by rw[if_neg (by simp)] at nc;exact nc) oA oc oB
 |nil=>
  have h5:cV (Ok (k+1)) (cut (k+1)) (tC h N) (bA lo (A++(kc,c0)::B)):=by
   grind [eW,cV.uN]
  cases A with
  |nil=>
   have h6:=nQ (P:=[]) (c:=c) h5 (by rw[if_pos ⟨rfl,rfl⟩] at nc;exact nc) (fun _ h=>by cases h) oc oB
   have e:kc=[]:=h3 (kc,c0) rfl
   rw[e]
   exact Be h6 (nil_le _)
  |cons a A=>
   have h6:=nQ (P:=(lo,a.2)::A) (c:=c) h5 (by rw[if_neg (by simp)] at nc;exact nc) (fun p hp=>by
    rcases aQ.1 hp with rfl|hp
    ·grind
    ·exact oA p (aF _ hp)) oc oB
   have e:a.1=[]:=h3 a rfl
   obtain⟨ka,xa⟩:=a
   cases e
   exact Be h6 (nil_le _)
theorem vh:∀(k:Nat) (n m:E (k+1)) (x:Tx),(join k n m x).2.length≤k+1
 |0,n,m,x=>by rw[rA];cases (hd m).page<;>simp
 |k+1,n,m,x=>by
  unfold join
  split
  ·rename_i a b r _ _
   have ih:=vh k a.2 b.2 x
   have e:(hd m).page.toList.length≤1:=by cases (hd m).page<;>simp
   split
   ·grind
   ·grind
  ·exact aC _
theorem sJ (k:Nat) (x:Tx) (acc:List (Tx×E (k+1))) (sp:List Nat) (i:Tx×E (k+1)):(bG k x acc sp i).1.length≤acc.length+1∧(bG k x acc sp i).2.length≤sp.length+(k+1):=by
 by_cases h:acc=[]
 ·simp_all[iU,Nat.le_add_right]
 ·obtain⟨A,a,rfl⟩:=dA h
  rw[dB]
  split
  ·grind
  ·simp_all[aq,vh]
theorem GH (k:Nat) (st:List (Tx×E (k+1))×List Nat) (c:Tx×E (k+1)):(bC k st c).1.length≤st.1.length+2∧(bC k st c).2.length≤st.2.length+(2*k+3):=by
 unfold bC dn
 split
 ·grind
 ·grind [sJ,part,bG]
theorem nR (k:Nat):∀(W:List (Tx×E (k+1))) (st:List (Tx×E (k+1))×List Nat),(W.foldl (bC k) st).1.length≤st.1.length+2*W.length∧(W.foldl (bC k) st).2.length≤st.2.length+(2*k+3)*W.length
 |[],st=>⟨by simp,by simp⟩
 |c::W,st=>by
  have h1:=GH k st c
  have h2:=nR k W (bC k st c)
  rw[List.foldl_cons,aW]
  refine⟨by omega, ?_⟩
  rw[Nat.mul_succ]
  omega
end Tr
section
open Go.RowKit Lib
theorem zv (w:World) (o cap i:Nat) (l:List It) (h:aR 0 w (.slice (some ⟨o,0,none⟩) l.length cap) l) (hi:i<l.length) (hl:l.length≤400):
  Calls Tryz.prog 56 #[.slice (some ⟨o,0,none⟩) l.length cap,.int .i64 i,.int .i64 (i+1:Nat)] w fun e w'=>e=.returned (.slice (some ⟨o,0,none⟩) (l.length-1) cap)∧aR 0 w' (.slice (some ⟨o,0,none⟩) (l.length-1) cap) (l.take i++l.drop (i+1))∧aE (fun k=>k=o) w w':=by
 obtain⟨_,hcap,Rc⟩:=gQ h
 have hpre:=Own.upto h i (by omega)
 have JK:=aa hpre
 obtain⟨M,hM⟩:∃M,l.length=M+1:=⟨l.length-1,by omega⟩
 rw[hM] at hi hl hcap h ⊢
 have HI:=aa (show i<l.length∧l.length=M+1∧M+1≤cap from⟨by omega,hM,hcap⟩)
 have M_:l.drop (i+1)≠[]→a_ aj w o ((i+1)*3) (l.drop (i+1)):=fun _=>by
  have:=(Own.lies h).part (i+1) (l.length-(i+1)) (by omega)
  rw[bV,bZ (by rw[aT];exact af _)] at this
  exact this
 rw[Nat.add_sub_cancel]
 have Jj:(i:Int)+1≤M+1:=by omega
 have aaJ:(i:Int)≤i+1:=by omega
 have aaK:(0:Int)≤(i:Int)+1:=by omega
 have Ta:(i:Int)≤M+1:=by omega
 have hiM:i≤M:=by omega
 have hsum:i+(M-i)=M:=by omega
 have hm2:(cap:Int)≤9223372036854775807:=by unfold maxLen at Rc;omega
 have Cm:(M:Int)+1≤cap:=by omega
 have hic:i≤cap:=by omega
 have hMc:¬cap=M:=by omega
 have M9:¬cap=i:=by omega
 have iw:IntKind.i64.wrap ((i:Int)+1)=(i:Int)+1:=by
  grind [cN]
 have Tb:((i:Int)+1).toNat=i+1:=by omega
 have hne:((i:Int)==(i:Int)+1)=false:=by rw[beq_eq_false_iff_ne];omega
 clear hpre h hM Rc
 by_cases VD:cap=i+1
 ·have hem:l.drop (i+1)=[]:=List.drop_eq_nil_of_le (by have:=HI.o;omega)
  have XO:=aa (show l.drop (i+1)≠[]→a_ aj w.drew o 0 (l.drop (i+1)) from fun hn=>absurd hem hn)
  clear M_ hem
  subst VD
  obtain rfl:i=M:=by omega
  go_enter Tryz.func56,Tryz.ntmps56
  go_wp2_with (refine wp_region_any (by kernel_rfl) ?_;refine Hid.o ?_)
  refine aa ?_
  try (change wpAny _ _ _ _ _ _ _ (bD _))
  refine tk 0 ?_
  refine tk 1 ?_
  refine tk 2 ?_
  refine tk 3 ?_
  refine tk 4 ?_
  refine tk 5 ?_
  try simp only[Act.put,az,ay,au]
  refine rd [6] (rn fun K hK=> ?_)
  refine m8 _ _ rfl o i (i+1) rfl (show aR 0 w.drew (.slice (some ⟨o,0,none⟩) i (i+1)) (l.take i) from JK.o) (by rw[aN];have:=HI.o;omega) _ _ _ _ (l.drop (i+1)) rfl (by rw[aT];have:=HI.o;omega) (fun hne=>XO.o hne) (by have:=HI.o;omega) ?_;intro w5 h5 gS
  refine hK _ _ ?_;clear hK K
  refine tk 7 ?_
  refine wpAny_done (by kernel_rfl) ?_ _
  rw[show i+0=i by omega] at h5 ⊢
  have H5:=aa (show aR 0 w5 (.slice (some ⟨o,0,none⟩) i (i+1)) (l.take i++l.drop (i+1))∧aE (fun k=>k=o) w w5 from⟨h5,⟨gS.os,gS.tape,gS.output,gS.size,fun k hk hn=>gS.block k hk (fun e=>hn (by injection e))⟩⟩)
  clear h5 gS
  obtain⟨vs,AK⟩:=e8 w5 o i (i+1) (l.take i++l.drop (i+1)) H5.o.1 1 (by omega) (by decide)
  go_wp2
  go_ret
  have hz:=Own.cleared (K:=aj) (E:=122) (B:=0) vs w5 (i*3) H5.o.1 (by rw[aq,aN,aT];have:=HI.o;show _*3≤_;omega)
  exact⟨rfl,hz.1,H5.o.2.trans hz.2 (fun _ _ e=>e)⟩
 ·have XO:=aa (show l.drop (i+1)≠[]→a_ aj w.drew o ((i+1)*3) (l.drop (i+1)) from M_)
  clear M_
  go_enter Tryz.func56,Tryz.ntmps56
  go_wp2_with (refine wp_region_any (by kernel_rfl) ?_;refine Hid.o ?_)
  refine aa ?_
  try (change wpAny _ _ _ _ _ _ _ (bD _))
  refine tk 0 ?_
  refine tk 1 ?_
  refine tk 2 ?_
  refine tk 3 ?_
  refine tk 4 ?_
  refine tk 5 ?_
  try simp only[Act.put,az,ay,au]
  refine rd [6] (rn fun K hK=> ?_)
  refine m8 _ _ rfl o i cap rfl (show aR 0 w.drew (.slice (some ⟨o,0,none⟩) i cap) (l.take i) from JK.o) (by rw[aN];have:=HI.o;omega) _ _ _ _ (l.drop (i+1)) rfl (by rw[aT];have:=HI.o;omega) (fun hne=>XO.o hne) (by have:=HI.o;omega) ?_;intro w5 h5 gS
  refine hK _ _ ?_;clear hK K
  refine tk 7 ?_
  refine wpAny_done (by kernel_rfl) ?_ _
  rw[hsum] at h5 ⊢
  have H5:=aa (show aR 0 w5 (.slice (some ⟨o,0,none⟩) M cap) (l.take i++l.drop (i+1))∧aE (fun k=>k=o) w w5 from⟨h5,⟨gS.os,gS.tape,gS.output,gS.size,fun k hk hn=>gS.block k hk (fun e=>hn (by injection e))⟩⟩)
  clear h5 gS
  obtain⟨vs,AK⟩:=e8 w5 o M cap (l.take i++l.drop (i+1)) H5.o.1 1 (by omega) (by decide)
  go_wp2
  go_ret
  have hz:=Own.cleared (K:=aj) (E:=122) (B:=0) vs w5 (M*3) H5.o.1 (by rw[aq,aN,aT];have:=HI.o;show _*3≤_;omega)
  exact⟨rfl,hz.1,H5.o.2.trans hz.2 (fun _ _ e=>e)⟩
theorem vi (w:World) (a:Option Addr) (c:Nat) (ty:TypeId):(Builtin.clear_ #[123] ty #[.slice a 0 c]).run Tryz.prog w=.ok (.tuple #[]) w:=by
 cases a<;>simp[Builtin.clear_,run_underlying Tryz.underlying123]
section
variable {w:World} {B:Nat} {l ms:List It} {va:Option Addr} {mc:Nat}
theorem nv {g cap i j m:Nat} (h:aR B w (.slice (some ⟨g,0,none⟩) l.length cap) l) (hl:l.length≤400) (hm:m=ms.length) (hv:0<ms.length→∃vr vo,va=some ⟨vr,vo,none⟩∧a_ aj w vr vo ms∧vr≠g) (hij:i+m≤j) (hi:i<j) (hj:j<l.length):
  Calls Tryz.prog 134 #[.slice (some ⟨g,0,none⟩) l.length cap,.int .i64 i,.int .i64 j,.slice va m mc] w fun e w'=>f_ B w (.slice (some ⟨g,0,none⟩) l.length cap) (l.take i++ms++l.drop j) e w':=by
 obtain⟨R,hg,zX,-,rE,hcm,hBg⟩:=jr h
 have HH:=aa (And.intro h (And.intro hg (And.intro zX (And.intro hcm hBg))))
 have HV:=aa hv
 have HN:=aa (show i+m≤j∧j<l.length∧l.length≤cap∧m=ms.length from⟨hij,hj,rE,hm⟩)
 obtain⟨L,hL⟩:∃L,L=l.length:=⟨_,rfl⟩
 rw[←hL] at hl hj rE ⊢
 have HL:=aa hL
 have iY:(L:Int)≤400:=by omega
 have T0:(i:Int)≤j:=by omega
 have Jj:(i:Int)≤L:=by omega
 have FU:(j:Int)≤L:=by omega
 have T3:(j:Int)<L:=by omega
 have hne:((i:Int)==j)=false:=by rw[beq_eq_false_iff_ne];omega
 have T4:((j:Int)==L)=false:=by rw[beq_eq_false_iff_ne];omega
 have Cm:(L:Int)≤cap:=by omega
 have M9:¬cap=i:=by omega
 have VD:¬cap=j:=by omega
 have MU:(m:Int)≤400:=by omega
 have hTI:¬(i:Int)+m+(L-j)>cap:=by omega
 have hT0:(0:Int)≤(i:Int)+m+(L-j):=by omega
 have XP:(i:Int)+m+(L-j)≤cap:=by omega
 have T6:(i:Int)+m≤j:=by omega
 have hiT:(i:Int)≤(i:Int)+m+(L-j):=by omega
 have T7:¬cap=i+m:=by omega
 have Vp:(0:Int)≤(i:Int)+m:=by omega
 have ilT:(i:Int)+m≤(i:Int)+m+((L-j:Nat):Int):=by omega
 have iw:IntKind.i64.wrap ((i:Int)+m)=(i:Int)+m:=by
  grind [cN]
 have Tb:((i:Int)+m).toNat=i+m:=by omega
 obtain⟨Mi,O7⟩:∃Mi,Mi=aj.cells ((l.drop i).take (j-i)):=⟨_,rfl⟩
 have hmid:aj.cells l++R=aj.cells (l.take i)++(Mi++(aj.cells (l.drop j)++R)):=by
  grind [eU,List.drop_drop,aB]
 have HC:=aa (show w.drew.heap[g]?=some (.cells (aj.cells (l.take i)++(Mi++(aj.cells (l.drop j)++R))).toArray 122 (0,0))∧(aj.cells (l.take i)).length=i*3∧Mi.length=(j-i)*3∧(aj.cells (l.drop j)).length=(L-j)*3∧cap≤maxLen∧(aj.cells (l.take i)++(Mi++(aj.cells (l.drop j)++R))).length=cap*3 from
  ⟨by rw[←hmid];exact hg,by rw[bQ,aN,b_ (by omega)],by rw[O7,bQ,aN,aT,b_ (by omega)],by rw[bQ,aT,hL],hcm,by rw[←hmid];exact zX⟩)
 clear h hg zX hcm hBg hv hm hij hi hj hL O7 hmid
 go_enter Tryz.func134,Tryz.ntmps134
 go_wp2_with fail
 go_region
 go_wp2_with (refine ez rfl _ _ rfl _ _ _ _ _ _ rfl rfl g (i*3) _ HC.o.1 ms (by rw[←HN.o.2.2.2];exact (b_ (by omega)).symm) (fun h0=>by obtain⟨vr,vo,e,hlv,_⟩:=HV.o h0;exact⟨rfl,vr,vo,e,hlv⟩) (by rw[HC.o.2.2.2.2.2,←HN.o.2.2.2];have:=HN.o;omega) ?_;intro w1 rI bF;refine Hid.o ?_)
 refine aa ?_
 have bF:=(aE.refl (fun k=>k=g) w).drew.trans bF (fun _ _ h=>h)
 rw[←HC.o.2.1,fo rfl,←aB] at rI
 obtain⟨Y,hY⟩:∃Y,Y=Mi.drop (aj.cells ms).length:=⟨_,rfl⟩
 rw[List.drop_append_of_le_length (by rw[bQ,HC.o.2.2.1,←HN.o.2.2.2];have:=HN.o;omega),←hY] at rI
 have OL:Y.length+m*3=(j-i)*3:=by rw[hY,aT,bQ,HC.o.2.2.1,←HN.o.2.2.2];have:=HN.o;omega
 have hml:(aj.cells ms).length=m*3:=by rw[bQ,HN.o.2.2.2]
 have H1:=aa (show w1.heap[g]?=some (.cells (aj.cells (l.take i)++aj.cells ms++(Y++(aj.cells (l.drop j)++R))).toArray 122 (0,0))∧aE (fun k=>k=g) w w1∧Y.length+m*3=(j-i)*3∧(aj.cells ms).length=m*3 from⟨rI,bF,OL,hml⟩)
 have wm:a_ aj w1 g (j*3) (l.drop j):=by
  have h1:=H1.o.1
  rw[←aB] at h1
  have h2:=kF h1
  have e:(aj.cells (l.take i)++aj.cells ms++Y).length=j*3:=by
   rw[aq,aq,HC.o.2.1,hml]
   have:=HN.o
   omega
  rw[e] at h2
  exact h2
 have HD1:=aa wm
 clear rI bF hY OL hml wm
 go_wp2_with fail
 go_wp2_with (refine wp_region_any (by kernel_rfl) ?_;refine Hid.o ?_)
 refine aa ?_
 try (change wpAny _ _ _ _ _ _ _ (bD _))
 refine tk 0 ?_
 refine tk 1 ?_
 refine tk 2 ?_
 refine tk 3 ?_
 refine tk 4 ?_
 refine tk 5 ?_
 refine tk 6 ?_
 refine tk 7 ?_
 refine tk 8 ?_
 try simp only[Act.put,az,ay,au]
 refine rd [9] (rn fun K hK=> ?_)
 refine fk _ _ rfl _ _ _ _ _ _ rfl rfl g ((i+m)*3) _ H1.o.1 (l.drop j) (by rw[aT,←HL.o];exact (Nat.min_self _).symm) (fun _=>⟨rfl,g,j*3,rfl,HD1.o⟩) (by have:=HC.o.2.2.2.2.2;have:=HN.o;have:=H1.o.2.2;simp only[aq,aT,HC.o.2.1,HC.o.2.2.1,HC.o.2.2.2.1,H1.o.2.2.2] at*;omega) ?_;intro w2 fK aP
 refine hK _ _ ?_;clear hK K
 refine wpAny_done (by kernel_rfl) ?_ _
 have hp2:(aj.cells (l.take i)++aj.cells ms).length=(i+m)*3:=by rw[aq,HC.o.2.1,H1.o.2.2.2];omega
 rw[←hp2,fo rfl] at fK
 obtain⟨R2,x9⟩:∃R2,R2=(Y++(aj.cells (l.drop j)++R)).drop (aj.cells (l.drop j)).length:=⟨_,rfl⟩
 rw[←x9] at fK
 have Kj:R2.length=Y.length+R.length:=by rw[x9];simp only[aT,aq];omega
 have hcs:aj.cells (l.take i++ms++l.drop j)++R2=aj.cells (l.take i)++aj.cells ms++(aj.cells (l.drop j)++R2):=by
  rw[Elem.bW,Elem.bW]
  simp only[aB]
 have fD:aR B w2 (.slice (some ⟨g,0,none⟩) (i+m+(L-j)) cap) (l.take i++ms++l.drop j):=eX (R:=R2) (by rw[hcs];exact fK) (by
   rw[hcs,aq,hp2,aq,HC.o.2.2.2.1,Kj]
   have h1:=HC.o.2.2.2.2.2
   rw[aq,aq,aq,HC.o.2.1,HC.o.2.2.1,HC.o.2.2.2.1] at h1
   have:=H1.o.2.2.1
   have:=HN.o
   omega) (by rw[aq,aq,aN,aT];have:=HN.o;have:=HL.o;omega) (by have:=HN.o;have:=HL.o;omega) HC.o.2.2.2.2.1 HH.o.2.2.2.2
 have H2:=aa (And.intro fD (H1.o.2.1.drew.trans aP (fun _ _ h=>h)))
 have hTt:((i:Int)+m+((L-j:Nat):Int)).toNat=i+m+(L-j):=by omega
 have hTz:(0:Int)≤(i:Int)+m+((L-j:Nat):Int):=by omega
 have hTy:(i:Int)+m+((L-j:Nat):Int)≤L:=by omega
 clear fK aP hp2 x9 Kj hcs fD
 by_cases hd:i+m=j
 ·have hz:L-(i+m+(L-j))=0:=by have:=HN.o;have:=HL.o;omega
  have AK:=vi w2
  have HE:=aa (show f_ B w (.slice (some ⟨g,0,none⟩) L cap) (l.take i++ms++l.drop j) (.returned (.slice (some ⟨g,0,none⟩) (i+m+(L-j)) cap)) w2 from
   ⟨_,rfl,H2.o.1,H2.o.2.mono fun k _ e=>by rw[e];rfl,.inl rfl,fun _=>rfl⟩)
  clear hd
  by_cases hT3:cap=i+m+(L-j)
  ·subst hT3
   go_wp2_with fail
   go_ret
   exact HE.o
  ·go_wp2_with fail
   go_ret
   exact HE.o
 ·have hT3:¬cap=i+m+(L-j):=by have:=HN.o;have:=HL.o;omega
  obtain⟨vs,AK⟩:=e8 w2 g (i+m+(L-j)) cap (l.take i++ms++l.drop j) (Own.mono H2.o.1 (aC _)) (L-(i+m+(L-j))) (by have:=HN.o;have:=HL.o;omega) (by have:=HN.o;have:=HL.o;omega)
  go_wp2_with fail
  go_ret
  have hz:=Own.cleared (K:=aj) (E:=122) (B:=B) vs w2 ((i+m+(L-j))*3) H2.o.1 (by rw[aq,aq,aN,aT];have:=HN.o;have:=HL.o;show _*3≤_;omega)
  exact⟨_,rfl,hz.1,(H2.o.2.trans hz.2 (fun _ _ e=>e)).mono fun k _ e=>by rw[e];rfl,.inl rfl,fun _=>rfl⟩
end
section
variable {w:World} {B:Nat} {l ms:List It} {mc:Nat}
theorem qz (w:World) (a:Addr) (i cap:Nat) (h:i≤cap) (ty:TypeId):(Builtin.append_ #[123,123] ty #[.slice (some a) i cap,.slice none 0 0]).run Tryz.prog w=.ok (.slice (some a) i cap) w:=by
 obtain⟨inf,_,hi,_⟩:=uf.info
 simp[Builtin.append_,run_underlying Tryz.underlying123,sizeOf,typeInfo,hi,Builtin.lenOf,Builtin.firstCells,h,storeCells]
theorem Bg {g cap i:Nat} (h:aR B w (.slice (some ⟨g,0,none⟩) l.length cap) l) (hl:l.length≤400) (hi:i<l.length):
  Calls Tryz.prog 134 #[.slice (some ⟨g,0,none⟩) l.length cap,.int .i64 i,.int .i64 l.length,.slice none 0 0] w fun e w'=>f_ B w (.slice (some ⟨g,0,none⟩) l.length cap) (l.take i) e w':=by
 obtain⟨_,rE,hcm⟩:=gQ h
 have HP:=aa (Own.upto h i (by omega))
 have HN:=aa (show i<l.length∧l.length≤cap from⟨hi,rE⟩)
 have HR:=aa (qz w ⟨g,0,none⟩ i cap (by omega))
 obtain⟨L,hL⟩:∃L,L=l.length:=⟨_,rfl⟩
 rw[←hL] at hl hi rE ⊢
 have HL:=aa hL
 have iY:(L:Int)≤400:=by omega
 have Jj:(i:Int)≤L:=by omega
 have M8:((L:Int)==L)=true:=by simp
 have hne:((i:Int)==L)=false:=by rw[beq_eq_false_iff_ne];omega
 have Cm:(L:Int)≤cap:=by omega
 have M9:¬cap=i:=by omega
 have JX:(0:Int)≤L:=by omega
 clear h hi hL hcm
 go_enter Tryz.func134,Tryz.ntmps134
 go_wp2_with (at_builtin;refine Hid.o ?_)
 refine aa ?_
 refine Lib.wpList_append_run _ rfl _ _ _ _ rfl _ _ rfl rfl _ _ (HR.o _) ?_
 have kX:(i:Int)<L:=by have:=HN.o;have:=HL.o;omega
 obtain⟨vs,AK⟩:=e8 w g i cap (l.take i) (Own.mono HP.o (aC _)) (L-i) (by have:=HN.o;have:=HL.o;omega) (by have:=HN.o;have:=HL.o;omega)
 have hz:=Own.cleared (K:=aj) (E:=122) (B:=B) vs w (i*3) HP.o (by rw[aN];have:=HN.o;have:=HL.o;show _*3≤_;omega)
 have HE:=aa (show f_ B w (.slice (some ⟨g,0,none⟩) L cap) (l.take i) (.returned (.slice (some ⟨g,0,none⟩) i cap)) (w.setCells g (i*3) vs) from
  ⟨_,rfl,hz.1,hz.2.mono fun k _ e=>by rw[e];rfl,.inl rfl,fun _=>rfl⟩)
 clear hz
 go_wp2_with fail
 go_ret
 exact HE.o
theorem qA {g cap i m vr vo:Nat} (h:aR B w (.slice (some ⟨g,0,none⟩) l.length cap) l) (hl:l.length≤400) (hm:m=ms.length) (hv:a_ aj w vr vo ms) (hi:i<l.length) (hc:i+m≤cap):
  Calls Tryz.prog 134 #[.slice (some ⟨g,0,none⟩) l.length cap,.int .i64 i,.int .i64 l.length,.slice (some ⟨vr,vo,none⟩) m mc] w fun e w'=>f_ B w (.slice (some ⟨g,0,none⟩) l.length cap) (l.take i++ms) e w':=by
 obtain⟨_,rE,hcm⟩:=gQ h
 have HP:=aa (Own.upto h i (by omega))
 have HV:=aa hv
 have HN:=aa (show i<l.length∧l.length≤cap∧m=ms.length∧i+m≤cap from⟨hi,rE,hm,hc⟩)
 obtain⟨L,hL⟩:∃L,L=l.length:=⟨_,rfl⟩
 rw[←hL] at hl hi rE ⊢
 have HL:=aa hL
 have iY:(L:Int)≤400:=by omega
 have Jj:(i:Int)≤L:=by omega
 have M8:((L:Int)==L)=true:=by simp
 have hne:((i:Int)==L)=false:=by rw[beq_eq_false_iff_ne];omega
 have Cm:(L:Int)≤cap:=by omega
 have M9:¬cap=i:=by omega
 have JX:(0:Int)≤L:=by omega
 clear h hm hv hi hc hL hcm
 go_enter Tryz.func134,Tryz.ntmps134
 go_wp2_with (at_builtin;refine Hid.o ?_)
 refine aa ?_
 refine wpList_plain (by rfl) fun _ hK=>m8 _ _ rfl g i cap rfl HP.o (by rw[aN];have:=HN.o;omega) vr vo m mc ms rfl HN.o.2.2.1.symm (fun _=>HV.o) HN.o.2.2.2 fun w2 fD fK=>hK _ _ ?_
 have H2:=aa (show aR B w2 (.slice (some ⟨g,0,none⟩) (i+m) cap) (l.take i++ms)∧aE (fun k=>k=g) w w2 from⟨fD,⟨fK.os,fK.tape,fK.output,fK.size,fun k hk hn=>fK.block k hk (fun e=>hn (by injection e))⟩⟩)
 clear fD fK hK
 by_cases hlt:i+m<L
 ·have kX:(i:Int)+m<L:=by omega
  have O8:¬cap=i+m:=by omega
  obtain⟨vs,AK⟩:=e8 w2 g (i+m) cap (l.take i++ms) (Own.mono H2.o.1 (aC _)) (L-(i+m)) (by omega) (by omega)
  have hz:=Own.cleared (K:=aj) (E:=122) (B:=B) vs w2 ((i+m)*3) H2.o.1 (by rw[aq,aN];have:=HN.o;have:=HL.o;show _*3≤_;omega)
  have HE:=aa (show f_ B w (.slice (some ⟨g,0,none⟩) L cap) (l.take i++ms) (.returned (.slice (some ⟨g,0,none⟩) (i+m) cap)) (w2.setCells g ((i+m)*3) vs) from
   ⟨_,rfl,hz.1,(H2.o.2.trans hz.2 (fun _ _ e=>e)).mono fun k _ e=>by rw[e];rfl,.inl rfl,fun _=>rfl⟩)
  clear hz
  go_wp2_with fail
  go_ret
  exact HE.o
 ·have kX:¬(i:Int)+m<L:=by omega
  have HE:=aa (show f_ B w (.slice (some ⟨g,0,none⟩) L cap) (l.take i++ms) (.returned (.slice (some ⟨g,0,none⟩) (i+m) cap)) w2 from
   ⟨_,rfl,H2.o.1,H2.o.2.mono fun k _ e=>by rw[e];rfl,.inl rfl,fun _=>rfl⟩)
  go_wp2_with fail
  go_ret
  exact HE.o
theorem rP {g cap i m vr vo:Nat} (h:aR B w (.slice (some ⟨g,0,none⟩) l.length cap) l) (hl:l.length≤400) (hm:m=ms.length) (hv:a_ aj w vr vo ms) (hi:i<l.length) (hc:cap<i+m) (hB:B≤w.heap.size) (hm4:m≤400):
  Calls Tryz.prog 134 #[.slice (some ⟨g,0,none⟩) l.length cap,.int .i64 i,.int .i64 l.length,.slice (some ⟨vr,vo,none⟩) m mc] w fun e w'=>f_ B w (.slice (some ⟨g,0,none⟩) l.length cap) (l.take i++ms) e w':=by
 obtain⟨_,rE,hcm⟩:=gQ h
 have HP:=aa (Own.upto h i (by omega))
 have HV:=aa hv
 have HN:=aa (show i<l.length∧l.length≤cap∧m=ms.length∧cap<i+m∧B≤w.heap.size∧m≤400 from⟨hi,rE,hm,hc,hB,hm4⟩)
 obtain⟨L,hL⟩:∃L,L=l.length:=⟨_,rfl⟩
 rw[←hL] at hl hi rE ⊢
 have HL:=aa hL
 have iY:(L:Int)≤400:=by omega
 have Jj:(i:Int)≤L:=by omega
 have M8:((L:Int)==L)=true:=by simp
 have hne:((i:Int)==L)=false:=by rw[beq_eq_false_iff_ne];omega
 have Cm:(L:Int)≤cap:=by omega
 have M9:¬cap=i:=by omega
 have JX:(0:Int)≤L:=by omega
 clear h hm hv hi hc hL hcm hB hm4
 go_enter Tryz.func134,Tryz.ntmps134
 go_wp2_with (at_builtin;refine Hid.o ?_)
 refine aa ?_
 refine eS (K:=aj) uf rfl _ _ rfl rfl HP.o HN.o.2.2.2.2.1 vr vo m mc ms rfl HN.o.2.2.1.symm HV.o (show (l.take i).length+m≤1000000000 by rw[aN];have:=HN.o;omega) ?_
 intro v2 w2 fD fK jT
 obtain⟨q2,c2,rfl,hc2⟩:=Own.slice fD
 have hn2:(l.take i++ms).length=i+m:=by rw[aq,aN];have:=HN.o;omega
 rw[hn2] at fD hc2 jT ⊢
 have HE:=aa (show f_ B w (.slice (some ⟨g,0,none⟩) L cap) (l.take i++ms) (.returned (.slice q2 (i+m) c2)) w2 from⟨_,rfl,fD,(aE.refl _ w).grown fK (fun k e _=>e),jT,fun _=>by have:=HN.o;obtain⟨_,_,e3,_⟩:=Own.form fD (by omega);rw[e3];rfl⟩)
 clear fD fK jT hn2
 have kX:¬(i:Int)+m<L:=by have:=HN.o;have:=HL.o;omega
 go_wp2_with fail
 go_ret
 exact HE.o
end
end
end Go.Proofs.YtebbahjombdalaaGreatDoor
