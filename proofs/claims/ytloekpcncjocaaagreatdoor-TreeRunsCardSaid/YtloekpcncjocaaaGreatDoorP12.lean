/- Elder texts, cut down and merged (12). -/
import Derived.Test.YtloekpcncjocaaaGreatDoorP11
import Derived.Test.YtloekpcncjocaaaGreatDoorP10
import Derived.Test.YtloekpcncjocaaaGreatDoorP8
import Derived.Test.YtloekpcncjocaaaGreatDoorP9
import Derived.Test.YtloekpcncjocaaaGreatDoorP7
import Derived.BigRegion
import Derived.Test.YtloekpcncjocaaaGreatDoorPTk
set_option maxRecDepth 100000
set_option maxHeartbeats 8000000
namespace Go.Proofs.YtloekpcncjocaaaGreatDoor
open Go.RowKit Lib
section
variable {E:Ev} {X0:World} {R0:Nat→Prop} {ps:List (Nat×List UInt8)} {pg:List (Option Wl.Text)} {rt:List Nat} {sb:Nat}
theorem zJ:∀k,k≤15→B3 E X0 R0 ps pg rt sb k
 |0,_=>fun _ _ _ _ _ _ _ _ _ _ _ _ _ _ _ _ h r1 r2 hp hq hnd on om hx hc hold hl=>Ew h r1 r2 hp hq hnd on om hx hc hold (by omega)
 |k+1,hk=>Ez (zJ k (by omega)) (by omega)
end
section
variable {E:Ev} {X0 Xs X X':World} {R0 Rs R R' S:Nat→Prop} {ps:List (Nat×List UInt8)} {pg:List (Option Wl.Text)} {rt:List Nat} {Ms M M':Nat→Option NV} {p q:Nat} {n m:NV} {sb:Nat} {ef sv cM lv:Value} {l l':List Int} {L LI:List It} {k:Nat}
structure Hu (E:Ev) (X0:World) (R0:Nat→Prop) (ps:List (Nat×List UInt8)) (pg:List (Option Wl.Text)) (rt:List Nat) (Rs:Nat→Prop) (Ms:Nat→Option NV) (Xs:World) (sb:Nat) (ef:Value) (k:Nat) (R:Nat→Prop) (M:Nat→Option NV) (X:World) (sv:Value) (l:List Int) (lv:Value) (LI:List It) (acc:List (Tr.Tx×Tr.E (k+1))) (fa:List (List Nat)):Prop where
 row:Row E X0 R0 ps pg rt Rs Ms Xs sb ef R M X sv l lv LI
 kids:aI pg k (b8 M pg k) LI acc fa
 got:∀i∈LI,i.node.isSome=true
 nd:fa.flatten.Nodup
structure Far (sb:Nat) (M:Nat→Option NV) (X:World) (sv lv:Value) (M':Nat→Option NV) (X':World) (cM jr:Value):Prop where
 but:aj (fun b=>b=sb∨sv.ownBlock=some b∨MB M b∨lv.ownBlock=some b) X X'
 mb:∀b,MB M' b→MB M b∨X.heap.size≤b
 sp:∀b,cM.ownBlock=some b→sv.ownBlock=some b∨X.heap.size≤b
 li:∀b,jr.ownBlock=some b→lv.ownBlock=some b∨X.heap.size≤b
 dom:Dom M M'
def Q2 (E:Ev) (X0:World) (R0:Nat→Prop) (ps:List (Nat×List UInt8)) (pg:List (Option Wl.Text)) (rt:List Nat) (Rs:Nat→Prop) (Ms:Nat→Option NV) (Xs:World) (sb:Nat) (ef:Value) (k:Nat) (M:Nat→Option NV) (X:World) (sv lv:Value) (l:List Int) (F:List Nat) (acc:List (Tr.Tx×Tr.E (k+1))) (e:Ending) (X':World):Prop:=
 ∃jr R' M' cM JH gU,e=.returned (.tuple #[jr,.int .i64 0])∧Hu E X0 R0 ps pg rt Rs Ms Xs sb ef k R' M' X' cM l jr JH acc gU∧(∀r∈gU.flatten,r∈F∨X.heap.size≤r)∧(∀r y,r∉F→M r=some y→M' r=some y)∧Far sb M X sv lv M' X' cM jr
theorem gE.at {R1:Nat→Tr.E (k+1)→List Nat→Prop} {i:It} {x:Tr.Tx×Tr.E (k+1)} {f:List Nat} (h:gE pg k R1 i x f) (hg:i.node.isSome=true):∃q,i.node=some q∧R1 q x.2 f:=by
 rcases h.2.2 with⟨hn,_⟩|h
 ·rw[hn] at hg;cases hg
 ·exact h
theorem Hv {acc:List (Tr.Tx×Tr.E (k+1))} {fa:List (List Nat)} {it:It} {key:Tr.Tx} {c:Tr.E (k+1)} {f:List Nat} {sp:List Nat} {l0:List Int}
  (h:Hu E X0 R0 ps pg rt Rs Ms Xs sb ef k R M X sv (l0++ew sp) lv LI acc fa) (hi:gE pg k (b8 M pg k) it (key,c) f) (hg:it.node.isSome=true) (hnd:(fa.flatten++f).Nodup) (hlen:LI.length≤400) (hkey:key.length≤96) (hl:(l0++ew sp).length+k≤100000) (hk:k≤15)
  (hok:∀A a,acc=A++[a]→¬Tr.cut (k+1) a.2 key c→∃uD yG,Tr.Ok (k+1) uD (some key) a.2∧Tr.Ok (k+1) key yG c∧Tr.Old (k+1) c):
  Calls Tryz.prog 98 #[ptr sb,lv,.agg #[.string (bs it.key),.string (bs it.val),.pointer (pa it.node)]] X fun e X'=>Q2 E X0 R0 ps pg rt Rs Ms Xs sb ef k M X sv lv (l0++ew (Tr.aL k key acc sp (key,c)).2) (fa.flatten++f) (Tr.aL k key acc sp (key,c)).1 e X':=by
 have hB:Xs.heap.size≤X.heap.size:=h.row.vW.but.size
 have J6:∀{e:Ending} {X':World},vO Xs.heap.size X lv (LI++[it]) e X'→Q2 E X0 R0 ps pg rt Rs Ms Xs sb ef k M X sv lv (l0++ew sp) (fa.flatten++f) (acc++[(key,c)]) e X':=by
  intro e X' ha
  obtain⟨jr,R',he,hr,hs,iU⟩:=h.row.add ha
  refine⟨jr,R',M,sv,LI++[it],fa++[f],he,⟨hr,h.kids.append ⟨hi,trivial⟩,fun i hm=> ?_,by rw[List.flatten_append];simpa using hnd⟩,fun r hr=>.inl (by rw[List.flatten_append] at hr;simpa using hr),fun _ _ _ hy=>hy,⟨hs.mono fun _ _ hb=>.inr (.inr (.inr hb)),fun _ hb=>.inl hb,fun _ hb=>.inl hb,iU,Dom.refl _⟩⟩
  rcases List.mem_append.1 hm with hm|hm
  ·exact h.got i hm
  ·rw[List.mem_singleton.1 hm];exact hg
 by_cases e:acc=[]
 ·subst e
  have C4:LI=[]:=List.length_eq_zero_iff.1 h.kids.len.1
  subst C4
  refine (xz h.row.own hB).mono ?_
  intro e X' ha
  exact J6 ha
 ·obtain⟨A,⟨ka,a⟩,rfl⟩:=Tr.ck e
  obtain⟨I1,I',f1,f',rfl,rfl,k1,k2⟩:=h.kids.parts
  obtain⟨last,I0,fl,f0,rfl,rfl,k3,k4⟩:=k2.cons_inv
  obtain⟨rfl,rfl⟩:=k4.rI
  obtain⟨pl,bY,r1⟩:=k3.at (h.got last (by simp))
  obtain⟨ql,Da,r2⟩:=hi.at hg
  obtain⟨np,hnp,pJ,-⟩:=r1.head
  obtain⟨nq,kD,cR,-⟩:=r2.head
  have s1:bz np.its=Tr.sz k (Tr.its a):=(r1.sz hnp).1
  have s2:bz nq.its=Tr.sz k (Tr.its c):=(r2.sz kD).1
  have n1:=h.row.ss.ts.mem.nd pl np hnp
  have n2:=h.row.ss.ts.mem.nd ql nq kD
  have gH:it.key=key:=hi.1
  have hlv:=pJ.level
  rw[Tr.cm]
  by_cases hc:Tr.cut (k+1) a key c
  ·rw[if_pos hc]
   refine (xA h.row.own hB (by rw[List.length_append] at hlen;omega) bY Da n1 n2 (by rw[gH];omega) (by rw[s1,s2,hlv,gH];unfold Tr.cut at hc;omega)).mono ?_
   intro e X' ha
   exact J6 ha
  ·rw[if_neg hc]
   obtain⟨uD,yG,o1,o2,o3⟩:=hok A (ka,a) rfl hc
   have gG:(fl++f).Nodup:=by
    rw[List.flatten_append,List.append_assoc] at hnd
    have:=(List.nodup_append.1 hnd).2.1
    simpa using this
   have hj:=xB (sb:=sb) (w:=X) (lv:=lv) (B:=Xs.heap.size) (it:=it) (Q:=fun x X'=>x=0∧∃w1,Below X.heap.size X w1∧oT E X0 R0 R ps pg rt M w1 sb sv k pl np nq (fl++f) (Tr.join k a c key).1 (l0++ew sp++ew (Tr.join k a c key).2) X') h.row.own (by rw[List.length_append] at hlen;omega) bY Da n1 n2 (by rw[gH];omega) (by rw[s1,s2,hlv,gH];unfold Tr.cut at hc;omega) (fun w1 hb=>by
    refine (zJ k hk M w1 R sv (l0++ew sp) pl ql np nq a c fl f key uD yG (h.row.ss.still hb) r1 r2 hnp kD gG o1 o2 hkey hc o3 hl).mono ?_|>fun hh=>by rw[gH];exact hh
    rintro e X' ⟨rfl,hj⟩
    exact⟨0,rfl,rfl,w1,hb,hj⟩)
   refine hj.mono ?_
   rintro e X' ⟨x,rfl,rfl,w1,hb,M',n',F',hto,Hw,hat,-,-,lC,hnew,hsame⟩
   obtain⟨R',cM,hs',ht'⟩:=jy.1 hto
   have hst:jF R M X sb sv R' M' cM X':=(jF.still hb).trans ht'
   have Yr:∀r∈F',r∈fl++f∨X.heap.size≤r:=fun r hr=>(hnew r hr).imp_right fun h=>Nat.le_trans hb.size h
   have xN:∀r∈f1.flatten,r∉fl++f:=by
    intro r hr jG
    rw[List.flatten_append,List.append_assoc] at hnd
    exact (List.nodup_append.1 hnd).2.2 r hr r (by simpa using jG) rfl
   have hk1:aI pg k (b8 M' pg k) I1 A f1:=k1.frame fun r hr=>by
    obtain⟨y,hy⟩:=k1.dom r hr
    rw[hy];exact hsame r y (xN r hr) hy
   have Q3:{last with node:=some pl}=last:=by cases last;simp only at bY;subst bY;rfl
   have KS:gE pg k (b8 M' pg k) last (ka,(Tr.join k a c key).1) F':=by
    have:=k3.gq (R2:=b8 M' pg k) (f':=F') (a':=(Tr.join k a c key).1) pl Hw
    rw[Q3] at this
    exact this
   refine⟨lv,R',M',cM,I1++[last],f1++[F'],rfl,⟨?_,hk1.append ⟨KS,trivial⟩,h.got, ?_⟩,fun r hr=> ?_,fun r y hr hy=>hsame r y (fun h2=>hr ?_) hy,⟨hst.but.mono fun _ _ hb=>hb.imp_right fun hb=>hb.imp_right .inl,hst.mb,hst.sp,fun _ hb=>.inl hb,hst.dom⟩⟩
   ·have:=h.row.step hs' hst
    rw[List.append_assoc] at this
    show Row _ _ _ _ _ _ _ _ _ _ _ _ _ _ _ (l0++ew (sp++(Tr.join k a c key).2)) _ _
    unfold ew at this ⊢
    rw[List.map_append]
    exact this
   ·rw[List.flatten_append]
    refine List.nodup_append.2 ⟨?_,by simpa using lC,fun r hr s iU e=> ?_⟩
    ·have:=h.nd
     rw[List.flatten_append] at this
     exact (List.nodup_append.1 this).1
    ·subst e
     rcases Yr r (by simpa using iU) with h5|h5
     ·exact xN r hr h5
     ·obtain⟨y,hy⟩:=k1.dom r hr
      have:=(h.row.ss.ts.mem.lt hy).1
      omega
   ·rw[List.flatten_append] at hr ⊢
    rcases List.mem_append.1 hr with hr|hr
    ·exact .inl (List.mem_append.2 (.inl (List.mem_append.2 (.inl hr))))
    ·rcases Yr r (by simpa using hr) with h5|h5
     ·left
      rcases List.mem_append.1 h5 with h5|h5
      ·exact List.mem_append.2 (.inl (List.mem_append.2 (.inr (by simpa using h5))))
      ·exact List.mem_append.2 (.inr h5)
     ·exact .inr h5
   ·rw[List.flatten_append]
    rcases List.mem_append.1 h2 with h5|h5
    ·exact List.mem_append.2 (.inl (List.mem_append.2 (.inr (by simpa using h5))))
    ·exact List.mem_append.2 (.inr h5)
end
def Tr.parted (k:Nat) (c:Tr.Tx×Tr.E (k+1)):List (Tr.Tx×Tr.E (k+1))×List Nat:=
 if (Tr.its c.2).isEmpty then ([],(Tr.hd c.2).page.toList)
 else if Tr.sz k (Tr.its c.2)≤510 then ([c],[])
 else ([(c.1,(Tr.part k c.2).low),((Tr.part k c.2).key,(Tr.part k c.2).up)],[])
theorem xO (k:Nat) (x:Tr.Tx) (st:List (Tr.Tx×Tr.E (k+1))×List Nat) (c:Tr.Tx×Tr.E (k+1)):
  Tr.bZ k x st c=(Tr.parted k c).1.foldl (fun s i=>Tr.aL k x s.1 s.2 i) (st.1,st.2++(Tr.parted k c).2):=by
 unfold Tr.bZ Tr.parted
 by_cases e:(Tr.its c.2).isEmpty=true
 ·rw[if_pos e,if_pos e];rfl
 ·rw[if_neg e,if_neg e]
  by_cases hs:Tr.sz k (Tr.its c.2)≤510
  ·rw[if_pos hs,if_pos hs]
   show _=Tr.aL k x st.1 (st.2++[]) c
   rw[List.append_nil]
  ·rw[if_neg hs,if_neg hs]
   show _=Tr.aL k x (Tr.aL k x st.1 (st.2++[]) _).1 (Tr.aL k x st.1 (st.2++[]) _).2 _
   rw[List.append_nil]
section
variable {E:Ev} {X0 X X':World} {R0 R R':Nat→Prop} {ps:List (Nat×List UInt8)} {pg:List (Option Wl.Text)} {rt:List Nat} {M M':Nat→Option NV} {p q:Nat} {n m:NV} {sb:Nat} {sv cM:Value} {l l':List Int} {it:It} {k:Nat}
structure KT (E:Ev) (X0:World) (R0:Nat→Prop) (ps:List (Nat×List UInt8)) (pg:List (Option Wl.Text)) (rt:List Nat) (sb:Nat) (k:Nat) (R:Nat→Prop) (M:Nat→Option NV) (X:World) (sv:Value) (f:List Nat) (cs:List (Tr.Tx×Tr.E (k+1))) (l':List Int) (rv:Value) (R':Nat→Prop) (M':Nat→Option NV) (cM:Value) (IT:List It) (fs:List (List Nat)) (X':World):Prop where
 ss:SS E X0 R0 R' ps pg rt M' X' sb cM l'
 vW:jF R M X sb sv R' M' cM X'
 own:aD X.heap.size X' rv IT
 zK:∀b,rv.ownBlock=some b→¬MB M' b∧cM.ownBlock≠some b
 kids:aI pg k (b8 M' pg k) IT cs fs
 got:∀i∈IT,i.node.isSome=true
 nd:fs.flatten.Nodup
 news:∀r∈fs.flatten,r∈f∨X.heap.size≤r
 same:∀r y,r∉f→M r=some y→M' r=some y
theorem zL {t:Tr.E (k+1)} {F:List Nat} {H:Nat} (hr:b8 M pg k p t F) (hn:M p=some n) (hb:510<Tr.sz k (Tr.its t)) (hH:H=dm (bz n.its) 0 n.its):
  0<H∧(n.level=0→Tr.lt ((n.its.map It.key).getD (H-1) []) ((n.its.map It.key).getD H [])=true):=by
 obtain⟨n',hn',ho,_⟩:=hr.head
 rw[hn] at hn'
 cases hn'
 have hz:=hr.sz hn
 have hne:n.its≠[]:=by intro e;have h1:=hz.1;rw[e] at h1;have:bz ([]:List It)=0:=rfl;omega
 have hlt:=l9 (bz n.its) n.its 0 hne
 rw[←hH] at hlt
 have ND:H=(Tr.bu k (Tr.sz k (Tr.its t)) 0 (Tr.its t)).1.length:=by rw[hH,hz.1];exact s9 k _ _ _ _ (C9 hr hn)
 have hL:=Tr.jP k _ (Tr.its t) rfl (fun x hx=>by have:=ho.near.2.size x hx;omega) hb
 have h0:0<H:=by rw[ND];exact List.length_pos_iff.2 hL
 refine⟨h0,fun _=> ?_⟩
 have hp:=(fD ho.near.2).1
 rw[←hz.2.1] at hp
 have hlen:(n.its.map It.key).length=n.its.length:=List.length_map _
 rw[List.getD_eq_getElem?_getD,List.getD_eq_getElem?_getD,List.getElem?_eq_getElem (by rw[hlen];omega),List.getElem?_eq_getElem (by rw[hlen];omega)]
 exact List.pairwise_iff_getElem.1 hp (H-1) H (by rw[hlen];omega) (by rw[hlen];omega) (by omega)
theorem EA {key:Tr.Tx} {c:Tr.E (k+1)} {f:List Nat} (h:SS E X0 R0 R ps pg rt M X sb sv l) (hr:b8 M pg k q c f) (hi:gE pg k (b8 M pg k) it (key,c) f) (hq:it.node=some q) (hf:f.Nodup) (hp:(Tr.hd c).page.isSome=true) (hl:l.length≤1000000):
  Calls Tryz.prog 97 #[ptr sb,ptr q,.agg #[.string (bs it.key),.string (bs it.val),.pointer (pa it.node)]] X fun e X'=>∃rv R' M' cM IT fs,e=.returned rv∧KT E X0 R0 ps pg rt sb k R M X sv f (Tr.parted k (key,c)).1 (l++ew (Tr.parted k (key,c)).2) rv R' M' cM IT fs X':=by
 obtain⟨nq,kD,ho,Ys⟩:=hr.head
 have hz:=hr.sz kD
 have hnd:=h.ts.mem.nd q nq kD
 unfold Tr.parted
 by_cases e:(Tr.its c).isEmpty=true
 ·rw[if_pos e]
  have hn0:nq.its=[]:=by
   have h1:=hz.2.2
   rw[List.isEmpty_iff.1 e] at h1
   exact List.length_eq_zero_iff.1 h1
  refine (BR h.blk h.sp hnd hl hn0).mono ?_
  rintro e X' ⟨rfl,hlf⟩
  rw[ho.page,←List.singleton_append (l:=[]),List.append_nil] at hlf
  obtain⟨cM,R',s',h1,h2,h3,h4⟩:=h.left hlf
  rw[fY hp] at s'
  exact⟨_,R',M,cM,[],[],rfl,⟨s',⟨h1,h2,(aj.refl _ X).trans h3 fun b _ hb=>hb.imp_right .inl,fun _ hb=>.inl hb,h4,Dom.refl _⟩,Own.nil _ _ _ _,(fun b hb=>by cases hb),trivial,(fun i hi=>by cases hi),List.nodup_nil,(fun r hr=>by cases hr),fun _ _ _ hy=>hy⟩⟩
 ·rw[if_neg e]
  have hne:nq.its≠[]:=by
   intro h0
   have h1:=hz.2.2
   rw[h0] at h1
   exact e (List.isEmpty_iff.2 (List.length_eq_zero_iff.1 h1.symm))
  by_cases hs:Tr.sz k (Tr.its c)≤510
  ·rw[if_pos hs]
   refine (Ej hnd hne (by rw[hz.1];exact hs)).mono ?_
   rintro e X' ⟨v,rfl,FG,hb⟩
   have hss:=h.still hb
   refine⟨v,R,M,sv,[it],[f],rfl,⟨?_,jF.still hb,FG,fun b aC=> ?_,⟨hi,trivial⟩,fun i hi=>by rw[List.mem_singleton.1 hi,hq];rfl,by simpa using hf,fun r hr=>.inl (by simpa using hr),fun _ _ _ hy=>hy⟩⟩
   ·show SS _ _ _ _ _ _ _ _ _ _ _ (l++[])
    rw[List.append_nil];exact hss
   ·have h1:=(Own.block FG b aC).1
    refine⟨fun hm=> ?_,fun hk=> ?_⟩
    ·have:=h.ts.mem.iN hm;omega
    ·have:=(Own.block h.sp b hk).2;omega
  ·rw[if_neg hs]
   obtain⟨H,hH⟩:∃H,H=dm (bz nq.its) 0 nq.its:=⟨_,rfl⟩
   have cH:510<Tr.sz k (Tr.its c):=by omega
   obtain⟨h0,mK⟩:=zL hr kD cH hH
   refine (Ek h.ts.mem kD H hH h0 mK (by rw[hz.1];exact hs)).mono ?_
   rintro e X' ⟨v,q',rfl,FG,hmem,jo,ig⟩
   obtain⟨M',xF⟩:∃M',M'=upd (upd M q (ec nq H)) q' (gK nq H):=⟨_,rfl⟩
   rw[←xF] at hmem
   have Q4:q'∉f:=fun hh=>by obtain⟨y,hy⟩:=hr.dom q' hh;have:=(h.ts.mem.lt hy).1;omega
   obtain⟨uA,F1,F2,r1,r2,gG,hF⟩:=td hr kD hf Q4 cH hH xF
   have hmb:∀b,MB M' b→MB M b∨b=q':=by
    rintro b ⟨r,y,hy,hb⟩
    rw[xF] at hy
    rcases ak hy with⟨rfl,rfl⟩|⟨_,hy⟩
    ·rcases hb with rfl|rfl
     ·exact .inr rfl
     ·exact .inl ⟨q,nq,kD,.inr rfl⟩
    ·rcases ak hy with⟨rfl,rfl⟩|⟨_,hy⟩
     ·exact .inl ⟨_,nq,kD,hb⟩
     ·exact .inl ⟨r,y,hy,hb⟩
   have O6:∀b,(b=q∨b=nq.rg)→MB M b:=fun b hb=>⟨q,nq,kD,hb⟩
   have Vh:q'<X'.heap.size:=(hmem.lt (p:=q') (n:=gK nq H) (by rw[xF,aM])).1
   have hts:TS E X0 R0 (fun b=>R b∨b=q') ps pg rt M' X':=h.ts.own ig (fun b _ hb=>h.ts.gM b (O6 b hb)) hmem (fun b hb=>by
    rcases hmb b hb with hb|rfl
    ·exact⟨.inl (h.ts.gM b hb).1,(h.ts.gM b hb).2⟩
    ·exact⟨.inr rfl,Nat.le_trans h.ts.but.size jo⟩) (fun b hb=>.inl hb) (fun b hb=>hb.imp_right fun hb=>by rw[hb];exact⟨jo,Vh⟩)
   have KU:∀b,MB M' b→MB M b∨X.heap.size≤b:=fun b hb=>(hmb b hb).imp_right fun hb=>by rw[hb];exact jo
   have hsub:∀b,R b→R b∨b=q':=fun b hb=>.inl hb
   have hss:=h.nodes hts ig O6 hsub KU
   refine⟨v,_,M',sv,_,[F1,F2],rfl,⟨?_,jF.nodes ig O6 hsub (fun b hb=>hb.imp_right fun hb=>by rw[hb];exact jo) KU (by rw[xF];exact (Dom.upd _ _ _).trans (Dom.upd _ _ _)),FG,fun b aC=> ?_,⟨⟨hi.1,hi.2.1,.inr ⟨q,hq,r1⟩⟩,⟨uA,rfl,.inr ⟨q',rfl,r2⟩⟩,trivial⟩,fun i hi=> ?_,by simpa using gG,fun r hr=> ?_,fun r y hr hy=> ?_⟩⟩
   ·show SS _ _ _ _ _ _ _ _ _ _ _ (l++[])
    rw[List.append_nil];exact hss
   ·have h1:=(Own.block FG b aC).1
    refine⟨fun hm=> ?_,fun hk=> ?_⟩
    ·rcases hmb b hm with hm|hm
     ·have:=h.ts.mem.iN hm;omega
     ·subst hm
      obtain⟨g,cap,hv,_,_,_⟩:=Own.form FG (by simp)
      rw[hv] at aC
      have hg:g=b:=by have e2:some g=some b:=aC;exact Option.some.inj e2
      subst hg
      have hblk:=(hmem.nd g (gK nq H) (by rw[xF,aM])).blk
      rcases FG.2 with⟨_,h00⟩|⟨g2,cap2,cur,Jy,_,hh,_⟩
      ·simp at h00
      ·rw[hv] at Jy
       injection Jy with e1 e2 e3
       injection e1 with e1
       injection e1 with e1
       subst e1
       unfold aG at hblk
       rw[hh] at hblk
       injection hblk with hblk
       injection hblk with _ hty _
       exact absurd hty (by decide)
    ·have:=(Own.block h.sp b hk).2;omega
   ·rcases List.mem_cons.1 hi with rfl|hi
    ·rw[hq];rfl
    ·rw[List.mem_singleton.1 hi];rfl
   ·rcases hF r (by simpa using hr) with hr|rfl
    ·exact .inl hr
    ·exact .inr jo
   ·have vM:r≠q:=fun e=>hr (by rw[e];exact Ys)
    have Vi:r≠q':=fun e=>by have:=(h.ts.mem.lt hy).1;omega
    rw[xF,aA Vi,aA vM];exact hy
end
theorem zM (k:Nat) (x:Tr.Tx) (acc:List (Tr.Tx×Tr.E (k+1))) (sp:List Nat) (i:Tr.Tx×Tr.E (k+1)) (h:acc=[]→x=i.1):Tr.aL k x acc sp i=Tr.aL k i.1 acc sp i:=by
 by_cases e:acc=[]
 ·rw[h e]
 ·obtain⟨A,a,rfl⟩:=Tr.ck e
  rw[Tr.cm,Tr.cm]
def rowAt (k:Nat) (x:Tr.Tx) (st:List (Tr.Tx×Tr.E (k+1))×List Nat) (cs:List (Tr.Tx×Tr.E (k+1))) (j:Nat):List (Tr.Tx×Tr.E (k+1))×List Nat:=(cs.take j).foldl (fun s i=>Tr.aL k x s.1 s.2 i) st
theorem nD {k:Nat} {x:Tr.Tx} {st:List (Tr.Tx×Tr.E (k+1))×List Nat} {cs:List (Tr.Tx×Tr.E (k+1))} {j:Nat} (hj:j<cs.length):rowAt k x st cs (j+1)=Tr.aL k x (rowAt k x st cs j).1 (rowAt k x st cs j).2 cs[j]:=by
 unfold rowAt
 rw[List.take_add_one,List.getElem?_eq_getElem hj,List.foldl_append]
 rfl
theorem aI.KV {pg:List (Option Wl.Text)} {k:Nat} {R:Nat→Tr.E (k+1)→List Nat→Prop} {is:List It} {xs:List (Tr.Tx×Tr.E (k+1))} {fs:List (List Nat)} {j:Nat} (h:aI pg k R (is.drop j) (xs.drop j) (fs.drop j)) (h1:j<is.length) (h2:j<xs.length) (h3:j<fs.length):
  gE pg k R is[j] xs[j] fs[j]∧aI pg k R (is.drop (j+1)) (xs.drop (j+1)) (fs.drop (j+1)):=by
 rw[List.drop_eq_getElem_cons h1,List.drop_eq_getElem_cons h2,List.drop_eq_getElem_cons h3] at h
 exact h
section
variable {E:Ev} {X0 Xs Xb X V:World} {R0 Rs R R':Nat→Prop} {ps:List (Nat×List UInt8)} {pg:List (Option Wl.Text)} {rt:List Nat} {Ms Mb M M':Nat→Option NV} {sb:Nat} {ef sv cM lv rv:Value} {l0:List Int} {LI IT:List It} {k j:Nat}
structure tv (E:Ev) (X0:World) (R0:Nat→Prop) (ps:List (Nat×List UInt8)) (pg:List (Option Wl.Text)) (rt:List Nat) (Rs:Nat→Prop) (Ms:Nat→Option NV) (Xs:World) (sb:Nat) (ef:Value) (k:Nat) (Mb:Nat→Option NV) (Xb:World) (F:List Nat) (l0:List Int) (rv:Value) (IT:List It) (cs:List (Tr.Tx×Tr.E (k+1))) (fs:List (List Nat)) (st:List (Tr.Tx×Tr.E (k+1))×List Nat) (j:Nat) (R:Nat→Prop) (M:Nat→Option NV) (X:World) (sv:Value) (lv:Value) (LI:List It) (fa:List (List Nat)):Prop where
 row:Hu E X0 R0 ps pg rt Rs Ms Xs sb ef k R M X sv (l0++ew st.2) lv LI st.1 fa
 rest:aI pg k (b8 M pg k) (IT.drop j) (cs.drop j) (fs.drop j)
 nd:(fa.flatten++(fs.drop j).flatten).Nodup
 own:aD Xs.heap.size X rv IT
 zK:∀b,rv.ownBlock=some b→¬MB M b∧b≠sb∧sv.ownBlock≠some b∧lv.ownBlock≠some b
 news:∀r∈fa.flatten++(fs.drop j).flatten,r∈F∨Xb.heap.size≤r
 same:∀r y,r∉F→Mb r=some y→M r=some y
 size:Xb.heap.size≤X.heap.size
 low:∀r y,Mb r=some y→r<Xb.heap.size
 dom:Dom Mb M
theorem B7 {F:List Nat} {cs:List (Tr.Tx×Tr.E (k+1))} {fs:List (List Nat)} {st:List (Tr.Tx×Tr.E (k+1))×List Nat} {fa:List (List Nat)}
  (h:tv E X0 R0 ps pg rt Rs Ms Xs sb ef k Mb Xb F l0 rv IT cs fs st j R M X sv lv LI fa) (hV:Below X.heap.size X V) (hj:j<IT.length) (hc:j<cs.length) (NR:∀i∈IT,i.node.isSome=true) (hlen:LI.length≤400) (hkey:(cs[j]).1.length≤96) (hl:(l0++ew st.2).length+k≤100000) (hk:k≤15)
  (hok:∀A a,st.1=A++[a]→¬Tr.cut (k+1) a.2 (cs[j]).1 (cs[j]).2→∃uD yG,Tr.Ok (k+1) uD (some (cs[j]).1) a.2∧Tr.Ok (k+1) (cs[j]).1 yG (cs[j]).2∧Tr.Old (k+1) (cs[j]).2):
  Calls Tryz.prog 98 #[ptr sb,lv,.agg #[.string (bs (IT[j]).key),.string (bs (IT[j]).val),.pointer (pa (IT[j]).node)]] V fun e V'=>∃jr R' M' cM JH gU,e=.returned (.tuple #[jr,.int .i64 0])∧tv E X0 R0 ps pg rt Rs Ms Xs sb ef k Mb Xb F l0 rv IT cs fs (Tr.aL k (cs[j]).1 st.1 st.2 cs[j]) (j+1) R' M' V' cM jr JH gU:=by
 have hlr:=h.rest.len
 simp only[List.length_drop] at hlr
 have hf:j<fs.length:=by omega
 obtain⟨h1,h2⟩:=h.rest.KV hj hc hf
 have tC:fs.drop j=fs[j]::fs.drop (j+1):=List.drop_eq_getElem_cons hf
 have hnd:=h.nd
 have hnews:=h.news
 rw[tC,List.flatten_cons,←List.append_assoc] at hnd hnews
 have hd:=List.nodup_append.1 hnd
 have hV':Hu E X0 R0 ps pg rt Rs Ms Xs sb ef k R M V sv (l0++ew st.2) lv LI st.1 fa:=⟨h.row.row.step (h.row.row.ss.still hV) (jF.still hV),h.row.kids,h.row.got,h.row.nd⟩
 have hown:aD Xs.heap.size V rv IT:=Own.below h.own hV (Nat.le_refl _)
 refine (Hv hV' h1 (NR _ (List.getElem_mem _)) hd.1 hlen hkey hl hk hok).mono ?_
 rintro e V' ⟨jr,R',M',cM,JH,gU,rfl,hrow,hnew,hsame,O7⟩
 have hrd:∀r∈(fs.drop (j+1)).flatten,M' r=M r:=fun r hr=>by
  obtain⟨y,hy⟩:=h2.dom r hr
  rw[hy]
  exact hsame r y (fun hm=>hd.2.2 r hm r hr rfl) hy
 have qt:=Own.block hown
 refine⟨jr,R',M',cM,JH,gU,rfl,⟨hrow,h2.frame hrd,List.nodup_append.2 ⟨hrow.nd,hd.2.1,fun r hr s hs e=> ?_⟩,Own.but hown O7.but fun b hb hs=> ?_,fun b hb=>⟨fun hm=> ?_,(h.zK b hb).2.1,fun hs=> ?_,fun hs=> ?_⟩,fun r hr=> ?_,fun r y hr hy=> ?_,by have:=O7.but.size;have:=hV.size;have:=h.size;omega,h.low,h.dom.trans O7.dom⟩⟩
 ·subst e
  rcases hnew r hr with hr|hr
  ·exact hd.2.2 r hr r hs rfl
  ·obtain⟨y,hy⟩:=h2.dom r hs
   have:=(h.row.row.ss.ts.mem.lt hy).1
   have:=hV.size
   omega
 ·obtain⟨n1,n2,n3,n4⟩:=h.zK b hb
  rcases hs with hs|hs|hs|hs
  ·exact n2 hs
  ·exact n3 hs
  ·exact n1 hs
  ·exact n4 hs
 ·rcases O7.mb b hm with hm|hm
  ·exact (h.zK b hb).1 hm
  ·have:=(qt b hb).2;omega
 ·rcases O7.sp b hs with hm|hm
  ·exact (h.zK b hb).2.2.1 hm
  ·have:=(qt b hb).2;omega
 ·rcases O7.li b hs with hm|hm
  ·exact (h.zK b hb).2.2.2 hm
  ·have:=(qt b hb).2;omega
 ·rcases List.mem_append.1 hr with hr|hr
  ·rcases hnew r hr with hr|hr
   ·exact hnews r (List.mem_append.2 (.inl hr))
   ·right;have:=hV.size;have:=h.size;omega
  ·exact hnews r (List.mem_append.2 (.inr hr))
 ·have hy2:=h.same r y hr hy
  refine hsame r y (fun hm=> ?_) hy2
  rcases hnews r (List.mem_append.2 (.inl hm)) with h5|h5
  ·exact hr h5
  ·have:=h.low r y hy;omega
end
theorem uT {α:Type} {x:Tr.Tx} {l:List (Tr.Tx×α)}:Tr.aN x l=[]↔l=[]:=by cases l<;>simp
theorem xP {k:Nat} {x:Tr.Tx} {h:Option Tr.Tx} {acc:List (Tr.Tx×Tr.E (k+1))} {i:Tr.Tx×Tr.E (k+1)} (ha:Tr.Acc k x (some i.1) (Tr.aN x acc)) (oi:Tr.Ok (k+1) i.1 h i.2)
  (hn:Tr.Old (k+1) i.2∨∀a,acc.getLast?=some a→Tr.cut (k+1) a.2 i.1 i.2):∀A a,acc=A++[a]→¬Tr.cut (k+1) a.2 i.1 i.2→∃uD yG,Tr.Ok (k+1) uD (some i.1) a.2∧Tr.Ok (k+1) i.1 yG i.2∧Tr.Old (k+1) i.2:=by
 rintro A a rfl hc
 obtain⟨A',y,h1,-⟩:=Tr.gZ x A a
 have hs:=ha.seg
 rw[h1] at hs
 exact⟨y,h,hs.last,oi,hn.resolve_right fun hn=>hc (hn a (Tr.bA A a))⟩
theorem tD {k:Nat} {c:Tr.Tx×Tr.E (k+1)} (e:¬(Tr.its c.2).isEmpty=true) (hs:Tr.sz k (Tr.its c.2)≤510):(Tr.parted k c).1=[c]:=by unfold Tr.parted;rw[if_neg e,if_pos hs]
theorem tE {k:Nat} {c:Tr.Tx×Tr.E (k+1)} (e:¬(Tr.its c.2).isEmpty=true) (hs:¬Tr.sz k (Tr.its c.2)≤510):(Tr.parted k c).1=[(c.1,(Tr.part k c.2).low),((Tr.part k c.2).key,(Tr.part k c.2).up)]:=by unfold Tr.parted;rw[if_neg e,if_neg hs]
theorem qJ {k:Nat} {c:Tr.Tx×Tr.E (k+1)} (e:(Tr.its c.2).isEmpty=true):(Tr.parted k c).1=[]:=by unfold Tr.parted;rw[if_pos e]
def Yt (k:Nat) (st:List (Tr.Tx×Tr.E (k+1))) (i:Tr.Tx×Tr.E (k+1)):Prop:=
 i.1.length≤96∧∀A a,st=A++[a]→¬Tr.cut (k+1) a.2 i.1 i.2→∃uD yG,Tr.Ok (k+1) uD (some i.1) a.2∧Tr.Ok (k+1) i.1 yG i.2∧Tr.Old (k+1) i.2
theorem Hx {k:Nat} {x:Tr.Tx} {h:Option Tr.Tx} {acc:List (Tr.Tx×Tr.E (k+1))} {sp:List Nat} {c:Tr.Tx×Tr.E (k+1)} (ha:Tr.Acc k x (some c.1) (Tr.aN x acc)) (hx:acc=[]→Tr.le x c.1) (hl:c.1.length≤96)
  (oc:Tr.fJ k c.1 h c.2) (ho:Tr.Old (k+1) c.2):∀j (hj:j<(Tr.parted k c).1.length),Yt k (rowAt k c.1 (acc,sp) (Tr.parted k c).1 j).1 (Tr.parted k c).1[j]:=by
 by_cases e:(Tr.its c.2).isEmpty=true
 ·rw[qJ e]
  intro j hj
  cases hj
 ·have e':Tr.its c.2≠[]:=fun h=>e (List.isEmpty_iff.2 h)
  by_cases hs:Tr.sz k (Tr.its c.2)≤510
  ·rw[tD e hs]
   intro j hj
   have h0:j=0:=by simpa using hj
   subst h0
   exact⟨hl,xP ha (oc.ok e' hs) (.inl ho)⟩
  ·rw[tE e hs]
   have S:=Tr.lV k oc (by omega)
   generalize Tr.part k c.2=s at S
   intro j hj
   match j,hj with
   |0,_=>exact⟨hl,xP (i:=(c.1,s.low)) ha S.low (.inl (S.old ho))⟩
   |1,_=>
    have J:=Tr.jU (i:=(c.1,s.low)) (sp:=sp) ha (fun e=>⟨hx (uT.1 e),S.old ho⟩) (fun _=>hl) S.low (.inl (S.old ho))
    have E1:=(Tr.gi k x c.1 acc sp (c.1,s.low)).2
    refine⟨S.len,xP (i:=(s.key,s.up)) (x:=x) ?_ S.up (.inr fun a hla=> ?_)⟩
    ·show Tr.Acc k x _ (Tr.aN x (Tr.aL k c.1 acc sp (c.1,s.low)).1)
     rw[E1]
     exact J.row
    ·have KW:(Tr.aL k c.1 acc sp (c.1,s.low)).1.getLast?=some a:=hla
     obtain⟨A,b,hA⟩:=Tr.ck (l:=(Tr.aL k c.1 acc sp (c.1,s.low)).1) (fun e=>by rw[e] at KW;cases KW)
     rw[hA,Tr.bA] at KW
     cases KW
     obtain⟨A',y,h1,-⟩:=Tr.gZ x A a
     refine Tr.kU S.cut (J.last (y,a.2) ?_)
     rw[←E1,hA,h1,Tr.bA]
theorem xQ {k:Nat} {acc:List (Tr.Tx×Tr.E (k+1))} {sp:List Nat} {c:Tr.Tx×Tr.E (k+1)}:rowAt k c.1 (acc,sp++(Tr.parted k c).2) (Tr.parted k c).1 (Tr.parted k c).1.length=Tr.aO k (acc,sp) c:=by
 unfold rowAt Tr.aO
 rw[xO,List.take_length]
theorem vX {k:Nat} {h:Option Tr.Tx} {c:Tr.Tx×Tr.E (k+1)} {W2:List (Tr.Tx×Tr.E (k+1))}:∀{W1:List (Tr.Tx×Tr.E (k+1))},Tr.fW k h (W1++c::W2)→Tr.fW k (some c.1) W1
 |[],_=>trivial
 |[_],hn=>⟨hn.1,hn.2.1.1,hn.2.1.2.2⟩
 |_::b::r,hn=>⟨hn.1,hn.2.1,vX (W1:=b::r) hn.2.2⟩
theorem nE {k:Nat} {h:Option Tr.Tx} {W2:List (Tr.Tx×Tr.E (k+1))}:∀{W1:List (Tr.Tx×Tr.E (k+1))},Tr.fW k h (W1++W2)→Tr.fW k h W2
 |[],hn=>hn
 |_::W1,hn=>nE (W1:=W1) hn.at.2.2.2.1
theorem Db {k:Nat} {x:Tr.Tx} {h:Option Tr.Tx} {c:Tr.Tx×Tr.E (k+1)} {W2:List (Tr.Tx×Tr.E (k+1))}:∀{W1:List (Tr.Tx×Tr.E (k+1))},Tr.fW k h (W1++c::W2)→(∀d l,W1++c::W2=d::l→Tr.le x d.1)→Tr.le x c.1
 |[],_,hx=>hx c W2 rfl
 |[a],hn,hx=>Tr.le_trans (hx a _ rfl) (Tr.le_of_lt hn.2.1.1)
 |a::b::r,hn,hx=>Db (W1:=b::r) hn.2.2 fun d l hd=>by
  have e:b=d:=(List.cons.inj hd).1
  rw[←e]
  exact Tr.le_trans (hx a _ rfl) (Tr.le_of_lt hn.2.1.1)
theorem KX {k:Nat} {x:Tr.Tx} {h:Option Tr.Tx} {W1 W2:List (Tr.Tx×Tr.E (k+1))} {c:Tr.Tx×Tr.E (k+1)} (sp:List Nat) (hn:Tr.fW k h (W1++c::W2)) (hx:∀d l,W1++c::W2=d::l→Tr.le x d.1):
  Tr.Acc k x (some c.1) (Tr.aN x (W1.foldl (Tr.aO k) ([],sp)).1)∧Tr.le x c.1:=by
 refine⟨?_,Db hn hx⟩
 rw[(Tr.lB k x W1 [] sp).2]
 refine (Tr.xC (h:=some c.1) W1 [] sp (Tr.Acc.nil _ _ _) ?_ (vX hn)).row
 rintro d l rfl
 exact⟨fun _=>hx d _ rfl,fun h=>absurd rfl h⟩
theorem B8 {k:Nat} {x:Tr.Tx} {h:Option Tr.Tx} {W1 W2:List (Tr.Tx×Tr.E (k+1))} {c:Tr.Tx×Tr.E (k+1)} (sp sp':List Nat) (hn:Tr.fW k h (W1++c::W2)) (hx:∀d l,W1++c::W2=d::l→Tr.le x d.1) (hl:c.1.length≤96):
  ∀j (hj:j<(Tr.parted k c).1.length),Yt k (rowAt k c.1 ((W1.foldl (Tr.aO k) ([],sp)).1,sp') (Tr.parted k c).1 j).1 (Tr.parted k c).1[j]:=by
 obtain⟨h1,h2⟩:=KX sp hn hx
 have hc:=(nE (W1:=W1) hn).at
 exact Hx h1 (fun _=>h2) hl hc.1 hc.2.2.1
end Go.Proofs.YtloekpcncjocaaaGreatDoor
namespace Go.Proofs.YtloekpcncjocaaaGreatDoor
namespace Tr
theorem EB:∀(k:Nat) (n m:E (k+1)) (x:Tx),(hd (join k n m x).1).page=(hd n).page
 |0,_,_,_=>rfl
 |k+1,n,m,x=>by
  unfold join
  split
  ·split<;>rfl
  ·rfl
theorem jX {k:Nat} {x:Tx} {acc:List (Tx×E (k+1))} {sp:List Nat} {i e:Tx×E (k+1)} (he:e∈(aL k x acc sp i).1):
  (∃a∈acc,a.1=e.1∧(hd a.2).page=(hd e.2).page)∨((hd i.2).page=(hd e.2).page∧(e.1=i.1∨(acc=[]∧e.1=x))):=by
 by_cases h:acc=[]
 ·subst h
  rw[gC] at he
  rw[List.mem_singleton.1 he]
  exact .inr ⟨rfl,.inr ⟨rfl,rfl⟩⟩
 ·obtain⟨A,a,rfl⟩:=ck h
  rw[cm] at he
  split at he
  ·rcases List.mem_append.1 he with he|he
   ·exact .inl ⟨e,he,rfl,rfl⟩
   ·rw[List.mem_singleton.1 he];exact .inr ⟨rfl,.inl rfl⟩
  ·rcases List.mem_append.1 he with he|he
   ·exact .inl ⟨e,List.mem_append.2 (.inl he),rfl,rfl⟩
   ·rw[List.mem_singleton.1 he]
    exact .inl ⟨a,by simp,rfl,(EB k a.2 i.2 i.1).symm⟩
theorem tF (k:Nat) (x:Tx) (acc:List (Tx×E (k+1))) (sp:List Nat) (i:Tx×E (k+1)):(aL k x acc sp i).1≠[]:=by
 by_cases h:acc=[]
 ·subst h;rw[gC];simp
 ·obtain⟨A,a,rfl⟩:=ck h
  rw[cm]
  split<;>simp
theorem B9 {k:Nat} {acc:List (Tx×E (k+1))} {sp:List Nat} {c e:Tx×E (k+1)} (he:e∈(aO k (acc,sp) c).1):
  (∃a∈acc,a.1=e.1∧(hd a.2).page=(hd e.2).page)∨(c.1=e.1∧(hd c.2).page=(hd e.2).page)∨(510<sz k (its c.2)∧e.1=(part k c.2).key):=by
 unfold aO bZ at he
 split at he
 ·exact .inl ⟨e,he,rfl,rfl⟩
 ·split at he
  ·rcases jX he with h|⟨h1,h2|⟨_,h2⟩⟩
   ·exact .inl h
   ·exact .inr (.inl ⟨h2.symm,h1⟩)
   ·exact .inr (.inl ⟨h2.symm,h1⟩)
  ·rename_i hs
   rcases jX he with⟨a,ha,h1,h2⟩|⟨_,h2|⟨h2,_⟩⟩
   ·rcases jX ha with⟨b,hb,h3,h4⟩|⟨h3,h4|⟨_,h4⟩⟩
    ·exact .inl ⟨b,hb,h3.trans h1,h4.trans h2⟩
    ·exact .inr (.inl ⟨h4.symm.trans h1,h3.trans h2⟩)
    ·exact .inr (.inl ⟨h4.symm.trans h1,h3.trans h2⟩)
   ·exact .inr (.inr ⟨by omega,h2⟩)
   ·exact absurd h2 (tF _ _ _ _ _)
theorem vY {k:Nat} {e:Tx×E (k+1)}:∀(W:List (Tx×E (k+1))) (acc:List (Tx×E (k+1))) (sp:List Nat),e∈(W.foldl (aO k) (acc,sp)).1→
  (∃a∈acc,a.1=e.1∧(hd a.2).page=(hd e.2).page)∨(∃w∈W,w.1=e.1∧(hd w.2).page=(hd e.2).page)∨(∃A c B,W=A++c::B∧510<sz k (its c.2)∧e.1=(part k c.2).key)
 |[],_,_,he=>.inl ⟨e,he,rfl,rfl⟩
 |c::W,acc,sp,he=>by
  rcases vY W (aO k (acc,sp) c).1 (aO k (acc,sp) c).2 he with⟨a,ha,h1,h2⟩|⟨w,hw,h⟩|⟨A,d,B,h1,h2⟩
  ·rcases B9 ha with⟨b,hb,h3,h4⟩|⟨h3,h4⟩|⟨h3,h4⟩
   ·exact .inl ⟨b,hb,h3.trans h1,h4.trans h2⟩
   ·exact .inr (.inl ⟨c,List.mem_cons_self,h3.trans h1,h4.trans h2⟩)
   ·exact .inr (.inr ⟨[],c,W,rfl,h3,h1.symm.trans h4⟩)
  ·exact .inr (.inl ⟨w,List.mem_cons_of_mem _ hw,h⟩)
  ·exact .inr (.inr ⟨c::A,d,B,by rw[h1];rfl,h2⟩)
theorem fW.iZ {k:Nat} {h:Option Tx}:∀{W:List (Tx×E (k+1))},fW k h W→W.Pairwise fun a b=>lt a.1 b.1=true
 |[],_=>.nil
 |[_],_=>List.pairwise_singleton _ _
 |a::b::r,hn=>by
  have ih:=fW.iZ (W:=b::r) hn.2.2
  refine List.pairwise_cons.2 ⟨fun y hy=> ?_,ih⟩
  rcases List.mem_cons.1 hy with rfl|hy
  ·exact hn.2.1.1
  ·exact lt_trans hn.2.1.1 ((List.pairwise_cons.1 ih).1 y hy)
theorem vZ {k:Nat} {h:Option Tx} {B:List (Tx×E (k+1))}:∀{A:List (Tx×E (k+1))},fW k h (A++B)→fW k h B
 |[],hn=>hn
 |_::A,hn=>vZ (A:=A) hn.at.2.2.2.1
theorem EC {k:Nat} {h:Option Tx} {W:List (Tx×E (k+1))} (sp:List Nat) (hn:fW k h W) (hk:(W.foldl (aO k) ([],sp)).1.map (·.1)=W.map (·.1)):
  (W.foldl (aO k) ([],sp)).1.map (fun p=>(p.1,(hd p.2).page))=W.map fun p=>(p.1,(hd p.2).page):=by
 have hr:=hn.iZ
 have hl:(W.foldl (aO k) ([],sp)).1.length=W.length:=by have:=congrArg List.length hk;rwa [List.length_map,List.length_map] at this
 refine List.ext_getElem (by rw[List.length_map,List.length_map,hl]) fun j h1 h2=> ?_
 rw[List.length_map] at h1 h2
 rw[List.getElem_map,List.getElem_map]
 obtain⟨e,he⟩:∃e,e=(W.foldl (aO k) ([],sp)).1[j]:=⟨_,rfl⟩
 have S3:e.1=(W[j]).1:=by
  have e1:((W.foldl (aO k) ([],sp)).1.map (·.1))[j]'(by rw[List.length_map];exact h1)=(W.map (·.1))[j]'(by rw[List.length_map];exact h2):=by simp only[hk]
  rw[List.getElem_map,List.getElem_map] at e1
  rw[he];exact e1
 rw[←he]
 rcases vY W [] sp (show e∈_ by rw[he];exact List.getElem_mem h1) with⟨_,h3,_⟩|⟨w,hw,h3,h4⟩|⟨A,c,B,h3,h4,h5⟩
 ·cases h3
 ·obtain⟨i,hi,rfl⟩:=List.mem_iff_getElem.1 hw
  have hij:i=j:=by
   rcases Nat.lt_trichotomy i j with hlt|rfl|hlt
   ·have:=List.pairwise_iff_getElem.1 hr i j hi h2 hlt
    rw[h3,S3] at this;rw[lt_irrefl] at this;cases this
   ·rfl
   ·have:=List.pairwise_iff_getElem.1 hr j i h2 hi hlt
    rw[h3,S3] at this;rw[lt_irrefl] at this;cases this
  subst hij
  rw[S3,h4]
 ·exfalso
  have hc:fW k h (c::B):=vZ (A:=A) (by rw[←h3];exact hn)
  have hca:=hc.at
  have hp:=lV k hca.1 h4
  have hlo:lt c.1 (part k c.2).key=true:=hp.low.lt
  have hhi:qB (part k c.2).key (rG h B):=hp.up.lt
  have hjm:W[j]∈A++c::B:=by rw[←h3];exact List.getElem_mem h2
  rw[S3] at h5
  rw[h3] at hr
  have jG:=List.pairwise_append.1 hr
  rcases List.mem_append.1 hjm with hm|hm
  ·have:=lt_trans (jG.2.2 _ hm c List.mem_cons_self) hlo
   rw[h5,lt_irrefl] at this;cases this
  ·rcases List.mem_cons.1 hm with hm|hm
   ·rw[←h5,hm,lt_irrefl] at hlo;cases hlo
   ·have G5:=jG.2.1
    cases B with
    |nil=>cases hm
    |cons b B=>
     have hb:lt (part k c.2).key b.1=true:=hhi
     rcases List.mem_cons.1 hm with hm|hm
     ·rw[←h5,hm,lt_irrefl] at hb;cases hb
     ·have:=lt_trans hb ((List.pairwise_cons.1 (List.pairwise_cons.1 G5).2).1 _ hm)
      rw[←h5,lt_irrefl] at this;cases this
theorem qa {k:Nat} {h:Option Tx} {kc:Tx} {c0 c:E (k+1)} {N:List (Tx×E (k+1))} (hs:sz k (its c0)≤sz k (its c)):∀{P:List (Tx×E (k+1))},bT (Ok (k+1)) (cut (k+1)) h (P++(kc,c0)::N)→Ok (k+1) kc (rG h N) c→bT (Ok (k+1)) (cut (k+1)) h (P++(kc,c)::N)
 |[],s,o=>by
  cases N with
  |nil=>exact o
  |cons b N=>exact⟨o,⟨s.2.1.1,s.2.1.2.1,kU s.2.1.2.2 hs⟩,s.2.2⟩
 |[a],s,o=>by
  have ih:=qa (P:=[]) hs s.2.2 o
  exact⟨s.1,⟨s.2.1.1,s.2.1.2.1,ji s.2.1.2.2 hs⟩,ih⟩
 |a::b::P,s,o=>⟨s.1,s.2.1,qa (P:=b::P) hs s.2.2 o⟩
theorem Hy {k:Nat} {lo:Tx} {h:Option Tx} {P N:List (Tx×E (k+1))} {kc:Tx} {c0 c:E (k+1)} (o:Rw (k+1) lo h (P++(kc,c0)::N)) (nc:fJ k (if P=[] then lo else kc) (rG h N) c) (h1:sz k (its c)≤510) (h0:its c≠[]) (hs:sz k (its c0)≤sz k (its c)):
  Rw (k+1) lo h (P++(kc,c)::N):=by
 obtain⟨h3,h4⟩:=o
 rw[b7] at h4
 rw[jt] at h3
 refine⟨?_, ?_⟩
 ·rw[jt]
  intro p hp
  cases P with
  |nil=>cases hp;exact h3 (kc,c0) rfl
  |cons a P=>cases hp;exact h3 _ rfl
 ·rw[b7,ju]
  rw[ju] at h4
  refine qa hs h4 ?_
  have e:(if P.isEmpty=true then lo else kc)=if P=[] then lo else kc:=by cases P<;>rfl
  rw[e]
  exact nc.ok h0 h1
end Tr
end Go.Proofs.YtloekpcncjocaaaGreatDoor
namespace Go.Proofs.YtloekpcncjocaaaGreatDoor
open Go.RowKit Lib
theorem v_ {n n':NV} (h:n'.its.map It.key=n.its.map It.key) (h1:n'.lo=n.lo) (j:Nat):cZ n' j=cZ n j:=by unfold cZ;rw[h,h1]
theorem we {n n':NV} (h:n'.its.map It.key=n.its.map It.key) (h1:n'.hi=n.hi) (j:Nat):cL n' j=cL n j:=by
 have hl:n'.its.length=n.its.length:=by have:=congrArg List.length h;rwa [List.length_map,List.length_map] at this
 unfold cL
 rw[h,h1]
 try rw[hl]
section
variable {E:Ev} {X0 Xs X X' V:World} {R0 Rs R R':Nat→Prop} {ps:List (Nat×List UInt8)} {pg:List (Option Wl.Text)} {rt:List Nat} {Ms M M':Nat→Option NV} {sb p q:Nat} {n0:NV} {ef sv cM lv rv:Value} {l0:List Int} {LI IT I1 I2 eU tG:List It} {k:Nat}
structure jz (E:Ev) (X0:World) (R0:Nat→Prop) (ps:List (Nat×List UInt8)) (pg:List (Option Wl.Text)) (rt:List Nat) (Rs:Nat→Prop) (Ms:Nat→Option NV) (Xs:World) (sb:Nat) (ef:Value) (k p:Nat) (n0:NV) (I1 I2:List It) (F:List Nat) (l0:List Int) (st:List (Tr.Tx×Tr.E (k+1))×List Nat) (eU tG:List It) (W2:List (Tr.Tx×Tr.E (k+1))) (f2:List (List Nat)) (R:Nat→Prop) (M:Nat→Option NV) (X:World) (sv:Value) (lv:Value) (LI:List It) (fa:List (List Nat)):Prop where
 row:Hu E X0 R0 ps pg rt Rs Ms Xs sb ef k R M X sv (l0++ew st.2) lv LI st.1 fa
 at_:M p=some {n0 with its:=I1++(eU++(tG++I2))}
 keys:(I1++(eU++(tG++I2))).map It.key=n0.its.map It.key
 rest:aI pg k (b8 M pg k) tG W2 f2
 nd:(p::(fa.flatten++f2.flatten)).Nodup
 news:∀r∈fa.flatten++f2.flatten,r∈F∨Xs.heap.size≤r
 same:∀r y,r∉p::F→Ms r=some y→M r=some y
 low:∀r y,Ms r=some y→r<Xs.heap.size
 zN:∀i∈eU,∀q,i.node=some q→∃y,M q=some y
structure NS (E:Ev) (X0:World) (R0:Nat→Prop) (ps:List (Nat×List UInt8)) (pg:List (Option Wl.Text)) (rt:List Nat) (Rs:Nat→Prop) (Ms:Nat→Option NV) (Xs:World) (sb:Nat) (ef:Value) (k p:Nat) (n0:NV) (I1 I2:List It) (F:List Nat) (l0:List Int) (st:List (Tr.Tx×Tr.E (k+1))×List Nat) (eU:List It) (i:It) (tG:List It) (c:Tr.Tx×Tr.E (k+1)) (W2:List (Tr.Tx×Tr.E (k+1))) (f:List Nat) (f2:List (List Nat)) (q:Nat) (R:Nat→Prop) (M:Nat→Option NV) (X:World) (sv:Value) (lv:Value) (LI:List It) (fa:List (List Nat)):Prop where
 out:jz E X0 R0 ps pg rt Rs Ms Xs sb ef k p n0 I1 I2 F l0 st eU (i::tG) (c::W2) (f::f2) R M X sv lv LI fa
 node:i.node=some q
 vS:b8 M pg k q c.2 f
theorem zO {F:List Nat} {st:List (Tr.Tx×Tr.E (k+1))×List Nat} {i:It} {c:Tr.Tx×Tr.E (k+1)} {W2:List (Tr.Tx×Tr.E (k+1))} {f:List Nat} {f2 fa:List (List Nat)} {j:Int}
  (h:jz E X0 R0 ps pg rt Rs Ms Xs sb ef k p n0 I1 I2 F l0 st eU (i::tG) (c::W2) (f::f2) R M X sv lv LI fa) (hV:Below X.heap.size X V) (hlv:n0.level=k+1) (hk:k≤15) (hj:j=(I1++eU).length)
  (gF:i.node=none→Tr.Ok (k+1) (cZ n0 (I1++eU).length) (gD (cL n0 (I1++eU).length)) c.2):
  Calls Tryz.prog 59 #[ptr E.tb,ptr p,.int .i64 j] V fun e X'=>∃q R' M' f',e=.returned (.tuple #[ptr q,.int .i64 0])∧NS E X0 R0 ps pg rt Rs Ms Xs sb ef k p n0 I1 I2 F l0 st eU {i with node:=some q} tG c W2 f' f2 q R' M' X' sv lv LI fa:=by
 obtain⟨ki,oV⟩:=h.rest
 have hnd:=List.nodup_cons.1 h.nd
 have gG:=List.nodup_append.1 hnd.2
 rw[List.flatten_cons] at gG
 have hnf:=List.nodup_append.1 gG.2.1
 have hpf:p∉f:=fun hm=>hnd.1 (List.mem_append.2 (.inr (by rw[List.flatten_cons];exact List.mem_append.2 (.inl hm))))
 have hp2:p∉f2.flatten:=fun hm=>hnd.1 (List.mem_append.2 (.inr (by rw[List.flatten_cons];exact List.mem_append.2 (.inr hm))))
 have hpa:p∉fa.flatten:=fun hm=>hnd.1 (List.mem_append.2 (.inl hm))
 have hts:=h.row.row.ss.ts
 refine (vV (I1:=I1++eU) (I2:=tG++I2) (key:=c.1) hts hV h.at_ hlv (show I1++(eU++(i::tG++I2))=(I1++eU)++i::(tG++I2) by simp) ki (fun hn=> ?_) hpf hnf.1 hk hj).mono ?_
 ·rw[v_ (n:=n0) (n':={n0 with its:=I1++(eU++(i::tG++I2))}) h.keys rfl,we (n:=n0) (n':={n0 with its:=I1++(eU++(i::tG++I2))}) h.keys rfl]
  exact gF hn
 rintro e X' ⟨q,M',R',fq,rfl,b⟩
 have uy:∀b,b=n0.rg→MB M b:=fun b hb=>⟨p,_,h.at_,.inr hb⟩
 have hss:=h.row.row.ss.nodes b.ts b.but uy b.sub b.mb
 have hst:jF R M X sb sv R' M' sv X':=jF.nodes b.but uy b.sub b.new b.mb (Dom.but b.at_ b.same)
 have hfr:∀{fs:List (List Nat)} {is:List It} {xs:List (Tr.Tx×Tr.E (k+1))},aI pg k (b8 M pg k) is xs fs→p∉fs.flatten→aI pg k (b8 M' pg k) is xs fs:=fun hks pK=>hks.frame fun r hr=>by
  obtain⟨y,hy⟩:=hks.dom r hr
  rw[hy]
  exact b.same r y (fun e=>pK (by rw[←e];exact hr)) hy
 have hnew:∀r∈fq,r∈f∨X.heap.size≤r:=b.news
 have Yu:=h.row.row.vW.but.size
 have xN:∀{fs:List (List Nat)} {is:List It} {xs:List (Tr.Tx×Tr.E (k+1))},aI pg k (b8 M pg k) is xs fs→(∀r∈f,r∉fs.flatten)→∀r∈fq,r∉fs.flatten:=fun hks hd r hr hm=>by
  rcases hnew r hr with h1|h1
  ·exact hd r h1 hm
  ·obtain⟨y,hy⟩:=hks.dom r hm
   have:=(hts.mem.lt hy).1
   omega
 have hda:=xN h.row.kids fun r hr hm=>gG.2.2 r hm r (List.mem_append.2 (.inl hr)) rfl
 have hd2:=xN oV fun r hr hm=>hnf.2.2 r hr r hm rfl
 refine⟨q,R',M',fq,rfl,⟨⟨⟨h.row.row.step hss hst,hfr h.row.kids hpa,h.row.got,h.row.nd⟩, ?_, ?_,⟨⟨ki.1,ki.2.1,.inr ⟨q,rfl,b.vS⟩⟩,hfr oV hp2⟩, ?_,fun r hr=> ?_,fun r y hr hy=> ?_,h.low,fun j hj s hs=>by obtain⟨y,hy⟩:=h.zN j hj s hs;exact hst.dom s y hy⟩,rfl,b.vS⟩⟩
 ·rw[b.at_]
  simp
 ·rw[←h.keys]
  simp
 ·rw[List.flatten_cons]
  refine List.nodup_cons.2 ⟨fun hm=> ?_,List.nodup_append.2 ⟨gG.1,List.nodup_append.2 ⟨b.nd,hnf.2.1,fun r hr s hs e=>hd2 r hr (by rw[e];exact hs)⟩,fun r hr s hs e=> ?_⟩⟩
  ·rcases List.mem_append.1 hm with hm|hm
   ·exact hpa hm
   ·rcases List.mem_append.1 hm with hm|hm
    ·exact b.pn hm
    ·exact hp2 hm
  ·subst e
   rcases List.mem_append.1 hs with hs|hs
   ·exact hda r hs hr
   ·exact gG.2.2 r hr r (List.mem_append.2 (.inr hs)) rfl
 ·rw[List.flatten_cons] at hr
  rcases List.mem_append.1 hr with hr|hr
  ·exact h.news r (List.mem_append.2 (.inl hr))
  ·rcases List.mem_append.1 hr with hr|hr
   ·rcases hnew r hr with h1|h1
    ·exact h.news r (List.mem_append.2 (.inr (by rw[List.flatten_cons];exact List.mem_append.2 (.inl h1))))
    ·right;omega
   ·exact h.news r (List.mem_append.2 (.inr (by rw[List.flatten_cons];exact List.mem_append.2 (.inr hr))))
 ·exact b.same r y (fun e=>hr (by rw[e];exact List.mem_cons_self)) (h.same r y hr hy)
end
section
variable {E:Ev} {X0 Xs X X' V:World} {R0 Rs R R':Nat→Prop} {ps:List (Nat×List UInt8)} {pg:List (Option Wl.Text)} {rt:List Nat} {Ms M M':Nat→Option NV} {sb p q:Nat} {n0:NV} {ef sv cM lv jr rv:Value} {l0:List Int} {LI JH IT I1 I2 eU tG:List It} {k:Nat}
theorem ED {F:List Nat} {st:List (Tr.Tx×Tr.E (k+1))×List Nat} {i:It} {c:Tr.Tx×Tr.E (k+1)} {W2:List (Tr.Tx×Tr.E (k+1))} {f:List Nat} {f2 fa:List (List Nat)}
  (h:NS E X0 R0 ps pg rt Rs Ms Xs sb ef k p n0 I1 I2 F l0 st eU i tG c W2 f f2 q R M X sv lv LI fa) (hV:Below X.heap.size X V) (hp:(Tr.hd c.2).page.isSome=true) (hl:(l0++ew st.2).length≤1000000):
  Calls Tryz.prog 97 #[ptr sb,ptr q,.agg #[.string (bs i.key),.string (bs i.val),.pointer (pa i.node)]] V fun e X'=>∃rv R' M' cM IT fs,e=.returned rv∧(∀t∈IT,t.node.isSome=true)∧tv E X0 R0 ps pg rt Rs Ms Xs sb ef k M X (fa.flatten++f) l0 rv IT (Tr.parted k c).1 fs (st.1,st.2++(Tr.parted k c).2) 0 R' M' X' cM lv LI fa:=by
 obtain⟨o,hn,BX⟩:=h
 obtain⟨ki,oV⟩:=o.rest
 have hnd:=List.nodup_cons.1 o.nd
 have gG:=List.nodup_append.1 hnd.2
 rw[List.flatten_cons] at gG
 have hnf:=List.nodup_append.1 gG.2.1
 have hss:=o.row.row.ss
 refine (EA (key:=c.1) (hss.still hV) BX ki hn hnf.1 hp hl).mono ?_
 rintro e X' ⟨rv,R',M',cM,IT,fs,rfl,it⟩
 have hst:jF R M X sb sv R' M' cM X':=(jF.still hV).trans it.vW
 have hs1:=hV.size
 have hda:∀r∈fa.flatten,r∉f:=fun r hr hm=>gG.2.2 r hr r (List.mem_append.2 (.inl hm)) rfl
 have hka:aI pg k (b8 M' pg k) LI st.1 fa:=o.row.kids.frame fun r hr=>by
  obtain⟨y,hy⟩:=o.row.kids.dom r hr
  rw[hy]
  exact it.same r y (hda r hr) hy
 have Yu:=o.row.row.vW.but.size
 have e1:l0++ew (st.2++(Tr.parted k c).2)=(l0++ew st.2)++ew (Tr.parted k c).2:=by unfold ew;rw[List.map_append,List.append_assoc]
 refine⟨rv,R',M',cM,IT,fs,rfl,it.got,⟨⟨?_,hka,o.row.got,o.row.nd⟩,it.kids, ?_,it.own.mono (by omega),fun b hb=> ?_,fun r hr=> ?_,fun r y hr hy=>it.same r y (fun hm=>hr (List.mem_append.2 (.inr hm))) hy,hst.but.size,fun r y hy=>(hss.ts.mem.lt hy).1,hst.dom⟩⟩
 ·show Row _ _ _ _ _ _ _ _ _ _ _ _ _ _ _ (l0++ew (st.2++(Tr.parted k c).2)) _ _
  rw[e1]
  exact o.row.row.step it.ss hst
 ·show (fa.flatten++fs.flatten).Nodup
  refine List.nodup_append.2 ⟨gG.1,it.nd,fun r hr s hs e=> ?_⟩
  subst e
  rcases it.news r hs with h1|h1
  ·exact hda r hr h1
  ·obtain⟨y,hy⟩:=o.row.kids.dom r hr
   have:=(hss.ts.mem.lt hy).1
   omega
 ·have h1:=(Own.block it.own b hb).1
  obtain⟨h2,h3⟩:=it.zK b hb
  refine⟨h2,fun e=> ?_,h3,fun e=> ?_⟩
  ·have:=hss.blk.lt;omega
  ·have:=(Own.block o.row.row.own b e).2;omega
 ·have jG:r∈fa.flatten++fs.flatten:=hr
  rcases List.mem_append.1 jG with hr|hr
  ·exact .inl (List.mem_append.2 (.inl hr))
  ·rcases it.news r hr with h1|h1
   ·exact .inl (List.mem_append.2 (.inr h1))
   ·right;omega
theorem B_ {F:List Nat} {st Yv:List (Tr.Tx×Tr.E (k+1))×List Nat} {i:It} {c:Tr.Tx×Tr.E (k+1)} {W2 cs:List (Tr.Tx×Tr.E (k+1))} {f:List Nat} {f2 fs fa gU:List (List Nat)} {j:Nat}
  (h:NS E X0 R0 ps pg rt Rs Ms Xs sb ef k p n0 I1 I2 F l0 st eU i tG c W2 f f2 q R M X sv lv LI fa) (hi:tv E X0 R0 ps pg rt Rs Ms Xs sb ef k M X (fa.flatten++f) l0 rv IT cs fs Yv j R' M' X' cM jr JH gU):
  jz E X0 R0 ps pg rt Rs Ms Xs sb ef k p n0 I1 I2 F l0 Yv (eU++[i]) tG W2 f2 R' M' X' cM jr JH gU:=by
 obtain⟨o,hn,BX⟩:=h
 obtain⟨ki,oV⟩:=o.rest
 have hnd:=List.nodup_cons.1 o.nd
 rw[List.flatten_cons,←List.append_assoc] at hnd
 have hd:=List.nodup_append.1 hnd.2
 have Mr:p∉fa.flatten++f:=fun hm=>hnd.1 (List.mem_append.2 (.inl hm))
 have hp2:p∉f2.flatten:=fun hm=>hnd.1 (List.mem_append.2 (.inr hm))
 have Yu:=o.row.row.vW.but.size
 have bY:=(o.row.row.ss.ts.mem.lt o.at_).1
 have hnew:∀r∈gU.flatten,r∈fa.flatten++f∨X.heap.size≤r:=fun r hr=>hi.news r (List.mem_append.2 (.inl hr))
 have Hz:∀r,r∈fa.flatten++f∨r∈f2.flatten→r∈F∨Xs.heap.size≤r:=fun r hr=>by
  refine o.news r ?_
  rw[List.flatten_cons,←List.append_assoc]
  exact List.mem_append.2 hr
 refine⟨hi.row, ?_, ?_,oV.frame fun r hr=> ?_,List.nodup_cons.2 ⟨fun hm=> ?_,List.nodup_append.2 ⟨hi.row.nd,hd.2.1,fun r hr s hs e=> ?_⟩⟩,fun r hr=> ?_,fun r y hr hy=> ?_,o.low,fun j hj s hs=> ?_⟩
 ·rw[hi.same p _ Mr o.at_]
  simp
 ·rw[←o.keys]
  simp
 ·obtain⟨y,hy⟩:=oV.dom r hr
  rw[hy]
  exact hi.same r y (fun hm=>hd.2.2 r hm r hr rfl) hy
 ·rcases List.mem_append.1 hm with hm|hm
  ·rcases hnew p hm with h1|h1
   ·exact Mr h1
   ·omega
  ·exact hp2 hm
 ·subst e
  rcases hnew r hr with h1|h1
  ·exact hd.2.2 r h1 r hs rfl
  ·obtain⟨y,hy⟩:=oV.dom r hs
   have:=(o.row.row.ss.ts.mem.lt hy).1
   omega
 ·rcases List.mem_append.1 hr with hr|hr
  ·rcases hnew r hr with h1|h1
   ·exact Hz r (.inl h1)
   ·right;omega
  ·exact Hz r (.inr hr)
 ·have hy2:=o.same r y hr hy
  refine hi.same r y (fun hm=> ?_) hy2
  rcases Hz r (.inl hm) with h1|h1
  ·exact hr (List.mem_cons_of_mem _ h1)
  ·have:=o.low r y hy
   omega
 ·rcases List.mem_append.1 hj with hj|hj
  ·obtain⟨y,hy⟩:=o.zN j hj s hs
   exact hi.dom s y hy
  ·rw[List.mem_singleton.1 hj,hn] at hs
   cases hs
   obtain⟨y,hy,-,-⟩:=BX.head
   exact hi.dom q y hy
end
section
variable {w:World} {p q sb:Nat} {m:NV}
theorem xR (h:Nd w q m) (hf:bz m.its≤510) (hs:m.was≤bz m.its):
  Calls Tryz.prog 65 #[ptr sb,ptr p,ptr q] w fun e w'=>e=.returned (.int .i64 0)∧Below w.heap.size w w':=by
 have HF:=aa (fun V (hV:Below w.heap.size w V)=>fR (h.still hV))
 have HS:=aa (fun V (hV:Below w.heap.size w V)=>eM (h.still hV))
 have HW:=aa (fun V (hV:Below w.heap.size w V)=>(h.still hV).c5)
 rw[decide_eq_true hf] at HF
 have FR:(bz m.its:Int)≥m.was:=by omega
 have c5:=h.c5
 have HB:=aa (Below.refl w.heap.size w)
 unfold ptr at HF HS
 clear h hf hs
 go_enter Tryz.func65,Tryz.ntmps65
 unfold ptr
 go_wp2_with (refine wp_region_any (by kernel_rfl) ?_;refine Hid.out ?_)
 refine aa ?_
 try (change wpAny _ _ _ _ _ _ _ (World.drew _))
 refine tk 0 ?_
 refine rd [1] (rn fun K hK=> ?_)
 go_simp
 refine (HF.out _ ((Below.refl _ w).drew)).mono ?_;rintro e w1 ⟨rfl,aQ⟩
 refine hK _ _ ?_;clear hK K
 have HB:=aa (((Below.refl w.heap.size w).drew).trans aQ)
 have HC:=aa (HW.out w1 HB.out)
 have c5:=HC.out
 clear aQ
 refine tk 2 ?_
 refine tk 3 ?_
 refine tk 5 ?_
 refine tk 6 ?_
 refine tk 7 ?_
 try simp only[Act.put,List.setIfInBounds_toArray,List.set_cons_succ,List.set_cons_zero]
 refine rd [4,8] (AllReady.cons rfl (fun K hK=> ?_) (rn fun K hK=> ?_))
 focus
  go_simp
  refine (HS.out _ HB.out).mono ?_
  rintro e w4 ⟨rfl,hb4⟩
  have HB:=aa (HB.out.trans (hb4.mono HB.out.size))
  have HC:=aa (HW.out w4 HB.out)
  have c5:=HC.out
  clear hb4
  refine hK _ _ ?_;clear hK K
  refine rd [8] (rn fun K hK=> ?_)
  go_simp
  refine hK _ _ ?_;clear hK K
 rotate_left
 focus
  go_simp
  refine hK _ _ ?_;clear hK K
  refine rd [4] (rn fun K hK=> ?_)
  go_simp
  refine (HS.out _ HB.out).mono ?_
  rintro e w4 ⟨rfl,hb4⟩
  have HB:=aa (HB.out.trans (hb4.mono HB.out.size))
  have HC:=aa (HW.out w4 HB.out)
  have c5:=HC.out
  clear hb4
  refine hK _ _ ?_;clear hK K
 all_goals
  try simp only[Act.put,List.setIfInBounds_toArray,List.set_cons_succ,List.set_cons_zero]
  refine tk 9 ?_
  refine tk 10 ?_
  refine wpAny_done (by kernel_rfl) ?_ _
  go_wp2_with fail
  go_ret
  exact⟨rfl,HB.out⟩
end
theorem ij {pg:List (Option Wl.Text)}:∀{k:Nat} {n:Tr.E (k+1)},bM pg (k+1) n→Tr.Old (k+1) n
 |0,_,h=>by
  obtain⟨⟨page,hp,_⟩,_,_⟩:=h
  exact⟨by rw[hp];rfl,fun _ _=>trivial⟩
 |k+1,_,h=>by
  obtain⟨⟨page,hp,_⟩,_,hk⟩:=h
  exact⟨by rw[hp];rfl,fun p hm=>ij (hk p (List.mem_of_mem_head? hm))⟩
theorem wh {k:Nat} {n:NV} {A B:List (Tr.Tx×Tr.E (k+1))} {key:Tr.Tx} {c:Tr.E (k+1)} (hn:Tr.Rw (k+1) n.lo (gD n.hi) (A++(key,c)::B)) (hks:n.its.map It.key=(A++(key,c)::B).map (·.1)):
  cZ n A.length=(if A=[] then n.lo else key)∧gD (cL n A.length)=Tr.rG (gD n.hi) B:=by
 obtain⟨_,h4⟩:=hn
 rw[Tr.b7] at h4
 have hlen:n.its.length=(A++(key,c)::B).length:=by
  have:=congrArg List.length hks
  rwa [List.length_map,List.length_map] at this
 have hlo:cZ n A.length=if A=[] then n.lo else key:=by
  unfold cZ
  cases A with
  |nil=>rfl
  |cons a A=>
   rw[if_neg (by simp),if_neg (by simp),hks]
   exact cS (·.1) (a::A) (key,c) B
 have hB:∀b B',B=b::B'→cL n A.length=b.1:=by
  intro b B' e
  unfold cL
  rw[if_pos (by rw[hlen,e];simp),hks,e]
  have:=cS (·.1) (A++[(key,c)]) b B'
  rw[List.append_assoc,List.length_append] at this
  exact this
 have UB:B=[]→cL n A.length=n.hi:=by
  intro e
  unfold cL
  rw[if_neg (by rw[hlen,e];simp)]
 have hne:∀b B',B=b::B'→b.1≠[]:=by
  intro b B' e eb
  rw[e,Tr.ju] at h4
  have:=(Tr.bT.append.1 h4).2.1.1
  rw[eb] at this
  have h0:∀x:Tr.Tx,Tr.lt x []=false:=fun x=>by cases x<;>rfl
  rw[h0] at this
  cases this
 refine⟨hlo, ?_⟩
 cases B with
 |nil=>rw[UB rfl];rfl
 |cons b B'=>
  rw[hB b B' rfl]
  unfold gD
  rw[if_neg (hne b B' rfl)]
  rfl
theorem xS {k:Nat} {A B:List (Tr.Tx×Tr.E (k+1))} {kc:Tr.Tx} {c0 c:Tr.E (k+1)}:Tr.sz (k+1) (A++(kc,c)::B)=Tr.sz (k+1) (A++(kc,c0)::B):=by
 rw[Tr.b9,Tr.b9];rfl
theorem zP {k:Nat} {c0 c:Tr.E (k+1)} (h:(Tr.hd c).page=(Tr.hd c0).page):cg (k+1) c=cg (k+1) c0:=by
 show pv ((Tr.hd c).page.getD 0)=pv ((Tr.hd c0).page.getD 0)
 rw[h]
theorem bW (k:Nat) (a b:List (Tr.Tx×Tr.E k)):af k (a++b)=af k a++af k b:=List.map_append
theorem uU {k:Nat} {a b:List (Tr.Tx×Tr.E (k+1))} (h:a.map (fun p=>(p.1,(Tr.hd p.2).page))=b.map fun p=>(p.1,(Tr.hd p.2).page)):af (k+1) a=af (k+1) b:=by
 have e:∀l:List (Tr.Tx×Tr.E (k+1)),af (k+1) l=(l.map fun p=>(p.1,(Tr.hd p.2).page)).map fun x=>(⟨x.1,pv (x.2.getD 0),none⟩:It):=by
  intro l
  unfold af
  rw[List.map_map]
  rfl
 rw[e,e,h]
section
variable {E:Ev} {X0 X X':World} {R0 R R':Nat→Prop} {ps:List (Nat×List UInt8)} {pg:List (Option Wl.Text)} {rt:List Nat} {M M':Nat→Option NV} {k p q sb:Nat} {n m:NV} {sv cM:Value} {h:Tr.Hd} {A B:List (Tr.Tx×Tr.E (k+1))} {kc:Tr.Tx} {c0 c:Tr.E (k+1)} {F:List Nat} {l0:List Int} {sp:List Nat}
structure Slot (pg:List (Option Wl.Text)) (M:Nat→Option NV) (k p q:Nat) (n m:NV) (h:Tr.Hd) (A B:List (Tr.Tx×Tr.E (k+1))) (kc:Tr.Tx) (c0 c:Tr.E (k+1)) (F:List Nat):Prop where
 at_:M p=some n
 its:n.its=af (k+1) A++⟨kc,cg (k+1) c0,some q⟩::af (k+1) B
 sides:∀x,x∈A∨x∈B→bM pg (k+1) x.2
 own:n.own=true
 jA:iC pg (k+1) n (Tr.mk h (A++(kc,c0)::B))
 idx:n.at_=A.length
 vS:b8 M pg k q c F
 i_:M q=some m
 near:Tr.fJ k (cZ n A.length) (gD (cL n A.length)) c
 page:(Tr.hd c).page=(Tr.hd c0).page
 old:Tr.Old (k+1) c
 was:m.was=Tr.sz k (Tr.its c0)
 fit:Tr.sz (k+1) (A++(kc,c0)::B)≤510
 fresh:h.fresh=false
 nd:(p::F).Nodup
theorem Slot.keys (s:Slot pg M k p q n m h A B kc c0 c F):n.its.map It.key=(A++(kc,c0)::B).map (·.1):=by
 rw[s.its,List.map_append,List.map_cons,bV,bV,List.map_append,List.map_cons]
theorem Slot.My (s:Slot pg M k p q n m h A B kc c0 c F):n.its.map It.key=(A++(kc,c)::B).map (·.1):=by
 rw[s.keys,List.map_append,List.map_cons,List.map_append,List.map_cons]
theorem Slot.S4 (s:Slot pg M k p q n m h A B kc c0 c F):Tr.Rw (k+1) n.lo (gD n.hi) (A++(kc,c0)::B):=s.jA.near.2
theorem Slot.ends (s:Slot pg M k p q n m h A B kc c0 c F):cZ n A.length=(if A=[] then n.lo else kc)∧gD (cL n A.length)=Tr.rG (gD n.hi) B:=wh s.S4 s.keys
theorem Slot.Mz (s:Slot pg M k p q n m h A B kc c0 c F):Tr.fJ k (if A=[] then n.lo else kc) (Tr.rG (gD n.hi) B) c:=by
 have:=s.near
 rwa [s.ends.1,s.ends.2] at this
theorem Slot.ok0 (s:Slot pg M k p q n m h A B kc c0 c F):Tr.Ok (k+1) (cZ n A.length) (gD (cL n A.length)) c0:=jw s.jA.near rfl s.keys
theorem wj {n n':NV} {h:Tr.Hd} {l l':List (Tr.Tx×Tr.E (k+1))} (o:iC pg (k+1) n (Tr.mk h l)) (h1:n'.level=n.level) (h2:n'.page=n.page) (h3:n'.fresh=n.fresh) (h4:n'.lo=n.lo) (h5:n'.hi=n.hi) (hz:Tr.sz (k+1) l'≤664) (hw:Tr.Rw (k+1) n.lo (gD n.hi) l') (hp:l'.map (fun p=>(p.1,(Tr.hd p.2).page))=l.map fun p=>(p.1,(Tr.hd p.2).page)):iC pg (k+1) n' (Tr.mk h l'):=by
 refine⟨by rw[h1];exact o.level,by rw[h2];exact o.page,by rw[h3];exact o.fresh,by rw[h4,h5];exact⟨hz,hw⟩,fun hf=> ?_⟩
 obtain⟨page,e1,e2,e3,e4⟩:=o.held hf
 refine⟨page,e1,e2, ?_,fun _ x hx=> ?_⟩
 ·show pg.getD page none=some (Dk.full (bH (k+1) (af (k+1) l')))
  rw[uU hp]
  exact e3
 ·have hm:(x.1,(Tr.hd x.2).page)∈l.map fun p=>(p.1,(Tr.hd p.2).page):=by rw[←hp];exact List.mem_map.2 ⟨x,hx,rfl⟩
  obtain⟨y,hy,e⟩:=List.mem_map.1 hm
  have e5:=e4 (Nat.succ_pos k) y hy
  have e6:(Tr.hd y.2).page=(Tr.hd x.2).page:=(Prod.mk.inj e).2
  show (Tr.hd x.2).page.isSome=true
  rw[←e6]
  exact e5
theorem wk (hp:(Tr.hd c).page=(Tr.hd c0).page):(A++(kc,c)::B).map (fun p=>(p.1,(Tr.hd p.2).page))=(A++(kc,c0)::B).map fun p=>(p.1,(Tr.hd p.2).page):=by
 rw[List.map_append,List.map_append,List.map_cons,List.map_cons]
 show _++(kc,(Tr.hd c).page)::_=_
 rw[hp]
def zQ (E:Ev) (X0:World) (R0 R:Nat→Prop) (ps:List (Nat×List UInt8)) (pg:List (Option Wl.Text)) (rt:List Nat) (M:Nat→Option NV) (X:World) (sb:Nat) (sv:Value) (l0:List Int) (sp:List Nat) (k p:Nat) (n:NV) (h:Tr.Hd) (all:List (Tr.Tx×Tr.E (k+1))) (b:Nat) (F:List Nat) (X':World):Prop:=
 ∃R' M' cM n' t' F' sp',SS E X0 R0 R' ps pg rt M' X' sb cM (l0++ew sp')∧jF R M X sb sv R' M' cM X'∧M' p=some n'∧(n'.lo=n.lo∧n'.hi=n.hi∧n'.was=n.was∧n'.own=true)∧b8 M' pg (k+1) p t' F'∧(Tr.hd t').page=h.page∧
  Tr.rH k n.lo (gD n.hi) all (Tr.its t') b sp sp'∧F'.Nodup∧(∀r∈F',r∈p::F∨X.heap.size≤r)∧∀r y,r∉p::F→M r=some y→M' r=some y
theorem lD {R1:Nat→Tr.E (k+1)→List Nat→Prop} {I:List It} {W:List (Tr.Tx×Tr.E (k+1))} {fs:List (List Nat)} {P N:List (Tr.Tx×Tr.E (k+1))} (hP:∀x∈P,bM pg (k+1) x.2) (hN:∀x∈N,bM pg (k+1) x.2) (hw:aI pg k R1 I W fs):
  ∃fs',aI pg k R1 (af (k+1) P++(I++af (k+1) N)) (P++(W++N)) fs'∧fs'.flatten=fs.flatten:=
 ⟨_,(eR hP).append (hw.append (eR hN)),by rw[List.flatten_append,List.flatten_append,fE,fE,List.nil_append,List.append_nil]⟩
theorem EE (s:Slot pg M k p q n m h A B kc c0 c F) (hs:SS E X0 R0 R ps pg rt M X sb sv (l0++ew sp)) (hz:Tr.sz k (Tr.its c)≤510) (hg:Tr.sz k (Tr.its c0)≤Tr.sz k (Tr.its c)) (hb:Below X.heap.size X X'):
  zQ E X0 R0 R ps pg rt M X sb sv l0 sp k p n h (A++(kc,c)::B) (Tr.big k [(kc,c)]) F X':=by
 have h0:Tr.its c≠[]:=by
  intro e
  have h1:=Tr.Kg s.ok0.1
  rw[e] at hg
  have:Tr.sz k ([]:List (Tr.Tx×Tr.E k))=0:=rfl
  omega
 have hrw:=Tr.Hy s.S4 s.Mz hz h0 hg
 have kI:Tr.big k [(kc,c)]=0:=by unfold Tr.big;rw[if_pos hz];rfl
 have ku:=wk (A:=A) (B:=B) (kc:=kc) s.page
 have hfit:=s.fit
 obtain⟨fs,hk,hfl⟩:=lD (R1:=b8 M pg k) (fun x hx=>s.sides x (.inl hx)) (fun x hx=>s.sides x (.inr hx)) (show aI pg k (b8 M pg k) [⟨kc,cg (k+1) c0,some q⟩] [(kc,c)] [F] from⟨⟨rfl,rfl,.inr ⟨q,rfl,s.vS⟩⟩,trivial⟩)
 refine⟨R,M,sv,n,Tr.mk h (A++(kc,c)::B),p::F,sp,hs.still hb,jF.still hb,s.at_,⟨rfl,rfl,rfl,s.own⟩, ?_,rfl, ?_,s.nd,fun r hr=>.inl hr,fun _ _ _ hy=>hy⟩
 ·refine⟨n,fs,s.at_,wj s.jA rfl rfl rfl rfl rfl (by rw[xS (c0:=c0)];omega) hrw ku, ?_, ?_⟩
  ·rw[s.its];exact hk
  ·rw[hfl];simp
 ·rw[kI]
  refine⟨hrw,rfl,List.Perm.refl _,rfl,Nat.le_add_right _ _,fun ho p hp=>ho p (List.mem_of_mem_head? hp)⟩
end
end Go.Proofs.YtloekpcncjocaaaGreatDoor
namespace Go.Proofs.YtloekpcncjocaaaGreatDoor
namespace Tr
theorem zR {k:Nat} {h:Option Tx} {a a':Tx} {x:E (k+1)}:∀{r:List (Tx×E (k+1))},fW k h ((a,x)::r)→le a' a→fW k h ((a',x)::r)
 |[],hn,hl=>⟨hn.1.lo hl,sr hl hn.2.1,hn.2.2⟩
 |_::_,hn,hl=>⟨hn.1.lo hl,⟨lt_of_le_of_lt hl hn.2.1.1,hn.2.1.2⟩,hn.2.2⟩
theorem zS {k:Nat} {lo:Tx} {h:Option Tx} {P A B N:List (Tx×E (k+1))} {kc:Tx} {c0 c:E (k+1)} (o:Rw (k+1) lo h (P++((A++(kc,c0)::B)++N))) (nc:fJ k (if P=[]∧A=[] then lo else kc) (rG h (B++N)) c)
  (oA:∀p∈A,Old (k+1) p.2) (oc:Old (k+1) c) (oB:∀p∈B,Old (k+1) p.2):∃h',fW k h' (A++(kc,c)::B):=by
 obtain⟨h3,h4⟩:=o
 rw[b7] at h4
 rw[jt] at h3
 refine⟨rG h N, ?_⟩
 rw[sW] at nc
 cases P with
 |cons a P=>
  have h5:=(bT.sV (bT.behind (A:=(lo,a.2)::P) h4)).1
  exact l_ h5 (by rw[if_neg (by simp)] at nc;exact nc) oA oc oB
 |nil=>
  have h5:bT (Ok (k+1)) (cut (k+1)) (rG h N) (aN lo (A++(kc,c0)::B)):=by
   rw[List.nil_append,dx _ _ _ (by simp)] at h4
   exact (bT.sV h4).1
  cases A with
  |nil=>
   have h6:=l_ (P:=[]) (c:=c) h5 (by rw[if_pos ⟨rfl,rfl⟩] at nc;exact nc) (fun _ h=>by cases h) oc oB
   have e:kc=[]:=h3 (kc,c0) rfl
   rw[e]
   exact zR h6 (nil_le _)
  |cons a A=>
   have h6:=l_ (P:=(lo,a.2)::A) (c:=c) h5 (by rw[if_neg (by simp)] at nc;exact nc) (fun p hp=>by
    rcases List.mem_cons.1 hp with rfl|hp
    ·exact oA a List.mem_cons_self
    ·exact oA p (List.mem_cons_of_mem _ hp)) oc oB
   have e:a.1=[]:=h3 a rfl
   obtain⟨ka,xa⟩:=a
   cases e
   exact zR h6 (nil_le _)
theorem tH:∀(k:Nat) (n m:E (k+1)) (x:Tx),(join k n m x).2.length≤k+1
 |0,n,m,x=>by rw[pX];cases (hd m).page<;>simp
 |k+1,n,m,x=>by
  unfold join
  split
  ·rename_i a b r _ _
   have ih:=tH k a.2 b.2 x
   have e:(hd m).page.toList.length≤1:=by cases (hd m).page<;>simp
   split
   ·show (hd m).page.toList.length≤_;omega
   ·show ((join k a.2 b.2 x).2++(hd m).page.toList).length≤_
    rw[List.length_append];omega
  ·exact Nat.zero_le _
theorem iP (k:Nat) (x:Tx) (acc:List (Tx×E (k+1))) (sp:List Nat) (i:Tx×E (k+1)):(aL k x acc sp i).1.length≤acc.length+1∧(aL k x acc sp i).2.length≤sp.length+(k+1):=by
 by_cases h:acc=[]
 ·subst h;rw[gC];exact⟨Nat.le_refl _,Nat.le_add_right _ _⟩
 ·obtain⟨A,a,rfl⟩:=ck h
  rw[cm]
  split
  ·exact⟨by simp,Nat.le_add_right _ _⟩
  ·refine⟨by simp, ?_⟩
   rw[List.length_append]
   have:=tH k a.2 i.2 i.1
   omega
theorem EF (k:Nat) (st:List (Tx×E (k+1))×List Nat) (c:Tx×E (k+1)):(aO k st c).1.length≤st.1.length+2∧(aO k st c).2.length≤st.2.length+(2*k+3):=by
 unfold aO bZ
 split
 ·refine⟨Nat.le_add_right _ _, ?_⟩
  show (st.2++(hd c.2).page.toList).length≤_
  have e:(hd c.2).page.toList.length≤1:=by cases (hd c.2).page<;>simp
  rw[List.length_append];omega
 ·split
  ·have:=iP k c.1 st.1 st.2 c;omega
  ·have h1:=iP k c.1 st.1 st.2 (c.1,(part k c.2).low)
   have h2:=iP k c.1 (aL k c.1 st.1 st.2 (c.1,(part k c.2).low)).1 (aL k c.1 st.1 st.2 (c.1,(part k c.2).low)).2 ((part k c.2).key,(part k c.2).up)
   omega
theorem me (k:Nat):∀(W:List (Tx×E (k+1))) (st:List (Tx×E (k+1))×List Nat),(W.foldl (aO k) st).1.length≤st.1.length+2*W.length∧(W.foldl (aO k) st).2.length≤st.2.length+(2*k+3)*W.length
 |[],st=>⟨by simp,by simp⟩
 |c::W,st=>by
  have h1:=EF k st c
  have h2:=me k W (aO k st c)
  rw[List.foldl_cons,List.length_cons]
  refine⟨by omega, ?_⟩
  rw[Nat.mul_succ]
  omega
end Tr
end Go.Proofs.YtloekpcncjocaaaGreatDoor
namespace Go.Proofs.YtloekpcncjocaaaGreatDoor
open Go.RowKit Lib
theorem xT (w:World) (o cap i:Nat) (l:List It) (h:aD 0 w (.slice (some ⟨o,0,none⟩) l.length cap) l) (hi:i<l.length) (hl:l.length≤400):
  Calls Tryz.prog 36 #[.slice (some ⟨o,0,none⟩) l.length cap,.int .i64 i,.int .i64 (i+1:Nat)] w fun e w'=>e=.returned (.slice (some ⟨o,0,none⟩) (l.length-1) cap)∧aD 0 w' (.slice (some ⟨o,0,none⟩) (l.length-1) cap) (l.take i++l.drop (i+1))∧aj (fun k=>k=o) w w':=by
 obtain⟨_,hcap,OO⟩:=eZ h
 have hpre:=Own.upto h i (by omega)
 have GL:=aa hpre
 obtain⟨M,hM⟩:∃M,l.length=M+1:=⟨l.length-1,by omega⟩
 rw[hM] at hi hl hcap h ⊢
 have HI:=aa (show i<l.length∧l.length=M+1∧M+1≤cap from⟨by omega,hM,hcap⟩)
 have KF:l.drop (i+1)≠[]→aJ ah w o ((i+1)*3) (l.drop (i+1)):=fun _=>by
  have:=(Own.lies h).part (i+1) (l.length-(i+1)) (by omega)
  rw[Nat.zero_add,List.take_of_length_le (by rw[List.length_drop];exact Nat.le_refl _)] at this
  exact this
 rw[Nat.add_sub_cancel]
 have Gi:(i:Int)+1≤M+1:=by omega
 have aau:(i:Int)≤i+1:=by omega
 have aav:(0:Int)≤(i:Int)+1:=by omega
 have Qj:(i:Int)≤M+1:=by omega
 have hiM:i≤M:=by omega
 have hsum:i+(M-i)=M:=by omega
 have hm2:(cap:Int)≤9223372036854775807:=by unfold maxLen at OO;omega
 have vB:(M:Int)+1≤cap:=by omega
 have hic:i≤cap:=by omega
 have hMc:¬cap=M:=by omega
 have KE:¬cap=i:=by omega
 have iw:IntKind.i64.wrap ((i:Int)+1)=(i:Int)+1:=by
  have:=bQ (i+1) (by omega)
  rwa [show ((i+1:Nat):Int)=(i:Int)+1 by omega] at this
 have Qk:((i:Int)+1).toNat=i+1:=by omega
 have hne:((i:Int)==(i:Int)+1)=false:=by rw[beq_eq_false_iff_ne];omega
 clear hpre h hM OO
 by_cases S5:cap=i+1
 ·have hem:l.drop (i+1)=[]:=List.drop_eq_nil_of_le (by have:=HI.out;omega)
  have Vj:=aa (show l.drop (i+1)≠[]→aJ ah w.drew o 0 (l.drop (i+1)) from fun hn=>absurd hem hn)
  clear KF hem
  subst S5
  obtain rfl:i=M:=by omega
  go_enter Tryz.func36,Tryz.ntmps36
  go_wp2_with (refine wp_region_any (by kernel_rfl) ?_;refine Hid.out ?_)
  refine aa ?_
  try (change wpAny _ _ _ _ _ _ _ (World.drew _))
  refine tk 0 ?_
  refine tk 1 ?_
  refine tk 2 ?_
  refine tk 3 ?_
  refine tk 4 ?_
  refine tk 5 ?_
  try simp only[Act.put,List.setIfInBounds_toArray,List.set_cons_succ,List.set_cons_zero]
  refine rd [6] (rn fun K hK=> ?_)
  refine k_ _ _ rfl o i (i+1) rfl (show aD 0 w.drew (.slice (some ⟨o,0,none⟩) i (i+1)) (l.take i) from GL.out) (by rw[List.length_take];have:=HI.out;omega) _ _ _ _ (l.drop (i+1)) rfl (by rw[List.length_drop];have:=HI.out;omega) (fun hne=>Vj.out hne) (by have:=HI.out;omega) ?_;intro w5 h5 eN
  refine hK _ _ ?_;clear hK K
  refine tk 7 ?_
  refine wpAny_done (by kernel_rfl) ?_ _
  rw[show i+0=i by omega] at h5 ⊢
  have H5:=aa (show aD 0 w5 (.slice (some ⟨o,0,none⟩) i (i+1)) (l.take i++l.drop (i+1))∧aj (fun k=>k=o) w w5 from⟨h5,⟨eN.os,eN.tape,eN.output,eN.size,fun k hk hn=>eN.block k hk (fun e=>hn (by injection e))⟩⟩)
  clear h5 eN
  obtain⟨vs,yW⟩:=dD w5 o i (i+1) (l.take i++l.drop (i+1)) H5.out.1 1 (by omega) (by decide)
  go_wp2
  go_ret
  have hz:=Own.cleared (K:=ah) (E:=95) (B:=0) vs w5 (i*3) H5.out.1 (by rw[List.length_append,List.length_take,List.length_drop];have:=HI.out;show _*3≤_;omega)
  exact⟨rfl,hz.1,H5.out.2.trans hz.2 (fun _ _ e=>e)⟩
 ·have Vj:=aa (show l.drop (i+1)≠[]→aJ ah w.drew o ((i+1)*3) (l.drop (i+1)) from KF)
  clear KF
  go_enter Tryz.func36,Tryz.ntmps36
  go_wp2_with (refine wp_region_any (by kernel_rfl) ?_;refine Hid.out ?_)
  refine aa ?_
  try (change wpAny _ _ _ _ _ _ _ (World.drew _))
  refine tk 0 ?_
  refine tk 1 ?_
  refine tk 2 ?_
  refine tk 3 ?_
  refine tk 4 ?_
  refine tk 5 ?_
  try simp only[Act.put,List.setIfInBounds_toArray,List.set_cons_succ,List.set_cons_zero]
  refine rd [6] (rn fun K hK=> ?_)
  refine k_ _ _ rfl o i cap rfl (show aD 0 w.drew (.slice (some ⟨o,0,none⟩) i cap) (l.take i) from GL.out) (by rw[List.length_take];have:=HI.out;omega) _ _ _ _ (l.drop (i+1)) rfl (by rw[List.length_drop];have:=HI.out;omega) (fun hne=>Vj.out hne) (by have:=HI.out;omega) ?_;intro w5 h5 eN
  refine hK _ _ ?_;clear hK K
  refine tk 7 ?_
  refine wpAny_done (by kernel_rfl) ?_ _
  rw[hsum] at h5 ⊢
  have H5:=aa (show aD 0 w5 (.slice (some ⟨o,0,none⟩) M cap) (l.take i++l.drop (i+1))∧aj (fun k=>k=o) w w5 from⟨h5,⟨eN.os,eN.tape,eN.output,eN.size,fun k hk hn=>eN.block k hk (fun e=>hn (by injection e))⟩⟩)
  clear h5 eN
  obtain⟨vs,yW⟩:=dD w5 o M cap (l.take i++l.drop (i+1)) H5.out.1 1 (by omega) (by decide)
  go_wp2
  go_ret
  have hz:=Own.cleared (K:=ah) (E:=95) (B:=0) vs w5 (M*3) H5.out.1 (by rw[List.length_append,List.length_take,List.length_drop];have:=HI.out;show _*3≤_;omega)
  exact⟨rfl,hz.1,H5.out.2.trans hz.2 (fun _ _ e=>e)⟩
theorem tI (w:World) (a:Option Addr) (c:Nat) (ty:TypeId):(Builtin.clear_ #[86] ty #[.slice a 0 c]).run Tryz.prog w=.ok (.tuple #[]) w:=by
 cases a<;>simp[Builtin.clear_,run_underlying Tryz.underlying86]
section
variable {w:World} {B:Nat} {l ms:List It} {va:Option Addr} {mc:Nat}
theorem lE {g cap i j m:Nat} (h:aD B w (.slice (some ⟨g,0,none⟩) l.length cap) l) (hl:l.length≤400) (hm:m=ms.length) (hv:0<ms.length→∃vr vo,va=some ⟨vr,vo,none⟩∧aJ ah w vr vo ms∧vr≠g) (hij:i+m≤j) (hi:i<j) (hj:j<l.length):
  Calls Tryz.prog 100 #[.slice (some ⟨g,0,none⟩) l.length cap,.int .i64 i,.int .i64 j,.slice va m mc] w fun e w'=>ed B w (.slice (some ⟨g,0,none⟩) l.length cap) (l.take i++ms++l.drop j) e w':=by
 obtain⟨R,hg,yF,-,pZ,hcm,hBg⟩:=gT h
 have HH:=aa (And.intro h (And.intro hg (And.intro yF (And.intro hcm hBg))))
 have HV:=aa hv
 have HN:=aa (show i+m≤j∧j<l.length∧l.length≤cap∧m=ms.length from⟨hij,hj,pZ,hm⟩)
 obtain⟨L,hL⟩:∃L,L=l.length:=⟨_,rfl⟩
 rw[←hL] at hl hj pZ ⊢
 have HL:=aa hL
 have gz:(L:Int)≤400:=by omega
 have Q5:(i:Int)≤j:=by omega
 have Gi:(i:Int)≤L:=by omega
 have DY:(j:Int)≤L:=by omega
 have Q6:(j:Int)<L:=by omega
 have hne:((i:Int)==j)=false:=by rw[beq_eq_false_iff_ne];omega
 have Q7:((j:Int)==L)=false:=by rw[beq_eq_false_iff_ne];omega
 have vB:(L:Int)≤cap:=by omega
 have KE:¬cap=i:=by omega
 have S5:¬cap=j:=by omega
 have Ky:(m:Int)≤400:=by omega
 have Yw:¬(i:Int)+m+(L-j)>cap:=by omega
 have Yx:(0:Int)≤(i:Int)+m+(L-j):=by omega
 have Vk:(i:Int)+m+(L-j)≤cap:=by omega
 have Q8:(i:Int)+m≤j:=by omega
 have Yy:(i:Int)≤(i:Int)+m+(L-j):=by omega
 have Q9:¬cap=i+m:=by omega
 have SM:(0:Int)≤(i:Int)+m:=by omega
 have Yz:(i:Int)+m≤(i:Int)+m+((L-j:Nat):Int):=by omega
 have iw:IntKind.i64.wrap ((i:Int)+m)=(i:Int)+m:=by
  have:=bQ (i+m) (by omega)
  rwa [show ((i+m:Nat):Int)=(i:Int)+m by omega] at this
 have Qk:((i:Int)+m).toNat=i+m:=by omega
 obtain⟨Mi,H_⟩:∃Mi,Mi=ah.cells ((l.drop i).take (j-i)):=⟨_,rfl⟩
 have hmid:ah.cells l++R=ah.cells (l.take i)++(Mi++(ah.cells (l.drop j)++R)):=by
  rw[cz l i,cz (l.drop i) (j-i),←H_,List.drop_drop,show i+(j-i)=j by omega]
  simp only[List.append_assoc]
 have HC:=aa (show w.drew.heap[g]?=some (.cells (ah.cells (l.take i)++(Mi++(ah.cells (l.drop j)++R))).toArray 95 (0,0))∧(ah.cells (l.take i)).length=i*3∧Mi.length=(j-i)*3∧(ah.cells (l.drop j)).length=(L-j)*3∧cap≤maxLen∧(ah.cells (l.take i)++(Mi++(ah.cells (l.drop j)++R))).length=cap*3 from
  ⟨by rw[←hmid];exact hg,by rw[aU,List.length_take,Nat.min_eq_left (by omega)],by rw[H_,aU,List.length_take,List.length_drop,Nat.min_eq_left (by omega)],by rw[aU,List.length_drop,hL],hcm,by rw[←hmid];exact yF⟩)
 clear h hg yF hcm hBg hv hm hij hi hj hL H_ hmid
 go_enter Tryz.func100,Tryz.ntmps100
 go_wp2_with fail
 go_region
 go_wp2_with (refine cW rfl _ _ rfl _ _ _ _ _ _ rfl rfl g (i*3) _ HC.out.1 ms (by rw[←HN.out.2.2.2];exact (Nat.min_eq_left (by omega)).symm) (fun h0=>by obtain⟨vr,vo,e,hlv,_⟩:=HV.out h0;exact⟨rfl,vr,vo,e,hlv⟩) (by rw[HC.out.2.2.2.2.2,←HN.out.2.2.2];have:=HN.out;omega) ?_;intro w1 rE aQ;refine Hid.out ?_)
 refine aa ?_
 have aQ:=(aj.refl (fun k=>k=g) w).drew.trans aQ (fun _ _ h=>h)
 rw[←HC.out.2.1,dG rfl,←List.append_assoc] at rE
 obtain⟨Y,hY⟩:∃Y,Y=Mi.drop (ah.cells ms).length:=⟨_,rfl⟩
 rw[List.drop_append_of_le_length (by rw[aU,HC.out.2.2.1,←HN.out.2.2.2];have:=HN.out;omega),←hY] at rE
 have P0:Y.length+m*3=(j-i)*3:=by rw[hY,List.length_drop,aU,HC.out.2.2.1,←HN.out.2.2.2];have:=HN.out;omega
 have hml:(ah.cells ms).length=m*3:=by rw[aU,HN.out.2.2.2]
 have H1:=aa (show w1.heap[g]?=some (.cells (ah.cells (l.take i)++ah.cells ms++(Y++(ah.cells (l.drop j)++R))).toArray 95 (0,0))∧aj (fun k=>k=g) w w1∧Y.length+m*3=(j-i)*3∧(ah.cells ms).length=m*3 from⟨rE,aQ,P0,hml⟩)
 have ux:aJ ah w1 g (j*3) (l.drop j):=by
  have h1:=H1.out.1
  rw[←List.append_assoc] at h1
  have h2:=iX h1
  have e:(ah.cells (l.take i)++ah.cells ms++Y).length=j*3:=by
   rw[List.length_append,List.length_append,HC.out.2.1,hml]
   have:=HN.out
   omega
  rw[e] at h2
  exact h2
 have HD1:=aa ux
 clear rE aQ hY P0 hml ux
 go_wp2_with fail
 go_wp2_with (refine wp_region_any (by kernel_rfl) ?_;refine Hid.out ?_)
 refine aa ?_
 try (change wpAny _ _ _ _ _ _ _ (World.drew _))
 refine tk 0 ?_
 refine tk 1 ?_
 refine tk 2 ?_
 refine tk 3 ?_
 refine tk 4 ?_
 refine tk 5 ?_
 refine tk 6 ?_
 refine tk 7 ?_
 refine tk 8 ?_
 try simp only[Act.put,List.setIfInBounds_toArray,List.set_cons_succ,List.set_cons_zero]
 refine rd [9] (rn fun K hK=> ?_)
 refine dF _ _ rfl _ _ _ _ _ _ rfl rfl g ((i+m)*3) _ H1.out.1 (l.drop j) (by rw[List.length_drop,←HL.out];exact (Nat.min_self _).symm) (fun _=>⟨rfl,g,j*3,rfl,HD1.out⟩) (by have:=HC.out.2.2.2.2.2;have:=HN.out;have:=H1.out.2.2;simp only[List.length_append,List.length_drop,HC.out.2.1,HC.out.2.2.1,HC.out.2.2.2.1,H1.out.2.2.2] at*;omega) ?_;intro w2 cP aC
 refine hK _ _ ?_;clear hK K
 refine wpAny_done (by kernel_rfl) ?_ _
 have hp2:(ah.cells (l.take i)++ah.cells ms).length=(i+m)*3:=by rw[List.length_append,HC.out.2.1,H1.out.2.2.2];omega
 rw[←hp2,dG rfl] at cP
 obtain⟨R2,wm⟩:∃R2,R2=(Y++(ah.cells (l.drop j)++R)).drop (ah.cells (l.drop j)).length:=⟨_,rfl⟩
 rw[←wm] at cP
 have Ia:R2.length=Y.length+R.length:=by rw[wm];simp only[List.length_drop,List.length_append];omega
 have hcs:ah.cells (l.take i++ms++l.drop j)++R2=ah.cells (l.take i)++ah.cells ms++(ah.cells (l.drop j)++R2):=by
  rw[Elem.bh,Elem.bh]
  simp only[List.append_assoc]
 have cR:aD B w2 (.slice (some ⟨g,0,none⟩) (i+m+(L-j)) cap) (l.take i++ms++l.drop j):=dy (R:=R2) (by rw[hcs];exact cP) (by
   rw[hcs,List.length_append,hp2,List.length_append,HC.out.2.2.2.1,Ia]
   have h1:=HC.out.2.2.2.2.2
   rw[List.length_append,List.length_append,List.length_append,HC.out.2.1,HC.out.2.2.1,HC.out.2.2.2.1] at h1
   have:=H1.out.2.2.1
   have:=HN.out
   omega) (by rw[List.length_append,List.length_append,List.length_take,List.length_drop];have:=HN.out;have:=HL.out;omega) (by have:=HN.out;have:=HL.out;omega) HC.out.2.2.2.2.1 HH.out.2.2.2.2
 have H2:=aa (And.intro cR (H1.out.2.1.drew.trans aC (fun _ _ h=>h)))
 have hTt:((i:Int)+m+((L-j:Nat):Int)).toNat=i+m+(L-j):=by omega
 have hTz:(0:Int)≤(i:Int)+m+((L-j:Nat):Int):=by omega
 have hTy:(i:Int)+m+((L-j:Nat):Int)≤L:=by omega
 clear cP aC hp2 wm Ia hcs cR
 by_cases hd:i+m=j
 ·have hz:L-(i+m+(L-j))=0:=by have:=HN.out;have:=HL.out;omega
  have yW:=tI w2
  have HE:=aa (show ed B w (.slice (some ⟨g,0,none⟩) L cap) (l.take i++ms++l.drop j) (.returned (.slice (some ⟨g,0,none⟩) (i+m+(L-j)) cap)) w2 from
   ⟨_,rfl,H2.out.1,H2.out.2.mono fun k _ e=>by rw[e];rfl,.inl rfl,fun _=>rfl⟩)
  clear hd
  by_cases YA:cap=i+m+(L-j)
  ·subst YA
   go_wp2_with fail
   go_ret
   exact HE.out
  ·go_wp2_with fail
   go_ret
   exact HE.out
 ·have YA:¬cap=i+m+(L-j):=by have:=HN.out;have:=HL.out;omega
  obtain⟨vs,yW⟩:=dD w2 g (i+m+(L-j)) cap (l.take i++ms++l.drop j) (Own.mono H2.out.1 (Nat.zero_le _)) (L-(i+m+(L-j))) (by have:=HN.out;have:=HL.out;omega) (by have:=HN.out;have:=HL.out;omega)
  go_wp2_with fail
  go_ret
  have hz:=Own.cleared (K:=ah) (E:=95) (B:=B) vs w2 ((i+m+(L-j))*3) H2.out.1 (by rw[List.length_append,List.length_append,List.length_take,List.length_drop];have:=HN.out;have:=HL.out;show _*3≤_;omega)
  exact⟨_,rfl,hz.1,(H2.out.2.trans hz.2 (fun _ _ e=>e)).mono fun k _ e=>by rw[e];rfl,.inl rfl,fun _=>rfl⟩
end
section
variable {w:World} {B:Nat} {l ms:List It} {mc:Nat}
theorem oW (w:World) (a:Addr) (i cap:Nat) (h:i≤cap) (ty:TypeId):(Builtin.append_ #[86,86] ty #[.slice (some a) i cap,.slice none 0 0]).run Tryz.prog w=.ok (.slice (some a) i cap) w:=by
 obtain⟨inf,_,hi,_⟩:=sq.info
 simp[Builtin.append_,run_underlying Tryz.underlying86,sizeOf,typeInfo,hi,Builtin.lenOf,Builtin.firstCells,h,storeCells]
theorem zT {g cap i:Nat} (h:aD B w (.slice (some ⟨g,0,none⟩) l.length cap) l) (hl:l.length≤400) (hi:i<l.length):
  Calls Tryz.prog 100 #[.slice (some ⟨g,0,none⟩) l.length cap,.int .i64 i,.int .i64 l.length,.slice none 0 0] w fun e w'=>ed B w (.slice (some ⟨g,0,none⟩) l.length cap) (l.take i) e w':=by
 obtain⟨_,pZ,hcm⟩:=eZ h
 have HP:=aa (Own.upto h i (by omega))
 have HN:=aa (show i<l.length∧l.length≤cap from⟨hi,pZ⟩)
 have HR:=aa (oW w ⟨g,0,none⟩ i cap (by omega))
 obtain⟨L,hL⟩:∃L,L=l.length:=⟨_,rfl⟩
 rw[←hL] at hl hi pZ ⊢
 have HL:=aa hL
 have gz:(L:Int)≤400:=by omega
 have Gi:(i:Int)≤L:=by omega
 have Ud:((L:Int)==L)=true:=by simp
 have hne:((i:Int)==L)=false:=by rw[beq_eq_false_iff_ne];omega
 have vB:(L:Int)≤cap:=by omega
 have KE:¬cap=i:=by omega
 have G3:(0:Int)≤L:=by omega
 clear h hi hL hcm
 go_enter Tryz.func100,Tryz.ntmps100
 go_wp2_with (at_builtin;refine Hid.out ?_)
 refine aa ?_
 refine Lib.wpList_append_run _ rfl _ _ _ _ rfl _ _ rfl rfl _ _ (HR.out _) ?_
 have ng:(i:Int)<L:=by have:=HN.out;have:=HL.out;omega
 obtain⟨vs,yW⟩:=dD w g i cap (l.take i) (Own.mono HP.out (Nat.zero_le _)) (L-i) (by have:=HN.out;have:=HL.out;omega) (by have:=HN.out;have:=HL.out;omega)
 have hz:=Own.cleared (K:=ah) (E:=95) (B:=B) vs w (i*3) HP.out (by rw[List.length_take];have:=HN.out;have:=HL.out;show _*3≤_;omega)
 have HE:=aa (show ed B w (.slice (some ⟨g,0,none⟩) L cap) (l.take i) (.returned (.slice (some ⟨g,0,none⟩) i cap)) (w.setCells g (i*3) vs) from
  ⟨_,rfl,hz.1,hz.2.mono fun k _ e=>by rw[e];rfl,.inl rfl,fun _=>rfl⟩)
 clear hz
 go_wp2_with fail
 go_ret
 exact HE.out
theorem oX {g cap i m vr vo:Nat} (h:aD B w (.slice (some ⟨g,0,none⟩) l.length cap) l) (hl:l.length≤400) (hm:m=ms.length) (hv:aJ ah w vr vo ms) (hi:i<l.length) (hc:i+m≤cap):
  Calls Tryz.prog 100 #[.slice (some ⟨g,0,none⟩) l.length cap,.int .i64 i,.int .i64 l.length,.slice (some ⟨vr,vo,none⟩) m mc] w fun e w'=>ed B w (.slice (some ⟨g,0,none⟩) l.length cap) (l.take i++ms) e w':=by
 obtain⟨_,pZ,hcm⟩:=eZ h
 have HP:=aa (Own.upto h i (by omega))
 have HV:=aa hv
 have HN:=aa (show i<l.length∧l.length≤cap∧m=ms.length∧i+m≤cap from⟨hi,pZ,hm,hc⟩)
 obtain⟨L,hL⟩:∃L,L=l.length:=⟨_,rfl⟩
 rw[←hL] at hl hi pZ ⊢
 have HL:=aa hL
 have gz:(L:Int)≤400:=by omega
 have Gi:(i:Int)≤L:=by omega
 have Ud:((L:Int)==L)=true:=by simp
 have hne:((i:Int)==L)=false:=by rw[beq_eq_false_iff_ne];omega
 have vB:(L:Int)≤cap:=by omega
 have KE:¬cap=i:=by omega
 have G3:(0:Int)≤L:=by omega
 clear h hm hv hi hc hL hcm
 go_enter Tryz.func100,Tryz.ntmps100
 go_wp2_with (at_builtin;refine Hid.out ?_)
 refine aa ?_
 refine wpList_plain (by rfl) fun _ hK=>k_ _ _ rfl g i cap rfl HP.out (by rw[List.length_take];have:=HN.out;omega) vr vo m mc ms rfl HN.out.2.2.1.symm (fun _=>HV.out) HN.out.2.2.2 fun w2 cR cP=>hK _ _ ?_
 have H2:=aa (show aD B w2 (.slice (some ⟨g,0,none⟩) (i+m) cap) (l.take i++ms)∧aj (fun k=>k=g) w w2 from⟨cR,⟨cP.os,cP.tape,cP.output,cP.size,fun k hk hn=>cP.block k hk (fun e=>hn (by injection e))⟩⟩)
 clear cR cP hK
 by_cases hlt:i+m<L
 ·have ng:(i:Int)+m<L:=by omega
  have MA:¬cap=i+m:=by omega
  obtain⟨vs,yW⟩:=dD w2 g (i+m) cap (l.take i++ms) (Own.mono H2.out.1 (Nat.zero_le _)) (L-(i+m)) (by omega) (by omega)
  have hz:=Own.cleared (K:=ah) (E:=95) (B:=B) vs w2 ((i+m)*3) H2.out.1 (by rw[List.length_append,List.length_take];have:=HN.out;have:=HL.out;show _*3≤_;omega)
  have HE:=aa (show ed B w (.slice (some ⟨g,0,none⟩) L cap) (l.take i++ms) (.returned (.slice (some ⟨g,0,none⟩) (i+m) cap)) (w2.setCells g ((i+m)*3) vs) from
   ⟨_,rfl,hz.1,(H2.out.2.trans hz.2 (fun _ _ e=>e)).mono fun k _ e=>by rw[e];rfl,.inl rfl,fun _=>rfl⟩)
  clear hz
  go_wp2_with fail
  go_ret
  exact HE.out
 ·have ng:¬(i:Int)+m<L:=by omega
  have HE:=aa (show ed B w (.slice (some ⟨g,0,none⟩) L cap) (l.take i++ms) (.returned (.slice (some ⟨g,0,none⟩) (i+m) cap)) w2 from
   ⟨_,rfl,H2.out.1,H2.out.2.mono fun k _ e=>by rw[e];rfl,.inl rfl,fun _=>rfl⟩)
  go_wp2_with fail
  go_ret
  exact HE.out
theorem qb {g cap i m vr vo:Nat} (h:aD B w (.slice (some ⟨g,0,none⟩) l.length cap) l) (hl:l.length≤400) (hm:m=ms.length) (hv:aJ ah w vr vo ms) (hi:i<l.length) (hc:cap<i+m) (hB:B≤w.heap.size) (YB:m≤400):
  Calls Tryz.prog 100 #[.slice (some ⟨g,0,none⟩) l.length cap,.int .i64 i,.int .i64 l.length,.slice (some ⟨vr,vo,none⟩) m mc] w fun e w'=>ed B w (.slice (some ⟨g,0,none⟩) l.length cap) (l.take i++ms) e w':=by
 obtain⟨_,pZ,hcm⟩:=eZ h
 have HP:=aa (Own.upto h i (by omega))
 have HV:=aa hv
 have HN:=aa (show i<l.length∧l.length≤cap∧m=ms.length∧cap<i+m∧B≤w.heap.size∧m≤400 from⟨hi,pZ,hm,hc,hB,YB⟩)
 obtain⟨L,hL⟩:∃L,L=l.length:=⟨_,rfl⟩
 rw[←hL] at hl hi pZ ⊢
 have HL:=aa hL
 have gz:(L:Int)≤400:=by omega
 have Gi:(i:Int)≤L:=by omega
 have Ud:((L:Int)==L)=true:=by simp
 have hne:((i:Int)==L)=false:=by rw[beq_eq_false_iff_ne];omega
 have vB:(L:Int)≤cap:=by omega
 have KE:¬cap=i:=by omega
 have G3:(0:Int)≤L:=by omega
 clear h hm hv hi hc hL hcm hB YB
 go_enter Tryz.func100,Tryz.ntmps100
 go_wp2_with (at_builtin;refine Hid.out ?_)
 refine aa ?_
 refine bB (K:=ah) sq rfl _ _ rfl rfl HP.out HN.out.2.2.2.2.1 vr vo m mc ms rfl HN.out.2.2.1.symm HV.out (show (l.take i).length+m≤1000000000 by rw[List.length_take];have:=HN.out;omega) ?_
 intro v2 w2 cR cP gy
 obtain⟨q2,c2,rfl,vg⟩:=Own.slice cR
 have hn2:(l.take i++ms).length=i+m:=by rw[List.length_append,List.length_take];have:=HN.out;omega
 rw[hn2] at cR vg gy ⊢
 have HE:=aa (show ed B w (.slice (some ⟨g,0,none⟩) L cap) (l.take i++ms) (.returned (.slice q2 (i+m) c2)) w2 from⟨_,rfl,cR,(aj.refl _ w).grown cP (fun k e _=>e),gy,fun _=>by have:=HN.out;obtain⟨_,_,e3,_⟩:=Own.form cR (by omega);rw[e3];rfl⟩)
 clear cR cP gy hn2
 have ng:¬(i:Int)+m<L:=by have:=HN.out;have:=HL.out;omega
 go_wp2_with fail
 go_ret
 exact HE.out
end
end Go.Proofs.YtloekpcncjocaaaGreatDoor
