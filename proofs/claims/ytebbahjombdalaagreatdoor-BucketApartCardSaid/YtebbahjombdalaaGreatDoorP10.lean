/- Elder texts, cut down and merged (10). -/
import Derived.Test.YtebbahjombdalaaGreatDoorP9
import Derived.Test.YtebbahjombdalaaGreatDoorP8
import Derived.Test.YtebbahjombdalaaGreatDoorP7
import Derived.Test.YtebbahjombdalaaGreatDoorP4
import Derived.Test.YtebbahjombdalaaGreatDoorPTk
set_option maxRecDepth 100000
set_option maxHeartbeats 8000000
namespace Go.Proofs.YtebbahjombdalaaGreatDoor
open List renaming map_cons→bH,map_append→bI,length_map→aM,take_left→fF,nodup_cons→cD,mem_cons_of_mem→aF,flatten_append→dm,mem_append→ah,nodup_append→aL,mem_cons→aQ,mem_cons_self→aA,length_append→aq,length_cons→aW,mem_singleton→cH,flatten_cons→cU,setIfInBounds_toArray→az,set_cons_succ→ay,set_cons_zero→au,length_pos_iff→ej,getElem_mem→bB,append_assoc→aB
open Nat renaming le_refl→af,zero_add→bV,zero_le→aC,le_trans→aG,lt_of_lt_of_le→cW
open _root_.Array renaming length_toList→aZ
open World renaming drew→bD
section
open Go.RowKit Lib
section
variable {M M':Nat→Option NV} {pg:List (Option Wl.Text)} {k p q:Nat} {n:NV}
theorem uS (k tot:Nat):∀(is:List It) (xs:List (Tr.Tx×Tr.E k)) (s:Nat),is.map iQ=xs.map (Tr.iQ k)→eL tot s is=(Tr.cg k tot s xs).1.length
 |[],[],_,_=>rfl
 |[],_::_,_,h=>by cases h
 |_::_,[],_,h=>by cases h
 |[_],[_],_,_=>rfl
 |[_],_::_::_,_,h=>by simp at h
 |_::_::_,[_],_,h=>by simp at h
 |i::j::r,x::y::z,s,h=>by
  have h2:(j::r).map iQ=(y::z).map (Tr.iQ k):=(List.cons.inj h).2
  have h1:iQ i=Tr.iQ k x:=(List.cons.inj h).1
  have ih:=uS k tot (j::r) (y::z) (s+iQ i) h2
  unfold Tr.cg
  rw[sE]
  by_cases hs:2*s<tot
  ·grind
  ·grind
theorem A0 {R:Nat→Tr.E (k+1)→List Nat→Prop}:∀{is:List It} {xs:List (Tr.Tx×Tr.E (k+1))} {fs:List (List Nat)},aX pg k R is xs fs→is.map iQ=xs.map (Tr.iQ (k+1))
 |[],[],[],_=>rfl
 |i::is,x::xs,_::fs,h=>by
  have ih:=A0 h.2
  rw[bH,bH,ih]
  have e:iQ i=Tr.iQ (k+1) x:=by
   show 2+i.key.length+i.val.length=2+x.1.length+2
   rw[h.1.1,h.1.2.1]
  rw[e]
 |[],[],_::_,h=>h.elim
 |[],_::_,_,h=>h.elim
 |_::_,[],_,h=>h.elim
 |_::_,_::_,[],h=>h.elim
theorem EX {t:Tr.E (k+1)} {F:List Nat} (hr:dx M pg k p t F) (hn:M p=some n):n.its.map iQ=(Tr.its t).map (Tr.iQ k):=by
 cases k with
 |zero=>
  obtain⟨n',h,_,hi,_⟩:=hr
  rw[hn] at h
  cases h
  rw[hi]
  unfold ak
  rw[List.map_map]
  rfl
 |succ k=>
  obtain⟨n',fs,h,_,hk,_⟩:=hr
  rw[hn] at h
  cases h
  exact A0 hk
theorem Dt {L U:List (Tr.Tx×Tr.E k)} (h:n.its.map It.key=(L++U).map (·.1)) (hlv:n.level=k) (hL:L≠[]) (hU:U≠[]):
  between n L.length=if k=0 then Tr.cA (Tr.p4 L) (Tr.b7 U) else Tr.b7 U:=by
 obtain⟨A,a,rfl⟩:=Tr.dA hL
 cases U with
 |nil=>exact absurd rfl hU
 |cons u U=>
  have e1:((A++[a]++u::U).map (·.1)).getD (A++[a]).length []=u.1:=ff (·.1) (A++[a]) u U
  have e2:((A++[a]++u::U).map (·.1)).getD ((A++[a]).length-1) []=a.1:=by
   grind
  unfold between
  rw[h,hlv,e1,e2,Tr.p5]
  rfl
theorem Gr {R:Nat→Tr.E (k+1)→List Nat→Prop}:∀{is:List It} {xs:List (Tr.Tx×Tr.E (k+1))} {fs:List (List Nat)},aX pg k R is xs fs→aX pg k R (tv is) (Tr.bA [] xs) fs
 |[],[],[],_=>trivial
 |_::_,_::_,_::_,h=>⟨⟨rfl,h.1.2⟩,h.2⟩
 |[],[],_::_,h=>h.elim
 |[],_::_,_,h=>h.elim
 |_::_,[],_,h=>h.elim
 |_::_,_::_,[],h=>h.elim
theorem Qa {x:Tr.Tx} (h:x≠[]):iV x=some x:=by unfold iV;rw[if_neg h]
theorem uT {t:Tr.E (k+1)} {F:List Nat} {H:Nat} (hr:dx M pg k p t F) (hn:M p=some n) (hF:F.Nodup) (hq:q∉F) (hb:510<Tr.sz k (Tr.its t)) (hH:H=eL (cj n.its) 0 n.its) (hM:M'=upd (upd M p (fZ n H)) q (jd n H)):
  between n H=(Tr.part k t).key∧∃F1 F2,dx M' pg k p (Tr.part k t).low F1∧dx M' pg k q (Tr.part k t).up F2∧(F1++F2).Nodup∧∀r∈F1++F2,r∈F∨r=q:=by
 obtain⟨n',hn',ho,Rv⟩:=hr.head
 rw[hn] at hn'
 cases hn'
 have hpq:p≠q:=fun e=>hq (by rw[←e];exact Rv)
 have P:=Tr.nJ k ho.near hb
 have hz:=hr.sz hn
 have Qb:H=(Tr.cg k (Tr.sz k (Tr.its t)) 0 (Tr.its t)).1.length:=by rw[hH,hz.1];exact uS k _ _ _ _ (EX hr hn)
 have hall:=Tr.oR k (Tr.sz k (Tr.its t)) (Tr.its t) 0
 have hne:Tr.its t≠[]:=by intro e;rw[e] at hb;exact absurd hb (by simp[Tr.sz])
 have hU:=Tr.l8 k (Tr.sz k (Tr.its t)) (Tr.its t) 0 hne
 have hL:=Tr.l_ k _ (Tr.its t) rfl (fun x hx=>by have:=ho.near.2.size x hx;omega) hb
 have hkey:(Tr.part k t).key=if k=0 then Tr.cA (Tr.p4 (Tr.cg k (Tr.sz k (Tr.its t)) 0 (Tr.its t)).1) (Tr.b7 (Tr.cg k (Tr.sz k (Tr.its t)) 0 (Tr.its t)).2) else Tr.b7 (Tr.cg k (Tr.sz k (Tr.its t)) 0 (Tr.its t)).2:=rfl
 have wR:(Tr.part k t).low=Tr.mk ⟨(Tr.hd t).page,true⟩ (Tr.cg k (Tr.sz k (Tr.its t)) 0 (Tr.its t)).1:=rfl
 have wS:(Tr.part k t).up=Tr.mk ⟨none,true⟩ (if k=0 then (Tr.cg k (Tr.sz k (Tr.its t)) 0 (Tr.its t)).2 else Tr.bA [] (Tr.cg k (Tr.sz k (Tr.its t)) 0 (Tr.its t)).2):=rfl
 generalize Tr.cg k (Tr.sz k (Tr.its t)) 0 (Tr.its t)=lu at Qb hall hU hL hkey wR wS
 obtain⟨L,U⟩:=lu
 simp only at Qb hall hU hL hkey wR wS
 have hkk:=hz.2.1
 rw[←hall] at hkk
 have wy:between n H=(Tr.part k t).key:=by rw[Qb,hkey];exact Dt hkk ho.level hL hU
 have oh:between n H≠[]:=by
  rw[wy]
  intro e
  have h1:=P.low.lt
  rw[e] at h1
  have h2:Tr.lt n.lo []=true:=h1
  cases hh:n.lo<;>rw[hh] at h2<;>simp[Tr.lt] at h2
 have Z4:M' p=some (fZ n H):=by rw[hM,aO hpq,bz]
 have Z5:M' q=some (jd n H):=by rw[hM,bz]
 have hMo:∀r,r≠p→r≠q→M' r=M r:=fun r h1 h2=>by rw[hM,aO h2,aO h1]
 have ol:jU pg k (fZ n H) (Tr.part k t).low:=by
  refine⟨ho.level, ?_, ?_, ?_,fun hf=> ?_⟩
  ·rw[wR];exact ho.page
  ·rw[wR];rfl
  ·show Tr.ig k n.lo (iV (between n H)) _
   rw[Qa oh,wy];exact P.low.near
  ·simp_all
 have ou:jU pg k (jd n H) (Tr.part k t).up:=by
  refine⟨ho.level, ?_, ?_, ?_,fun hf=> ?_⟩
  ·rw[wS];rfl
  ·rw[wS];rfl
  ·show Tr.ig k (between n H) (iV n.hi) _
   rw[wy];exact P.up.near
  ·simp_all
 refine⟨wy, ?_⟩
 cases k with
 |zero=>
  obtain⟨n',h,_,hi,Z6⟩:=hr
  rw[hn] at h
  cases h
  rw[←hall] at hi
  have hi2:n.its=ak 0 L++ak 0 U:=by rw[hi];unfold ak;rw[bI]
  have hlen:(ak 0 L).length=H:=by rw[Qb];unfold ak;rw[aM]
  refine⟨[p],[q],⟨_,Z4,ol, ?_,rfl⟩,⟨_,Z5,ou, ?_,rfl⟩,by simpa using hpq,fun r hr=> ?_⟩
  ·show n.its.take H=_
   rw[hi2,wR,←hlen,fF];rfl
  ·show (if n.level=0 then n.its.drop H else tv (n.its.drop H))=_
   rw[if_pos ho.level,hi2,wS,←hlen,List.drop_left];rfl
  ·grind
 |succ k=>
  obtain⟨n',fs,h,_,hks,Z6⟩:=hr
  rw[hn] at h
  cases h
  rw[←hall] at hks
  obtain⟨i1,i2,f1,f2,hi,rfl,k1,k2⟩:=hks.parts
  subst Z6
  have hlen:i1.length=H:=by rw[Qb];exact k1.len.1
  have hnd:=cD.1 hF
  have hfr:∀r∈(f1++f2).flatten,M' r=M r:=fun r hr=>hMo r (fun e=>hnd.1 (by rw[←e];exact hr)) (fun e=>hq (by rw[←e];exact aF _ hr))
  have k1':=k1.frame fun r hr=>hfr r (by rw[dm];exact ah.2 (.inl hr))
  have k2':=k2.frame fun r hr=>hfr r (by rw[dm];exact ah.2 (.inr hr))
  have jg:=hnd.2
  have sC:=hnd.1
  rw[dm] at jg sC
  refine⟨p::f1.flatten,q::f2.flatten,⟨_,f1,Z4,ol, ?_,rfl⟩,⟨_,f2,Z5,ou, ?_,rfl⟩, ?_,fun r hr=> ?_⟩
  ·show aX pg k _ (n.its.take H) _ _
   rw[hi,←hlen,fF,wR]
   exact k1'
  ·show aX pg k _ (if n.level=0 then n.its.drop H else tv (n.its.drop H)) _ _
   rw[if_neg (by rw[ho.level];omega),hi,←hlen,List.drop_left,wS]
   exact Gr k2'
  ·have Ni:q∉f1.flatten++f2.flatten:=fun e=>hq (aF _ (by rw[dm];exact e))
   have hd:=aL.1 jg
   refine aL.2 ⟨cD.2 ⟨fun e=>sC (ah.2 (.inl e)),hd.1⟩,cD.2 ⟨fun e=>Ni (ah.2 (.inr e)),hd.2.1⟩,fun r hr s hs e=> ?_⟩
   subst e
   rcases aQ.1 hr with hr|hr
   ·rcases aQ.1 hs with hs|hs
    ·exact hpq (hr.symm.trans hs)
    ·rw[hr] at hs;exact sC (ah.2 (.inr hs))
   ·rcases aQ.1 hs with hs|hs
    ·rw[hs] at hr;exact Ni (ah.2 (.inl hr))
    ·exact hd.2.2 r hr r hs rfl
  ·rw[dm]
   rcases ah.1 hr with hr|hr
   ·rcases aQ.1 hr with hr|hr
    ·left;rw[hr];exact aA
    ·exact .inl (aF _ (ah.2 (.inl hr)))
   ·rcases aQ.1 hr with hr|hr
    ·exact .inr hr
    ·exact .inl (aF _ (ah.2 (.inr hr)))
end
section
variable {E:Ev} {X0 X X':World} {R0 R R' S:Nat→Prop} {ps ps':List (Nat×List UInt8)} {pg cP:List (Option Wl.Text)} {rt rt':List Nat} {M M':Nat→Option NV} {p q:Nat} {n m:NV}
structure za (E:Ev) (X0:World) (R0 R:Nat→Prop) (ps:List (Nat×List UInt8)) (pg:List (Option Wl.Text)) (rt:List Nat) (M:Nat→Option NV) (X:World) (p:Nat) (n:NV) (k:Nat) (I1:List It) (i:It) (I2:List It) (A:List (Tr.Tx×Tr.E (k+1))) (c:Tr.E (k+1)) (B:List (Tr.Tx×Tr.E (k+1))) (f1 f2:List (List Nat)) (f:List Nat) (q:Nat) (M':Nat→Option NV) (R':Nat→Prop) (fq:List Nat) (X':World):Prop where
 ts:TS E X0 R0 R' ps pg rt M' X'
 at_:M' p=some {n with its:=I1++{i with node:=some q}::I2}
 xQ:dx M' pg k q c fq
 left:aX pg k (dx M' pg k) I1 A f1
 right:aX pg k (dx M' pg k) I2 B f2
 same:∀r m,r≠p→M r=some m→M' r=some m
 news:∀r∈fq,r∈f∨X.heap.size≤r
 nd:fq.Nodup
 size:X.heap.size≤X'.heap.size
 but:aE (fun b=>b=n.rg) X X'
 sub:∀b,R b→R' b
 new:∀b,R' b→R b∨X.heap.size≤b
 mb:∀b,MB M' b→MB M b∨X.heap.size≤b
theorem Gs {k:Nat} {t:Tr.E (k+2)} {I1 I2:List It} {i:It} {A B:List (Tr.Tx×Tr.E (k+1))} {key:Tr.Tx} {c:Tr.E (k+1)} {f1 f2:List (List Nat)} {f:List Nat}
  (h:TS E X0 R0 R ps pg rt M X) (hp:M p=some n) (ho:jU pg (k+1) n t) (hi:n.its=I1++i::I2) (ht:Tr.its t=A++(key,c)::B) (h1:aX pg k (dx M pg k) I1 A f1) (h0:iW pg k (dx M pg k) i (key,c) f) (h2:aX pg k (dx M pg k) I2 B f2) (hnd:(p::(f1++f::f2).flatten).Nodup) (hk:k≤15):
  Calls Tryz.prog 79 #[ptr E.tb,ptr p,.int .i64 A.length] X fun e X'=>∃q M' R' fq,e=.returned (.tuple #[ptr q,.int .i64 0])∧za E X0 R0 R ps pg rt M X p n k I1 i I2 A c B f1 f2 f q M' R' fq X':=by
 have xz:=h1.len.1
 have hj:A.length<n.its.length:=by rw[hi,aq,xz,aW];omega
 have jf:n.its[A.length]=i:=by
  grind
 have sC:p∉(f1++f::f2).flatten:=(cD.1 hnd).1
 have EY:(f1++f::f2).flatten.Nodup:=(cD.1 hnd).2
 obtain⟨hik,hiv,Du⟩:=h0
 rcases Du with⟨hnone,hfe,hval,hst⟩|⟨q,hq,hr⟩
 ·obtain⟨⟨page,cy,ot,wP⟩,hfr,qp⟩:=hst
  have iX:=lB ho.near ht (by
   have hh:aX pg k (dx M pg k) n.its (Tr.its t) (f1++f::f2):=by
    rw[hi,ht]
    exact h1.append ⟨⟨hik,hiv,.inl ⟨hnone,hfe,hval,⟨⟨page,cy,ot,wP⟩,hfr,qp⟩⟩⟩,h2⟩
   exact hh.keys)
  have lC:=gL hk ⟨⟨page,cy,ot,wP⟩,hfr,qp⟩ cy iX
  have hv:n.its[A.length].val=pv page:=by
   rw[jf,hval]
   show pv ((Tr.hd c).page.getD 0)=_
   rw[cy];rfl
  refine (rJ h hp A.length hj (by rw[jf];exact hnone) page ot hv k ho.level (ak k (Tr.its c)) lC).mono ?_
  rintro e X' ⟨q,rg,cap,R',rfl,hts,Ni,Nj,jG,hR,Cq⟩
  have ow:n.its.set A.length {(n.its.getD A.length ⟨[],[],none⟩) with node:=some q}=I1++{i with node:=some q}::I2:=by
   grind
  rw[ow] at hts
  obtain⟨M',zb⟩:∃M',M'=upd (upd M q (NV.got k (ak k (Tr.its c)) rg cap page (eF n A.length) (dW n A.length))) p {n with its:=I1++{i with node:=some q}::I2}:=⟨_,rfl⟩
  rw[←zb] at hts
  have dH:=(h.mem.lt hp).1
  have hpq:q≠p:=by omega
  have hsame:∀r m,r≠p→M r=some m→M' r=some m:=by
   intro r m hr hm
   have xJ:r≠q:=by have:=(h.mem.lt hm).1;omega
   rw[zb,aO hr,aO xJ]
   exact hm
  have Tw:∀{fs:List (List Nat)},(∀r∈fs.flatten,r∈(f1++f::f2).flatten∧∃m,M r=some m)→∀r∈fs.flatten,M' r=M r:=by
   grind
  refine⟨q,M',R',[q],rfl,⟨hts,by rw[zb,bz], ?_, ?_, ?_,hsame,fun r hr=>by rw[cH.1 hr];exact .inr Ni,by simp, ?_,jG,hR,Cq, ?_⟩⟩
  ·exact EW ⟨⟨page,cy,ot,wP⟩,hfr,qp⟩ cy iX (by rw[zb,aO hpq,bz])
  ·exact h1.frame (Tw fun r hr=>⟨by rw[dm];exact ah.2 (.inl hr),h1.dom r hr⟩)
  ·exact h2.frame (Tw fun r hr=>⟨by rw[dm,cU];exact ah.2 (.inr (ah.2 (.inr hr))),h2.dom r hr⟩)
  ·exact jG.size
  ·rintro b ⟨r,m,hr,hb⟩
   rw[zb] at hr
   rcases aI hr with⟨rfl,rfl⟩|⟨_,hr⟩
   ·exact .inl ⟨_,n,hp,hb⟩
   ·rcases aI hr with⟨rfl,rfl⟩|⟨_,hr⟩
    ·right
     rcases hb with rfl|rfl
     ·exact Ni
     ·exact Nj
    ·exact .inl ⟨r,m,hr,hb⟩
 ·refine (sG h hp A.length hj (by rw[jf];exact hq)).mono ?_
  rintro e X' ⟨rfl,rfl⟩
  have hi':{i with node:=some q}=i:=by cases i;simp only at hq;subst hq;rfl
  refine⟨q,M,R,f,rfl,⟨h, ?_,hr,h1,h2,fun _ _ _ h=>h,fun r hr=>.inl hr, ?_,af _,aE.refl _ _,fun _ h=>h,fun _ h=>.inl h,fun _ h=>.inl h⟩⟩
  ·rw[hi',←hi];exact hp
  ·rw[dm,cU] at EY
   exact (aL.1 (aL.1 EY).2.1).1
end
theorem rM (w:World) (k:Nat) (h0:0<k) (h:k≤1000000) (ty:TypeId):
  ∃(c:Nat) (Z:List Value),(Builtin.append_ #[123,3] ty #[.slice none 0 0,.int .i64 k]).run Tryz.prog w=.ok (.slice (some ⟨w.heap.size,0,none⟩) k c) (w.drew.alloc (.cells Z.toArray 122))∧k≤c∧c≤maxLen∧Z.length=c*3:=by
 obtain⟨inf,hi,hz,hsz,hby⟩:=jZ (P:=Tryz.prog) (E:=122) (size:=3) (bytes:=40) (z:=.agg #[.string .empty,.string .empty,.pointer none]) (by kernel_rfl)
 have hold:(Builtin.firstCells inf.size 0 (.slice none 0 0)).run Tryz.prog w.drew=.ok ([]:List Value).toArray w.drew:=by simp[Builtin.firstCells]
 have hrun:=Lib.run_append_grow_zeros (P:=Tryz.prog) w 123 3 ty 122 inf _ .i64 .i64 Tryz.underlying123 (by kernel_rfl) hi hz none 0 0 [] hold k h0 (by omega) (by omega) (by omega) (by rw[hby];omega) (growslice_fits (by omega) (by rw[hby];omega))
 have hge:=grownCap_ge w (0+k) 0 122
 have h3:(Value.agg #[.string .empty,.string .empty,.pointer none]).cells.size=3:=rfl
 have hA:=gV (Value.agg #[.string .empty,.string .empty,.pointer none]).cells k
 have hB:=gV (Value.agg #[.string .empty,.string .empty,.pointer none]).cells (grownCap w (0+k) 0 122-(0+k))
 generalize Builtin.zeroCells (Value.agg #[.string .empty,.string .empty,.pointer none]).cells k=A at*
 generalize Builtin.zeroCells (Value.agg #[.string .empty,.string .empty,.pointer none]).cells (grownCap w (0+k) 0 122-(0+k))=Bz at*
 have e:([]:List Value).toArray++A++Bz=((A++Bz).toList).toArray:=by
  grind
 rw[e,bV] at hrun
 rw[bV] at hge hB
 refine⟨_,(A++Bz).toList,hrun,hge,grownCap_le_maxLen _ _ _ _ (by unfold maxLen;omega), ?_⟩
 rw[aZ,Array.size_append,hA,hB,h3]
 omega
theorem Dv (w:World) (k:Nat) (h0:0<k) (h:k≤1000000):
  Calls Tryz.prog 223 #[.slice none 0 0,.int .i64 k] w fun e w'=>∃g c,e=.returned (.slice (some ⟨g,0,none⟩) 0 c)∧aR w.heap.size w' (.slice (some ⟨g,0,none⟩) 0 c) []∧Below w.heap.size w w':=by
 obtain⟨c,Z,hrun,hc1,hc2,LW⟩:=rM w k h0 h 123
 have HR:=aa hrun
 have HC:=aa (And.intro hc1 (And.intro hc2 LW))
 have s9:(0:Int)<k:=by omega
 have aaz:(k:Int)≤1000000:=by omega
 have Cm:(0:Int)≤c:=by omega
 clear hrun hc1 hc2 LW h0 h
 go_enter Tryz.func223,Tryz.ntmps223
 go_wp2_with (at_builtin;refine Hid.o ?_)
 refine aa ?_
 refine Lib.wpList_append_run _ rfl _ _ _ _ rfl _ _ rfl rfl _ _ HR.o ?_
 have HE:=aa (show aR w.heap.size (w.drew.alloc (.cells Z.toArray 122)) (.slice (some ⟨w.heap.size,0,none⟩) 0 c) []∧Below w.heap.size w (w.drew.alloc (.cells Z.toArray 122)) from
  ⟨eX (l:=[]) (R:=Z) (by exact heap_alloc_new w.drew _) (by exact HC.o.2.2) rfl (aC _) HC.o.2.1 (af _),(Below.refl _ w).drew.alloc (af _) _⟩)
 go_wp2
 go_ret
 exact⟨_,c,rfl,HE.o.1,HE.o.2⟩
def J5 (w:World) (l:List It) (e:Ending) (w':World):Prop:=∃v,e=.returned v∧aR w.heap.size w' v l∧Below w.heap.size w w'
theorem zc (w:World) (a g1 o1 c1 g2 o2 c2:Nat) (l m:List It) (ha:aS w a 123 [.slice (some ⟨g1,o1,none⟩) l.length c1,.slice (some ⟨g2,o2,none⟩) m.length c2]) (h1:a_ aj w g1 o1 l) (h2:a_ aj w g2 o2 m) (hl:l.length≤400) (hm:m.length≤400) (hpos:0<l.length+m.length):
  Calls Tryz.prog 208 #[.slice (some ⟨a,0,none⟩) 2 2] w fun e w'=>J5 w (l++m) e w':=by
 have iY:(l.length:Int)≤400:=by omega
 have MU:(m.length:Int)≤400:=by omega
 have b0:=ha.cell (j:=0) rfl
 have b1:=ha.cell (j:=1) rfl
 have HH:=aa (And.intro ha (And.intro h1 h2))
 have HC:=aa (Dv w (l.length+m.length) hpos (by omega))
 have Z7:=aa (And.intro hl hm)
 obtain⟨L,hL⟩:∃L,L=l.length:=⟨_,rfl⟩
 obtain⟨M,hM⟩:∃M,M=m.length:=⟨_,rfl⟩
 rw[←hL] at b0 iY
 rw[←hM] at b1 MU
 rw[←hL,←hM] at HC
 have HL:=aa (And.intro hL hM)
 clear ha h1 h2 hl hm hpos hL hM
 go_enter Tryz.func208,Tryz.ntmps208
 go_wp2
 go_loopw [3,11] (fun sv iv wr=>∃j s:Nat,iv=.int .i64 j∧sv=.int .i64 s∧Hid (j=0∧0=s∨j=1∧L=s∨j=2∧L+M=s)∧w=wr) (fun _ iv _=>2-(RowKit.intOf iv).toNat)
 case atStart=>exact⟨0,0,rfl,rfl,aa (.inl ⟨rfl,rfl⟩),rfl⟩
 case round=>
  obtain⟨j,s,rfl,rfl,hj,rfl⟩:=hrel
  rcases hj.o with⟨rfl,rfl⟩|⟨rfl,rfl⟩|⟨rfl,rfl⟩
  ·go_wp2
   go_roundw
   case rel=>exact⟨1,L,by go_num,by go_num,aa (.inr (.inl ⟨rfl,rfl⟩)),trivial⟩
   case measure=>simp[RowKit.intOf]
  ·have h0:(0:Int)≤(L:Int)+M:=by omega
   go_wp2
   go_roundw
   case rel=>exact⟨2,L+M,by go_num,by go_num,aa (.inr (.inr ⟨rfl,rfl⟩)),trivial⟩
   case measure=>simp[RowKit.intOf]
  ·go_wp2_with fail
   refine HC.o.mono ?_
   rintro e w1 ⟨g,c,rfl,ho,hb⟩
   have H1:=aa (And.intro ho hb)
   have d0:=(hb.cell (p:=⟨a,0,none⟩) HH.o.1.lt).trans b0
   have d1:=(hb.cell (p:=⟨a,1,none⟩) HH.o.1.lt).trans b1
   clear ho hb b0 b1
   go_wp2
   go_loopw [6,27] (fun sv iv wr=>∃j:Nat,iv=.int .i64 j∧∃(q:Option Addr) (nn cc:Nat) (p:List It),sv=.slice q nn cc∧Hid (j=0∧p=[]∨j=1∧p=l∨j=2∧p=l++m)∧Hid (aR w.heap.size wr (.slice q nn cc) p)∧Hid (Below w.heap.size w wr)) (fun _ iv _=>2-(RowKit.intOf iv).toNat)
   case atStart=>exact⟨0,rfl,_,_,_,[],rfl,aa (.inl ⟨rfl,rfl⟩),aa H1.o.1,aa H1.o.2⟩
   case round=>
    obtain⟨j,rfl,q,nn,cc,p,rfl,hj,hO,hB⟩:=hrel
    have f0:=(hB.o.cell (p:=⟨a,0,none⟩) HH.o.1.lt).trans (HH.o.1.cell (j:=0) rfl)
    have f1:=(hB.o.cell (p:=⟨a,1,none⟩) HH.o.1.lt).trans (HH.o.1.cell (j:=1) rfl)
    rw[←HL.o.1] at f0
    rw[←HL.o.2] at f1
    rcases hj.o with⟨rfl,hp⟩|⟨rfl,hp⟩|⟨rfl,hp⟩
    ·rw[hp] at hO
     clear hp hj
     have Gt:a_ aj wr g1 o1 l:=dZ HH.o.2.1 hB.o
     go_wp2_with (refine lR (K:=aj) uf rfl _ _ rfl rfl hO.o hB.o.size g1 o1 L c1 l rfl HL.o.1.symm Gt (show ([]:List It).length+L≤1000000000 by have:=Z7.o;have:=HL.o;simp only[List.length_nil];omega) ?_;intro v2 w2 fD fK;refine Hid.o ?_)
     refine aa ?_
     have p9:=aa (hB.o.grown fK hB.o.size fun k e=>(Own.block hO.o k e).1)
     obtain⟨q2,c2',Iz,Qc⟩:=Own.slice fD
     subst Iz
     have Rg:=aa fD
     clear fD fK Qc
     go_wp2
     go_roundw
     case rel=>exact⟨1,by go_num,_,_,_,l,rfl,aa (.inr (.inl ⟨rfl,rfl⟩)),Rg,p9⟩
     case measure=>simp[RowKit.intOf]
    ·rw[hp] at hO
     clear hp hj
     have Gt:a_ aj wr g2 o2 m:=dZ HH.o.2.2 hB.o
     go_wp2_with (refine lR (K:=aj) uf rfl _ _ rfl rfl hO.o hB.o.size g2 o2 M c2 m rfl HL.o.2.symm Gt (show l.length+M≤1000000000 by have:=Z7.o;have:=HL.o;omega) ?_;intro v2 w2 fD fK;refine Hid.o ?_)
     refine aa ?_
     have p9:=aa (hB.o.grown fK hB.o.size fun k e=>(Own.block hO.o k e).1)
     obtain⟨q2,c2',Iz,Qc⟩:=Own.slice fD
     subst Iz
     have Rg:=aa fD
     clear fD fK Qc
     go_wp2
     go_roundw
     case rel=>exact⟨2,by go_num,_,_,_,l++m,rfl,aa (.inr (.inr ⟨rfl,rfl⟩)),Rg,p9⟩
     case measure=>simp[RowKit.intOf]
    ·rw[hp] at hO
     clear hp hj
     have HE:=aa (show J5 w (l++m) (.returned (.slice q nn cc)) wr from⟨_,rfl,hO.o,hB.o⟩)
     go_wp2
     go_ret
     exact HE.o
section
variable {E:Ev} {X0 X X':World} {R0 R R' S:Nat→Prop} {ps ps':List (Nat×List UInt8)} {pg cP:List (Option Wl.Text)} {rt rt':List Nat} {M M':Nat→Option NV} {p q:Nat} {n m:NV}
theorem Mem.renew (h:Mem X M) (hp:M p=some n) (n':NV) (hb:aE S X X') (hS:∀k,S k→k=p∨(k=n.rg∧n.own=true)) (hn:Nd X' p n') (hro:n'.ro=0) (hown:aR 0 X' (.slice (some ⟨n'.rg,0,none⟩) n'.its.length n'.cap) n'.its) (hr:(n'.rg=n.rg∧n.own=true)∨X.heap.size≤n'.rg):Mem X' (upd M p n'):=by
 have ze:∀r m,r≠p→M r=some m→¬S r∧¬S m.rg:=by
  intro r m hr hm
  refine⟨fun hs=> ?_,fun hs=> ?_⟩
  ·rcases hS r hs with e|⟨e,_⟩
   ·exact hr e
   ·exact h.Dg hp hm e.symm
  ·rcases hS m.rg hs with e|⟨e,ho⟩
   ·exact h.Dg hm hp e
   ·rcases h.apart r p m n hm hp hr with e2|⟨_,e2,_⟩
    ·exact e2 e
    ·rw[ho] at e2;cases e2
 refine⟨fun r m hr=> ?_,fun r m hr=> ?_,fun r r' m m' lS jS hne=> ?_,fun r m hr ho=> ?_⟩
 ·rcases aI hr with⟨rfl,rfl⟩|⟨hne,LZ⟩
  ·exact hn
  ·exact (h.nd r m LZ).but hb (ze r m hne LZ).1 (ze r m hne LZ).2
 ·rcases aI hr with⟨rfl,rfl⟩|⟨hne,LZ⟩
  ·exact aR.ty hown
  ·obtain⟨cur,hc⟩:=h.ty r m LZ
   exact⟨cur,by rw[hb.block m.rg (h.lt LZ).2 (ze r m hne LZ).2];exact hc⟩
 ·have hap:∀r m,r≠p→M r=some m→n'.rg≠m.rg:=by
   intro r m hr hm
   rcases hr':hr with _
   rcases ‹(n'.rg=n.rg∧n.own=true)∨X.heap.size≤n'.rg› with⟨e,ho⟩|e
   ·rw[e]
    rcases h.apart p r n m hp hm (fun e=>hr e.symm) with e2|⟨e2,_⟩
    ·exact e2
    ·rw[ho] at e2;cases e2
   ·have:=(h.lt hm).2;omega
  rcases aI lS with⟨rfl,rfl⟩|⟨S1,hM1⟩
  ·grind [aI]
  ·rcases aI jS with⟨rfl,rfl⟩|⟨ur,hM2⟩
   ·grind
   ·exact h.apart r r' m m' hM1 hM2 hne
 ·rcases aI hr with⟨rfl,rfl⟩|⟨hne,LZ⟩
  ·exact⟨hro,hown⟩
  ·obtain⟨h1,h2⟩:=h.own r m LZ ho
   refine⟨h1,Own.but h2 hb fun k hk=> ?_⟩
   have e:some m.rg=some k:=hk
   injection e with e
   rw[←e];exact (ze r m hne LZ).2
def Dom (M M':Nat→Option NV):Prop:=∀r y,M r=some y→∃y',M' r=some y'
theorem Dom.refl (M:Nat→Option NV):Dom M M:=fun _ y h=>⟨y,h⟩
theorem Dom.trans {M M1 M2:Nat→Option NV} (h:Dom M M1) (h':Dom M1 M2):Dom M M2:=fun r y hy=>by
 obtain⟨y1,h1⟩:=h r y hy
 exact h' r y1 h1
theorem Dom.upd (M:Nat→Option NV) (p:Nat) (n:NV):Dom M (upd M p n):=fun r y hy=>by
 by_cases e:r=p
 ·simp_all[bz]
 ·simp_all[aO]
theorem Dom.but {M M':Nat→Option NV} {p:Nat} {n:NV} (hp:M' p=some n) (h:∀r m,r≠p→M r=some m→M' r=some m):Dom M M':=fun r y hy=>by
 by_cases e:r=p
 ·subst e;exact⟨n,hp⟩
 ·exact⟨y,h r y e hy⟩
structure SS (E:Ev) (X0:World) (R0 R:Nat→Prop) (ps:List (Nat×List UInt8)) (pg:List (Option Wl.Text)) (rt:List Nat) (M:Nat→Option NV) (X:World) (sb:Nat) (sv:Value) (l:List Int):Prop where
 ts:TS E X0 R0 R ps pg rt M X
 blk:aS X sb 169 [ptr E.tb,sv]
 sp:mZ 0 X sv l
 tF:R sb∧X0.heap.size≤sb∧¬MB M sb
 Nk:∀k,sv.ownBlock=some k→R k∧X0.heap.size≤k∧¬MB M k
variable {sb:Nat} {sv:Value} {l:List Int}
theorem SS.still (h:SS E X0 R0 R ps pg rt M X sb sv l) (hb:Below X.heap.size X X'):SS E X0 R0 R ps pg rt M X' sb sv l:=
 ⟨h.ts.still hb (fun _ h=>h) (fun _ h=>.inl h),h.blk.below hb h.blk.lt,Own.below h.sp hb (af _),h.tF,h.Nk⟩
theorem SS.nodes (h:SS E X0 R0 R ps pg rt M X sb sv l) (ht:TS E X0 R0 R' ps pg rt M' X') (hb:aE S X X') (hS:∀k,S k→MB M k) (hR:∀k,R k→R' k) (hm:∀k,MB M' k→MB M k∨X.heap.size≤k):SS E X0 R0 R' ps pg rt M' X' sb sv l:=by
 have hsb:=h.blk.lt
 have hsp:=Own.block h.sp
 refine⟨ht,h.blk.but hb fun hs=>h.tF.2.2 (hS _ hs),Own.but h.sp hb fun k hk hs=>(h.Nk k hk).2.2 (hS _ hs),⟨hR _ h.tF.1,h.tF.2.1,fun hk=> ?_⟩,fun k hk=>⟨hR _ (h.Nk k hk).1,(h.Nk k hk).2.1,fun hk2=> ?_⟩⟩
 ·rcases hm _ hk with hk|hk
  ·exact h.tF.2.2 hk
  ·omega
 ·rcases hm _ hk2 with hk2|hk2
  ·exact (h.Nk k hk).2.2 hk2
  ·grind
theorem SS.left (h:SS E X0 R0 R ps pg rt M X sb sv l) {x:Int} {e:Ending} (hl:jD X sb E.tb sv (l++[x]) e X'):∃eC R',SS E X0 R0 R' ps pg rt M X' sb eC (l++[x])∧(∀k,R k→R' k)∧(∀k,R' k→R k∨X.heap.size≤k)∧aE (fun k=>k=sb∨sv.ownBlock=some k) X X'∧(∀k,eC.ownBlock=some k→sv.ownBlock=some k∨X.heap.size≤k):=by
 obtain⟨_,eC,h1,h2,h3,h4⟩:=hl
 have hS:∀k,(k=sb∨sv.ownBlock=some k)→R k∧X0.heap.size≤k∧¬MB M k:=by
  intro k hk
  rcases hk with rfl|hk
  ·exact h.tF
  ·exact h.Nk k hk
 have hmem:=h.ts.mem.keep h3 fun k hk hs=>(hS k hs).2.2 hk
 have hlt:=Own.block h2
 have Ty:=Own.block h.sp
 refine⟨eC,fun k=>R k∨(eC.ownBlock=some k),⟨h.ts.own h3 (fun k _ hs=>⟨(hS k hs).1,(hS k hs).2.1⟩) hmem (fun k hk=>⟨.inl (h.ts.jR k hk).1,(h.ts.jR k hk).2⟩) (fun k hk=>.inl hk) (fun k hk=> ?_),h1,h2,⟨.inl h.tF.1,h.tF.2⟩,fun k hk=>⟨.inr hk, ?_⟩⟩,fun k hk=>.inl hk,fun k hk=> ?_,h3,fun k hk=> ?_⟩
 ·grind
 ·rcases h4 with h4|h4
  ·grind
  ·refine⟨aG h.ts.but.size (h4 k hk),fun hm=> ?_⟩
   have:=h.ts.mem.lg hm
   have:=h4 k hk
   omega
 ·grind
 ·grind
end
namespace Tr
theorem Ok.mix:∀{k:Nat} {Vs Xh:Tx} {h1 h2:Option Tx} {n:E (k+1)},Ok (k+1) Vs h1 n→Ok (k+1) Xh h2 n→Ok (k+1) Vs h2 n
 |0,_,_,_,_,_,o1,o2=>⟨o1.1,o1.2.1,o1.2.2.1,o2.2.2.2⟩
 |k+1,Vs,Xh,h1,h2,n,o1,o2=>by
  obtain⟨a1,a2,a3,a4⟩:=o1
  obtain⟨_,_,_,b4⟩:=o2
  refine⟨a1,a2,a3, ?_⟩
  rw[dr] at a4 b4 ⊢
  cases hi:its n with
  |nil=>trivial
  |cons a r=>
   rw[hi] at a4 b4
   cases r with
   |nil=>exact Ok.mix (show Ok (k+1) Vs h1 a.2 from a4) (show Ok (k+1) Xh h2 a.2 from b4)
   |cons b r=>exact⟨a4.1,a4.2.1,b4.2.2⟩
end Tr
section
variable {E:Ev} {X0 X X':World} {R0 R R' S:Nat→Prop} {ps ps':List (Nat×List UInt8)} {pg cP:List (Option Wl.Text)} {rt rt':List Nat} {M M':Nat→Option NV} {p q:Nat} {n m:NV} {sb:Nat} {sv:Value} {l:List Int}
def NV.kg (n:NV) (its:List It) (g c:Nat) (hi:List UInt8):NV:=⟨n.level,its,g,0,c,n.page,n.lo,hi,n.was,n.at_,true,true⟩
theorem SS.row (h:SS E X0 R0 R ps pg rt M X sb sv l) (hp:M p=some n) {X7 X9:World} (hb:Below X.heap.size X X7) {its:List It} {g c:Nat} {hi:List UInt8} {hh:ByteArray} (hhi:bs hi=hh) (ho:aR X.heap.size X7 (.slice (some ⟨g,0,none⟩) its.length c) its) (hl:its.length≤400) (he:∀i∈its,i.key.length≤200∧i.val.length≤200)
  {L:Nat} (hL:L=its.length) (hX:X9=((X7.setCell ⟨p,1,none⟩ (.slice (some ⟨g,0,none⟩) L c)).setCell ⟨p,4,none⟩ (.string hh)).setCell ⟨p,7,none⟩ (.bool true)):
  ∃R',SS E X0 R0 R' ps pg rt (upd M p (n.kg its g c hi)) X9 sb sv l∧(∀k,R k→R' k)∧(∀k,R' k→R k∨X.heap.size≤k)∧aE (fun k=>k=p) X X9∧∀k,MB (upd M p (n.kg its g c hi)) k→MB M k∨X.heap.size≤k:=by
 subst hL
 have hS7:=h.still hb
 have Vt:X.heap.size≤g∧g<X7.heap.size:=Own.block ho g rfl
 have dH:=h.ts.mem.lt hp
 have LV:g≠p:=by omega
 have k_:aE (fun k=>k=p) X7 X9:=by
  rw[hX]
  exact (((aE.refl (fun k=>k=p) X7).setCell _ _ fun _=>rfl).setCell _ _ fun _=>rfl).setCell _ _ fun _=>rfl
 have how:aR 0 X9 (.slice (some ⟨g,0,none⟩) its.length c) its:=Own.but (Own.mono ho (aC _)) k_ fun k hk e=>LV (by have e2:some g=some k:=hk;injection e2 with e2;rw[e2,e])
 have hcap:=gQ ho
 have Qd:=hS7.ts.mem.nd p n hp
 have hnd:Nd X9 p (n.kg its g c hi):=by
  refine⟨?_,Own.lies how,⟨hl,he,hcap.2.1,hcap.2.2⟩⟩
  rw[hX,←hhi]
  exact ((Qd.blk.set 1 _).set 4 _).set 7 _
 have oZ:aE (fun k=>k=p) X X9:=(aE.aH hb (fun k=>k=p)).trans k_ fun _ _ h=>h
 have hmem:Mem X9 (upd M p (n.kg its g c hi)):=h.ts.mem.renew hp _ oZ (fun k hk=>.inl hk) hnd rfl how (.inr Vt.1)
 have hmb:∀k,MB (upd M p (n.kg its g c hi)) k→MB M k∨k=g:=by
  rintro k ⟨r,m,hr,hk⟩
  rcases aI hr with⟨rfl,rfl⟩|⟨_,hr⟩
  ·rcases hk with rfl|rfl
   ·exact .inl ⟨_,n,hp,.inl rfl⟩
   ·exact .inr rfl
  ·exact .inl ⟨r,m,hr,hk⟩
 have hsz:X.heap.size≤X0.heap.size∨X0.heap.size≤X.heap.size:=Nat.le_total _ _
 have hts:TS E X0 R0 (fun k=>R k∨k=g) ps pg rt (upd M p (n.kg its g c hi)) X9:=by
  refine h.ts.own oZ (fun k _ e=> ?_) hmem (fun k hk=> ?_) (fun _ h=>.inl h) (fun k hk=> ?_)
  ·rw[e];exact h.ts.jR p ⟨p,n,hp,.inl rfl⟩
  ·rcases hmb k hk with hk|rfl
   ·exact⟨.inl (h.ts.jR k hk).1,(h.ts.jR k hk).2⟩
   ·exact⟨.inr rfl,aG h.ts.but.size Vt.1⟩
  ·rcases hk with hk|rfl
   ·exact .inl hk
   ·simp_all
 refine⟨fun k=>R k∨k=g,h.nodes hts oZ (fun k e=>by rw[e];exact⟨p,n,hp,.inl rfl⟩) (fun _ h=>.inl h) (fun k hk=> ?_),fun _ h=>.inl h,fun k hk=> ?_,oZ,fun k hk=> ?_⟩
 ·rcases hmb k hk with hk|rfl
  ·exact .inl hk
  ·exact .inr Vt.1
 ·grind
 ·rcases hmb k hk with hk|rfl
  ·exact .inl hk
  ·exact .inr Vt.1
end
section
variable {E:Ev} {X0 X X':World} {R0 R R' S:Nat→Prop} {ps ps':List (Nat×List UInt8)} {pg cP:List (Option Wl.Text)} {rt rt':List Nat} {M M':Nat→Option NV} {p q:Nat} {n m:NV} {sb:Nat} {sv:Value} {l:List Int}
def Gu (E:Ev) (X0:World) (R0 R:Nat→Prop) (ps:List (Nat×List UInt8)) (pg:List (Option Wl.Text)) (rt:List Nat) (M:Nat→Option NV) (X:World) (sb:Nat) (sv:Value) (M':Nat→Option NV) (l':List Int) (X':World):Prop:=
 ∃R' eC,SS E X0 R0 R' ps pg rt M' X' sb eC l'∧(∀k,R k→R' k)∧(∀k,R' k→R k∨X.heap.size≤k)∧aE (fun k=>k=sb∨sv.ownBlock=some k∨MB M k) X X'∧(∀k,MB M' k→MB M k∨X.heap.size≤k)∧(∀k,eC.ownBlock=some k→sv.ownBlock=some k∨X.heap.size≤k)∧Dom M M'
theorem qt {W W9 W10:World} {n':NV} {R9:Nat→Prop} (_:SS E X0 R0 R ps pg rt M W sb sv l) (h9:SS E X0 R0 R9 ps pg rt (upd M p n') W9 sb sv l∧(∀k,R k→R9 k)∧(∀k,R9 k→R k∨W.heap.size≤k)∧aE (fun k=>k=p) W W9∧∀k,MB (upd M p n') k→MB M k∨W.heap.size≤k) {x:Int} {e:Ending} (hl:jD W9 sb E.tb sv (l++[x]) e W10) (hp:MB M p):
  Gu E X0 R0 R ps pg rt M W sb sv (upd M p n') (l++[x]) W10:=by
 obtain⟨h1,h2,h3,h4,h5⟩:=h9
 obtain⟨eC,R',k1,k2,k3,k4,k5⟩:=h1.left hl
 refine⟨R',eC,k1,fun k hk=>k2 k (h2 k hk),fun k hk=> ?_, ?_,h5,fun k hk=> ?_,Dom.upd _ _ _⟩
 ·rcases k3 k hk with hk|hk
  ·exact h3 k hk
  ·right;have:=h4.size;omega
 ·refine (aE.refl (fun k=>k=sb∨sv.ownBlock=some k∨MB M k) W).trans h4 (fun k _ e=>.inr (.inr (by rw[e];exact hp)))|>.trans k4 fun k _ e=> ?_
  rcases e with e|e
  ·exact .inl e
  ·exact .inr (.inl e)
 ·rcases k5 k hk with hk|hk
  ·exact .inl hk
  ·right;have:=h4.size;omega
theorem mm (W V:World) (its rs:List It) {jV jW NL eD rg ro RL fU:Nat} (hb:Below W.heap.size W V) (hk:aS V W.heap.size 123 [.slice (some ⟨jV,jW,none⟩) NL eD,.slice (some ⟨rg,ro,none⟩) RL fU]) (h1:a_ aj W jV jW its) (h2:a_ aj W rg ro rs) (hN:NL=its.length) (hR:RL=rs.length) (hl:its.length+rs.length≤400) (hpos:0<its.length):
  Calls Tryz.prog 208 #[.slice (some ⟨W.heap.size,0,none⟩) 2 2] V fun e w'=>∃g c,e=.returned (.slice (some ⟨g,0,none⟩) ((NL:Nat)+(RL:Nat)) c)∧aR W.heap.size w' (.slice (some ⟨g,0,none⟩) (its++rs).length c) (its++rs)∧Below V.heap.size V w':=by
 subst hN hR
 refine (zc V W.heap.size jV jW eD rg ro fU its rs hk (dZ h1 hb) (dZ h2 hb) (by omega) (by omega) (by omega)).mono ?_
 rintro e w' ⟨v,rfl,ho,hb'⟩
 obtain⟨g,c,rfl,_,_,_⟩:=Own.form ho (by rw[aq];omega)
 have hlen:(its++rs).length=its.length+rs.length:=aq
 exact⟨g,c,by rw[hlen],Own.mono ho hb.size,hb'⟩
theorem Gv (h:SS E X0 R0 R ps pg rt M X sb sv l) (hp:M p=some n) (hq:M q=some m) (hpq:p≠q) (hlv:n.level=0) (key:ByteArray) (hl:l.length≤100000) (hn:n.its.length+m.its.length≤400) (hpos:0<n.its.length):
  Calls Tryz.prog 175 #[ptr sb,ptr p,ptr q,.string key] X fun e X'=>e=.returned (.int .i64 0)∧∃g c,Gu E X0 R0 R ps pg rt M X sb sv (upd M p (n.kg (n.its++m.its) g c m.hi)) (l++[m.page]) X':=by
 have hnp:=h.ts.mem.nd p n hp
 have mJ:=h.ts.mem.nd q m hq
 have c0:=hnp.c0
 rw[hlv] at c0
 have c1:=hnp.c1
 have c4:=hnp.c4
 have c7:=hnp.c7
 have q1:=mJ.c1
 have q4:=mJ.c4
 have hsb:=h.blk.lt
 obtain⟨hh,IF⟩:∃hh,bs m.hi=hh:=⟨_,rfl⟩
 rw[IF] at q4
 have Rx:=aa IF
 obtain⟨NL,LX⟩:∃NL,NL=n.its.length:=⟨_,rfl⟩
 obtain⟨RL,O1⟩:∃RL,RL=m.its.length:=⟨_,rfl⟩
 rw[←LX] at c1
 rw[←O1] at q1
 obtain⟨jV,Dw⟩:∃g,g=n.rg:=⟨_,rfl⟩
 obtain⟨jW,Dx⟩:∃g,g=n.ro:=⟨_,rfl⟩
 obtain⟨eD,xR⟩:∃g,g=n.cap:=⟨_,rfl⟩
 obtain⟨rg,wv⟩:∃g,g=m.rg:=⟨_,rfl⟩
 obtain⟨ro,hro⟩:∃g,g=m.ro:=⟨_,rfl⟩
 obtain⟨fU,xS⟩:∃g,g=m.cap:=⟨_,rfl⟩
 rw[←Dw,←Dx,←xR] at c1
 rw[←wv,←hro,←xS] at q1
 obtain⟨W,hW⟩:∃W,W=X:=⟨_,rfl⟩
 have wE:=aa (fun V hb hk=>mm W V n.its m.its (jV:=jV) (jW:=jW) (NL:=NL) (eD:=eD) (rg:=rg) (ro:=ro) (RL:=RL) (fU:=fU) hb hk (by rw[hW,Dw,Dx];exact hnp.row) (by rw[hW,wv,hro];exact mJ.row) LX O1 hn hpos)
 have hlen:(n.its++m.its).length=NL+RL:=by rw[aq,LX,O1]
 have qu:=aa (show (n.its++m.its).length≤400∧(∀i∈n.its++m.its,i.key.length≤200∧i.val.length≤200)∧NL+RL=(n.its++m.its).length from⟨by rw[aq];omega,fun i hi=>by
  rcases ah.1 hi with hi|hi
  ·exact hnp.small.each i hi
  ·exact mJ.small.each i hi,hlen.symm⟩)
 have wD:=aa (show l.length≤1000000 by omega)
 have dJ:=aa (show p<W.heap.size∧q<W.heap.size by rw[hW];exact⟨hnp.blk.lt,mJ.blk.lt⟩)
 have ij:=aa (show Nd W p n by rw[hW];exact hnp)
 have zY:=aa (show SS E X0 R0 R ps pg rt M W sb sv l by rw[hW];exact h)
 have HP:=aa hp
 have HQ:=aa hq
 have Ry:=aa (Ne.symm hpq)
 rw[←hW] at c0 c1 c4 c7 q1 q4 hsb ⊢
 have dH:=dJ.o.1
 have EZ:=dJ.o.2
 clear h hp hq hpq hlv hl hn hpos hnp mJ IF LX O1 Dw Dx xR wv hro xS hlen hW
 go_enter Tryz.func175,Tryz.ntmps175
 unfold ptr
 go_wp2_with (refine wp_region_any (by kernel_rfl) ?_;refine Hid.o ?_)
 refine aa ?_
 try (change wpAny _ _ _ _ _ _ _ (bD _))
 refine tk 0 ?_
 refine tk 1 ?_
 refine tk 2 ?_
 refine tk 3 ?_
 refine tk 4 ?_
 refine tk 5 ?_
 refine tk 7 ?_
 refine tk 10 ?_
 refine tk 11 ?_
 refine tk 12 ?_
 refine tk 13 ?_
 try simp only[Act.put,az,ay,au]
 refine rd [6,14] (AllReady.cons rfl (fun K hK=> ?_) (rn fun K hK=> ?_))
 focus
  go_simp
  refine hK _ _ ?_;clear hK K
  refine rd [8,14] (AllReady.cons rfl (fun K hK=> ?_) (rn fun K hK=> ?_))
  focus
   go_simp
   have g_:=aa (show Below W.heap.size W ((W.alloc (.cells #[.slice (some ⟨jV,jW,none⟩) NL eD,.slice (some ⟨rg,ro,none⟩) RL fU] 123)).drew) from ((Below.refl _ W).alloc (af _) _).drew)
   refine hK _ _ ?_;clear hK K
   refine rd [9,14] (AllReady.cons rfl (fun K hK=> ?_) (rn fun K hK=> ?_))
   focus
    go_simp
    refine (wE.o _ g_.o (by have:=aS.new W #[.slice (some ⟨jV,jW,none⟩) NL eD,.slice (some ⟨rg,ro,none⟩) RL fU] 123;exact this)).mono ?_
    rintro e W7 ⟨g,c,rfl,iR,iN⟩
    have H7:=aa (And.intro iR (g_.o.trans (iN.mono g_.o.size)))
    clear iN iR
    have d1:=(H7.o.2.cell (p:=⟨p,1,none⟩) dJ.o.1).trans c1
    have d4:=(H7.o.2.cell (p:=⟨p,4,none⟩) dJ.o.1).trans c4
    have d7:=(H7.o.2.cell (p:=⟨p,7,none⟩) dJ.o.1).trans c7
    have e4:=(H7.o.2.cell (p:=⟨q,4,none⟩) dJ.o.2).trans q4
    have zf:=(ij.o.still H7.o.2).blk.frozen 1
    have zg:=(ij.o.still H7.o.2).blk.frozen 4
    have zh:=(ij.o.still H7.o.2).blk.frozen 7
    refine hK _ _ ?_;clear hK K
    refine rd [14] (rn fun K hK=> ?_)
    go_simp
    refine hK _ _ ?_;clear hK K
   rotate_left
   focus
    go_simp
    refine hK _ _ ?_;clear hK K
    refine rd [9] (rn fun K hK=> ?_)
    go_simp
    refine (wE.o _ g_.o (by have:=aS.new W #[.slice (some ⟨jV,jW,none⟩) NL eD,.slice (some ⟨rg,ro,none⟩) RL fU] 123;exact this)).mono ?_
    rintro e W7 ⟨g,c,rfl,iR,iN⟩
    have H7:=aa (And.intro iR (g_.o.trans (iN.mono g_.o.size)))
    clear iN iR
    have d1:=(H7.o.2.cell (p:=⟨p,1,none⟩) dJ.o.1).trans c1
    have d4:=(H7.o.2.cell (p:=⟨p,4,none⟩) dJ.o.1).trans c4
    have d7:=(H7.o.2.cell (p:=⟨p,7,none⟩) dJ.o.1).trans c7
    have e4:=(H7.o.2.cell (p:=⟨q,4,none⟩) dJ.o.2).trans q4
    have zf:=(ij.o.still H7.o.2).blk.frozen 1
    have zg:=(ij.o.still H7.o.2).blk.frozen 4
    have zh:=(ij.o.still H7.o.2).blk.frozen 7
    refine hK _ _ ?_;clear hK K
  rotate_left 2
  focus
   go_simp
   refine hK _ _ ?_;clear hK K
   refine rd [8] (rn fun K hK=> ?_)
   go_simp
   have g_:=aa (show Below W.heap.size W ((W.alloc (.cells #[.slice (some ⟨jV,jW,none⟩) NL eD,.slice (some ⟨rg,ro,none⟩) RL fU] 123)).drew) from ((Below.refl _ W).alloc (af _) _).drew)
   refine hK _ _ ?_;clear hK K
   refine rd [9] (rn fun K hK=> ?_)
   go_simp
   refine (wE.o _ g_.o (by have:=aS.new W #[.slice (some ⟨jV,jW,none⟩) NL eD,.slice (some ⟨rg,ro,none⟩) RL fU] 123;exact this)).mono ?_
   rintro e W7 ⟨g,c,rfl,iR,iN⟩
   have H7:=aa (And.intro iR (g_.o.trans (iN.mono g_.o.size)))
   clear iN iR
   have d1:=(H7.o.2.cell (p:=⟨p,1,none⟩) dJ.o.1).trans c1
   have d4:=(H7.o.2.cell (p:=⟨p,4,none⟩) dJ.o.1).trans c4
   have d7:=(H7.o.2.cell (p:=⟨p,7,none⟩) dJ.o.1).trans c7
   have e4:=(H7.o.2.cell (p:=⟨q,4,none⟩) dJ.o.2).trans q4
   have zf:=(ij.o.still H7.o.2).blk.frozen 1
   have zg:=(ij.o.still H7.o.2).blk.frozen 4
   have zh:=(ij.o.still H7.o.2).blk.frozen 7
   refine hK _ _ ?_;clear hK K
 rotate_left 3
 focus
  go_simp
  refine hK _ _ ?_;clear hK K
  refine rd [6] (rn fun K hK=> ?_)
  go_simp
  refine hK _ _ ?_;clear hK K
  refine rd [8] (rn fun K hK=> ?_)
  go_simp
  have g_:=aa (show Below W.heap.size W ((W.alloc (.cells #[.slice (some ⟨jV,jW,none⟩) NL eD,.slice (some ⟨rg,ro,none⟩) RL fU] 123)).drew) from ((Below.refl _ W).alloc (af _) _).drew)
  refine hK _ _ ?_;clear hK K
  refine rd [9] (rn fun K hK=> ?_)
  go_simp
  refine (wE.o _ g_.o (by have:=aS.new W #[.slice (some ⟨jV,jW,none⟩) NL eD,.slice (some ⟨rg,ro,none⟩) RL fU] 123;exact this)).mono ?_
  rintro e W7 ⟨g,c,rfl,iR,iN⟩
  have H7:=aa (And.intro iR (g_.o.trans (iN.mono g_.o.size)))
  clear iN iR
  have d1:=(H7.o.2.cell (p:=⟨p,1,none⟩) dJ.o.1).trans c1
  have d4:=(H7.o.2.cell (p:=⟨p,4,none⟩) dJ.o.1).trans c4
  have d7:=(H7.o.2.cell (p:=⟨p,7,none⟩) dJ.o.1).trans c7
  have e4:=(H7.o.2.cell (p:=⟨q,4,none⟩) dJ.o.2).trans q4
  have zf:=(ij.o.still H7.o.2).blk.frozen 1
  have zg:=(ij.o.still H7.o.2).blk.frozen 4
  have zh:=(ij.o.still H7.o.2).blk.frozen 7
  refine hK _ _ ?_;clear hK K
 all_goals
  try simp only[Act.put,az,ay,au]
  refine tk 15 ?_
  refine tk 16 ?_
  refine rd [17] (rn fun K hK=> ?_)
  go_simp
  refine hK _ _ ?_;clear hK K
  refine tk 18 ?_
  refine tk 19 ?_
  refine tk 20 ?_
  refine rd [21] (rn fun K hK=> ?_)
  go_simp
  refine hK _ _ ?_;clear hK K
  refine tk 22 ?_
  refine tk 23 ?_
  refine rd [24] (rn fun K hK=> ?_)
  go_simp
  refine hK _ _ ?_;clear hK K
  refine wpAny_done (by kernel_rfl) ?_ _
  obtain⟨W9,rG⟩:∃W9,W9=((W7.setCell ⟨p,1,none⟩ (.slice (some ⟨g,0,none⟩) (NL+RL) c)).setCell ⟨p,4,none⟩ (.string hh)).setCell ⟨p,7,none⟩ (.bool true):=⟨_,rfl⟩
  rw[←rG]
  obtain⟨R9,h9,J6,uU,k_,J7⟩:=zY.o.row HP.o H7.o.2 Rx.o H7.o.1 qu.o.1 qu.o.2.1 qu.o.2.2 rG
  have H9:=aa (And.intro h9 (And.intro J6 (And.intro uU (And.intro k_ J7))))
  have AV:=aa (iH W9 sb E.tb q sv l m h9.blk h9.sp (h9.ts.mem.nd q m ((aO Ry.o).trans HQ.o)) wD.o)
  clear h9 J6 uU k_ J7 rG d1 d4 d7 e4 zf zg zh
  unfold ptr at AV
  go_wp2_with fail
  refine AV.o.mono ?_
  intro e W10 o7
  have he:=o7.1
  subst he
  have H10:=aa o7
  clear o7 AV
  go_wp2_with fail
  go_ret
  exact⟨rfl,g,c,qt zY.o H9.o H10.o ⟨p,n,HP.o,.inl rfl⟩⟩
end
namespace Tr
theorem zi:∀{k:Nat} {n m:E (k+1)} {x:Tx},its n≠[]→its m≠[]→hd (join k n m x).1=⟨(hd n).page,true⟩
 |0,_,_,_,_,_=>rfl
 |k+1,n,m,x,hn,hm=>by
  obtain⟨A,a,hA⟩:=dA hn
  cases hB:its m with
  |nil=>exact absurd hB hm
  |cons b r=>
   rw[kZ hA hB]
   split<;>rfl
end Tr
section
variable {E:Ev} {X0 X X':World} {R0 R R' S:Nat→Prop} {ps ps':List (Nat×List UInt8)} {pg cP:List (Option Wl.Text)} {rt rt':List Nat} {M M':Nat→Option NV} {p q:Nat} {n m:NV} {sb:Nat} {sv:Value} {l:List Int}
def gy (l:List Nat):List Int:=l.map fun (p:Nat)=>(p:Int)
theorem iK {o:Option Nat} (h:o.isSome=true):[xP o]=gy o.toList:=by
 cases o with
 |none=>cases h
 |some p=>rfl
def qw (E:Ev) (X0:World) (R0 R:Nat→Prop) (ps:List (Nat×List UInt8)) (pg:List (Option Wl.Text)) (rt:List Nat) (M:Nat→Option NV) (X:World) (sb:Nat) (sv:Value) (k p:Nat) (n m:NV) (F:List Nat) (j:Tr.E (k+1)) (l':List Int) (X':World):Prop:=
 ∃M' n' F',Gu E X0 R0 R ps pg rt M X sb sv M' l' X'∧dx M' pg k p j F'∧M' p=some n'∧n'.lo=n.lo∧n'.hi=m.hi∧F'.Nodup∧(∀r∈F',r∈F∨X.heap.size≤r)∧(∀r x,r∉F→M r=some x→M' r=some x)
theorem rN {k:Nat} {t:Tr.E (k+1)} {lo:Tr.Tx} {h:Option Tr.Tx} (ho:jU pg k n t) (hs:Tr.Ok (k+1) lo h t):Tr.Ok (k+1) n.lo (iV n.hi) t:=ho.near.ok hs.1 hs.2.1
theorem qx {k:Nat} {lo:Tr.Tx} {h:Option Tr.Tx} {t:Tr.E (k+1)} (ho:Tr.Ok (k+1) lo h t):(Tr.its t).length≤255∧0<(Tr.its t).length:=by
 have:=Tr.iJ k (Tr.its t)
 have h2:=ho.2.1
 exact⟨by omega,ej.2 ho.1⟩
theorem Gw {tn tm:Tr.E 1} {F1 F2:List Nat} {x:Tr.Tx} {wz:Tr.Tx} {zZ:Option Tr.Tx} (h:SS E X0 R0 R ps pg rt M X sb sv l) (r1:dx M pg 0 p tn F1) (r2:dx M pg 0 q tm F2) (hp:M p=some n) (hq:M q=some m) (hnd:(F1++F2).Nodup)
  (on:Tr.Ok 1 wz (some x) tn) (om:Tr.Ok 1 x zZ tm) (hx:x.length≤96) (hc:¬Tr.cut 1 tn x tm) (hold:Tr.Old 1 tm) (hl:l.length≤100000):
  Calls Tryz.prog 175 #[ptr sb,ptr p,ptr q,.string (bs x)] X fun e X'=>e=.returned (.int .i64 0)∧qw E X0 R0 R ps pg rt M X sb sv 0 p n m (F1++F2) (Tr.join 0 tn tm x).1 (l++gy (Tr.join 0 tn tm x).2) X':=by
 obtain⟨n',hp',qU,hi1,rfl⟩:=r1
 rw[hp] at hp'
 injection hp' with hp'
 subst hp'
 obtain⟨m',lN,fD,hi2,rfl⟩:=r2
 rw[hq] at lN
 injection lN with lN
 subst lN
 have hpq:p≠q:=by
  grind
 have e1:n.its.length=(Tr.its tn).length:=by rw[hi1];unfold ak;rw[aM]
 have e2:m.its.length=(Tr.its tm).length:=by rw[hi2];unfold ak;rw[aM]
 have b1:=qx on
 have b2:=qx om
 have hlen:n.its.length+m.its.length≤400:=by
  have s1:=Tr.iJ 0 (Tr.its tn)
  have s2:=Tr.iJ 0 (Tr.its tm)
  rw[Tr.tj] at hc
  omega
 refine (Gv h hp hq hpq qU.level (bs x) hl hlen (by omega)).mono ?_
 rintro e X' ⟨rfl,g,c,hto⟩
 have J:=Tr.pZ 0 (Tr.Ok.mix (rN qU on) on) (Tr.Ok.mix om (rN fD om)) hx hc
 have Nl:=Tr.zi (x:=x) on.1 om.1
 have nP:(Tr.hd tm).page.isSome=true:=hold.1
 refine⟨rfl,upd M p (n.kg (n.its++m.its) g c m.hi),n.kg (n.its++m.its) g c m.hi,[p], ?_,⟨_,bz _ _ _,⟨qU.level, ?_, ?_,J.ok.near,fun hf=> ?_⟩, ?_,rfl⟩,bz _ _ _,rfl,rfl,by simp,fun r hr=>.inl ?_,fun r y hr hy=> ?_⟩
 ·have:[m.page]=gy (Tr.join 0 tn tm x).2:=by rw[fD.page];exact iK nP
  rw[←this]
  exact hto
 ·rw[Nl];exact qU.page
 ·rw[Nl];rfl
 ·grind
 ·show n.its++m.its=ak 0 (Tr.its tn++Tr.its tm)
  rw[hi1,hi2]
  unfold ak
  rw[bI]
 ·grind
 ·simp_all[aO]
end
section
variable {E:Ev} {X0 X X' X1 X2:World} {R0 R R' R1 R2 S:Nat→Prop} {ps ps':List (Nat×List UInt8)} {pg cP:List (Option Wl.Text)} {rt rt':List Nat} {M M' M1 M2:Nat→Option NV} {p q:Nat} {n m:NV} {sb:Nat} {sv Z8 Vu:Value} {l:List Int}
structure lQ (R:Nat→Prop) (M:Nat→Option NV) (X:World) (sb:Nat) (sv:Value) (R':Nat→Prop) (M':Nat→Option NV) (eC:Value) (X':World):Prop where
 sub:∀k,R k→R' k
 new:∀k,R' k→R k∨X.heap.size≤k
 but:aE (fun k=>k=sb∨sv.ownBlock=some k∨MB M k) X X'
 mb:∀k,MB M' k→MB M k∨X.heap.size≤k
 sp:∀k,eC.ownBlock=some k→sv.ownBlock=some k∨X.heap.size≤k
 dom:Dom M M'
theorem lQ.trans (h1:lQ R M X sb sv R1 M1 Z8 X1) (h2:lQ R1 M1 X1 sb Z8 R2 M2 Vu X2):lQ R M X sb sv R2 M2 Vu X2:=by
 have hs:=h1.but.size
 refine⟨fun k hk=>h2.sub k (h1.sub k hk),fun k hk=> ?_,h1.but.trans h2.but fun k hlt hk=> ?_,fun k hk=> ?_,fun k hk=> ?_,h1.dom.trans h2.dom⟩
 ·rcases h2.new k hk with hk|hk
  ·exact h1.new k hk
  ·right;omega
 ·rcases hk with hk|hk|hk
  ·exact .inl hk
  ·rcases h1.sp k hk with hk|hk
   ·exact .inr (.inl hk)
   ·omega
  ·rcases h1.mb k hk with hk|hk
   ·exact .inr (.inr hk)
   ·omega
 ·rcases h2.mb k hk with hk|hk
  ·exact h1.mb k hk
  ·right;omega
 ·rcases h2.sp k hk with hk|hk
  ·exact h1.sp k hk
  ·right;omega
theorem lD {l':List Int}:Gu E X0 R0 R ps pg rt M X sb sv M' l' X'↔∃R' eC,SS E X0 R0 R' ps pg rt M' X' sb eC l'∧lQ R M X sb sv R' M' eC X':=
 ⟨fun ⟨R',eC,a,b,c,d,e,f,g⟩=>⟨R',eC,a,⟨b,c,d,e,f,g⟩⟩,fun ⟨R',eC,a,s⟩=>⟨R',eC,a,s.sub,s.new,s.but,s.mb,s.sp,s.dom⟩⟩
theorem lQ.nodes (hb:aE S X X') (hS:∀k,S k→MB M k) (hR:∀k,R k→R' k) (Cq:∀k,R' k→R k∨X.heap.size≤k) (hm:∀k,MB M' k→MB M k∨X.heap.size≤k) (hd:Dom M M'):lQ R M X sb sv R' M' sv X':=
 ⟨hR,Cq,(aE.refl (fun k=>k=sb∨sv.ownBlock=some k∨MB M k) X).trans hb fun k _ hk=>.inr (.inr (hS k hk)),hm,fun _ h=>.inl h,hd⟩
theorem lQ.still (hb:Below X.heap.size X X'):lQ R M X sb sv R M sv X':=
 ⟨fun _ h=>h,fun _ h=>.inl h,aE.aH hb _,fun _ h=>.inl h,fun _ h=>.inl h,Dom.refl _⟩
theorem SS.key (h:SS E X0 R0 R ps pg rt M X sb sv l) (hq:M q=some m) (hpos:0<m.its.length) (x:List UInt8) (hx:x.length≤200) {xb:ByteArray} (Rq:bs x=xb):
  SS E X0 R0 R ps pg rt (upd M q {m with its:=m.its.set 0 {m.its[0] with key:=x}}) (X.setCell ⟨m.rg,m.ro,none⟩ (.string xb)) sb sv l∧lQ R M X sb sv R (upd M q {m with its:=m.its.set 0 {m.its[0] with key:=x}}) sv (X.setCell ⟨m.rg,m.ro,none⟩ (.string xb)):=by
 have Ap:=(h.ts.mem.nd q m hq).small
 have hm:=h.ts.mem.item hq 0 0 hpos (by decide) {m.its[0] with key:=x} (.string xb) (by rw[←Rq];rfl) ⟨hx,(Ap.each _ (bB hpos)).2⟩
 have hb:aE (fun k=>k=m.rg) X (X.setCell ⟨m.rg,m.ro,none⟩ (.string xb)):=(aE.refl (fun k=>k=m.rg) X).setCell _ _ fun _=>rfl
 have hmb:∀k,MB (upd M q {m with its:=m.its.set 0 {m.its[0] with key:=x}}) k→MB M k:=by
  rintro k ⟨r,y,hr,hk⟩
  rcases aI hr with⟨rfl,rfl⟩|⟨_,hr⟩
  ·exact⟨_,m,hq,hk⟩
  ·exact⟨r,y,hr,hk⟩
 have hts:=h.ts.own hb (fun k _ e=>by rw[e];exact h.ts.jR _ ⟨q,m,hq,.inr rfl⟩) hm (fun k hk=>h.ts.jR k (hmb k hk)) (fun _ h=>h) (fun _ h=>.inl h)
 have hS:∀k,k=m.rg→MB M k:=fun k e=>by rw[e];exact⟨q,m,hq,.inr rfl⟩
 exact⟨h.nodes hts hb hS (fun _ h=>h) fun k hk=>.inl (hmb k hk),lQ.nodes hb hS (fun _ h=>h) (fun _ h=>.inl h) (fun k hk=>.inl (hmb k hk)) (Dom.upd _ _ _)⟩
end
section
variable {E:Ev} {X0 X X' V:World} {R0 R R' S:Nat→Prop} {ps ps':List (Nat×List UInt8)} {pg cP:List (Option Wl.Text)} {rt rt':List Nat} {M M':Nat→Option NV} {p q:Nat} {n m:NV}
structure Xi (E:Ev) (X0:World) (R0 R:Nat→Prop) (ps:List (Nat×List UInt8)) (pg:List (Option Wl.Text)) (rt:List Nat) (M:Nat→Option NV) (X:World) (p:Nat) (n:NV) (k:Nat) (I1:List It) (i:It) (I2:List It) (c:Tr.E (k+1)) (f:List Nat) (q:Nat) (M':Nat→Option NV) (R':Nat→Prop) (fq:List Nat) (X':World):Prop where
 ts:TS E X0 R0 R' ps pg rt M' X'
 at_:M' p=some {n with its:=I1++{i with node:=some q}::I2}
 xQ:dx M' pg k q c fq
 same:∀r m,r≠p→M r=some m→M' r=some m
 news:∀r∈fq,r∈f∨X.heap.size≤r
 pn:p∉fq
 nd:fq.Nodup
 size:X.heap.size≤X'.heap.size
 but:aE (fun b=>b=n.rg) X X'
 sub:∀b,R b→R' b
 new:∀b,R' b→R b∨X.heap.size≤b
 mb:∀b,MB M' b→MB M b∨X.heap.size≤b
theorem xT {k:Nat} {I1 I2:List It} {i:It} {key:Tr.Tx} {c:Tr.E (k+1)} {f:List Nat} {j:Int}
  (h:TS E X0 R0 R ps pg rt M X) (hV:Below X.heap.size X V) (hp:M p=some n) (hlv:n.level=k+1) (hi:n.its=I1++i::I2) (h0:iW pg k (dx M pg k) i (key,c) f) (iX:i.node=none→Tr.Ok (k+1) (eF n I1.length) (iV (dW n I1.length)) c) (hpf:p∉f) (hfn:f.Nodup) (hk:k≤15) (hj:j=I1.length):
  Calls Tryz.prog 79 #[ptr E.tb,ptr p,.int .i64 j] V fun e X'=>∃q M' R' fq,e=.returned (.tuple #[ptr q,.int .i64 0])∧Xi E X0 R0 R ps pg rt M X p n k I1 i I2 c f q M' R' fq X':=by
 subst hj
 have hj:I1.length<n.its.length:=by rw[hi,aq,aW];omega
 have jf:n.its[I1.length]=i:=by
  grind
 have hS:=h.still hV (fun _ h=>h) (fun _ h=>.inl h)
 obtain⟨hik,hiv,Du⟩:=h0
 rcases Du with⟨hnone,hfe,hval,hst⟩|⟨q,hq,hr⟩
 ·obtain⟨⟨page,cy,ot,wP⟩,hfr,qp⟩:=hst
  have hs:=iX hnone
  have lC:=gL hk ⟨⟨page,cy,ot,wP⟩,hfr,qp⟩ cy hs
  have hv:n.its[I1.length].val=pv page:=by
   rw[jf,hval]
   show pv ((Tr.hd c).page.getD 0)=_
   rw[cy];rfl
  refine (rJ hS hp I1.length hj (by rw[jf];exact hnone) page ot hv k hlv (ak k (Tr.its c)) lC).mono ?_
  rintro e X' ⟨q,rg,cap,R',rfl,hts,Xj,Tz,TA,hR,Xk⟩
  have Ni:=aG hV.size Xj
  have Nj:=aG hV.size Tz
  have Cq:∀b,R' b→R b∨X.heap.size≤b:=fun b hb=>(Xk b hb).imp_right fun h=>aG hV.size h
  have jG:aE (fun b=>b=n.rg) X X':=(aE.aH hV (fun b=>b=n.rg)).trans TA fun _ _ h=>h
  have ow:n.its.set I1.length {(n.its.getD I1.length ⟨[],[],none⟩) with node:=some q}=I1++{i with node:=some q}::I2:=by
   grind
  rw[ow] at hts
  obtain⟨M',zb⟩:∃M',M'=upd (upd M q (NV.got k (ak k (Tr.its c)) rg cap page (eF n I1.length) (dW n I1.length))) p {n with its:=I1++{i with node:=some q}::I2}:=⟨_,rfl⟩
  rw[←zb] at hts
  have dH:=(h.mem.lt hp).1
  have hpq:q≠p:=by omega
  have hsame:∀r m,r≠p→M r=some m→M' r=some m:=by
   intro r m hr hm
   have xJ:r≠q:=by have:=(h.mem.lt hm).1;omega
   rw[zb,aO hr,aO xJ]
   exact hm
  refine⟨q,M',R',[q],rfl,⟨hts,by rw[zb,bz], ?_,hsame,fun r hr=>by rw[cH.1 hr];exact .inr Ni,by simpa using Ne.symm hpq,by simp,jG.size,jG,hR,Cq, ?_⟩⟩
  ·exact EW ⟨⟨page,cy,ot,wP⟩,hfr,qp⟩ cy hs (by rw[zb,aO hpq,bz])
  ·rintro b ⟨r,m,hr,hb⟩
   rw[zb] at hr
   rcases aI hr with⟨rfl,rfl⟩|⟨_,hr⟩
   ·exact .inl ⟨_,n,hp,hb⟩
   ·rcases aI hr with⟨rfl,rfl⟩|⟨_,hr⟩
    ·right
     rcases hb with rfl|rfl
     ·exact Ni
     ·exact Nj
    ·exact .inl ⟨r,m,hr,hb⟩
 ·refine (sG hS hp I1.length hj (by rw[jf];exact hq)).mono ?_
  rintro e X' ⟨rfl,rfl⟩
  have hi':{i with node:=some q}=i:=by cases i;simp only at hq;subst hq;rfl
  refine⟨q,M,R,f,rfl,⟨hS, ?_,hr,fun _ _ _ h=>h,fun r hr=>.inl hr,hpf,hfn,hV.size,aE.aH hV _,fun _ h=>h,fun _ h=>.inl h,fun _ h=>.inl h⟩⟩
  rw[hi',←hi];exact hp
end
section
variable {E:Ev} {X0 Xs X X':World} {R0 Rs R R' S:Nat→Prop} {ps:List (Nat×List UInt8)} {pg:List (Option Wl.Text)} {rt:List Nat} {Ms M M':Nat→Option NV} {p q:Nat} {n m:NV} {sb:Nat} {ga sv eC lv:Value} {l l':List Int} {L LI:List It}
structure Row (E:Ev) (X0:World) (R0:Nat→Prop) (ps:List (Nat×List UInt8)) (pg:List (Option Wl.Text)) (rt:List Nat) (Rs:Nat→Prop) (Ms:Nat→Option NV) (Xs:World) (sb:Nat) (ga:Value) (R:Nat→Prop) (M:Nat→Option NV) (X:World) (sv:Value) (l:List Int) (lv:Value) (LI:List It):Prop where
 base:X0.heap.size≤Xs.heap.size
 ss:SS E X0 R0 R ps pg rt M X sb sv l
 xU:lQ Rs Ms Xs sb ga R M sv X
 own:aR Xs.heap.size X lv LI
 O2:∀b,lv.ownBlock=some b→R b∧¬MB M b∧b≠sb∧sv.ownBlock≠some b
theorem Row.step (h:Row E X0 R0 ps pg rt Rs Ms Xs sb ga R M X sv l lv LI) (hs:SS E X0 R0 R' ps pg rt M' X' sb eC l') (ht:lQ R M X sb sv R' M' eC X'):Row E X0 R0 ps pg rt Rs Ms Xs sb ga R' M' X' eC l' lv LI:=by
 refine⟨h.base,hs,h.xU.trans ht,Own.but h.own ht.but fun b hb hk=> ?_,fun b hb=> ?_⟩
 ·obtain⟨_,h2,h3,h4⟩:=h.O2 b hb
  rcases hk with hk|hk|hk
  ·exact h3 hk
  ·exact h4 hk
  ·exact h2 hk
 ·obtain⟨h1,h2,h3,h4⟩:=h.O2 b hb
  have hlt:=(Own.block h.own b hb).2
  refine⟨ht.sub b h1,fun hk=> ?_,h3,fun hk=> ?_⟩
  ·rcases ht.mb b hk with hk|hk
   ·exact h2 hk
   ·omega
  ·rcases ht.sp b hk with hk|hk
   ·exact h4 hk
   ·omega
theorem Row.add {e:Ending} (h:Row E X0 R0 ps pg rt Rs Ms Xs sb ga R M X sv l lv LI) (ha:xL Xs.heap.size X lv L e X'):
  ∃lp R',e=.returned (.tuple #[lp,.int .i64 0])∧Row E X0 R0 ps pg rt Rs Ms Xs sb ga R' M X' sv l lp L∧aE (fun b=>lv.ownBlock=some b) X X'∧(∀b,lp.ownBlock=some b→lv.ownBlock=some b∨X.heap.size≤b):=by
 obtain⟨lp,rfl,ho,hb,hw⟩:=ha
 have hS:∀k,lv.ownBlock=some k→R k∧X0.heap.size≤k∧¬MB M k:=fun k hk=>⟨(h.O2 k hk).1,aG h.base (Own.block h.own k hk).1,(h.O2 k hk).2.1⟩
 have hmem:=h.ss.ts.mem.keep hb fun k hk hs=>(hS k hs).2.2 hk
 have hlt:=Own.block ho
 have xj:=h.ss.blk.lt
 have hsp:=Own.block h.ss.sp
 have hnew:∀k,lp.ownBlock=some k→R k∨X.heap.size≤k:=fun k hk=>by
  rcases hw with hw|hw
  ·grind
  ·exact .inr (hw k hk)
 have Gx:∀k,(R k∨lp.ownBlock=some k)→R k∨X.heap.size≤k:=fun k hk=>by
  rcases hk with hk|hk
  ·exact .inl hk
  ·exact hnew k hk
 refine⟨lp,fun k=>R k∨lp.ownBlock=some k,rfl,⟨h.base,⟨h.ss.ts.own hb (fun k _ hs=>⟨(hS k hs).1,(hS k hs).2.1⟩) hmem (fun k hk=>⟨.inl (h.ss.ts.jR k hk).1,(h.ss.ts.jR k hk).2⟩) (fun k hk=>.inl hk) (fun k hk=> ?_),h.ss.blk.but hb fun hs=>(h.O2 _ hs).2.2.1 rfl,Own.but h.ss.sp hb fun k hk hs=>(h.O2 k hs).2.2.2 hk,⟨.inl h.ss.tF.1,h.ss.tF.2⟩,fun k hk=>⟨.inl (h.ss.Nk k hk).1,(h.ss.Nk k hk).2⟩⟩,⟨fun k hk=>.inl (h.xU.sub k hk),fun k hk=> ?_,h.xU.but.trans hb fun k hlt hk=> ?_,h.xU.mb,h.xU.sp,h.xU.dom⟩,ho,fun k hk=>⟨.inr hk, ?_⟩⟩,hb,fun k hk=> ?_⟩
 ·grind
 ·rcases Gx k hk with hk|hk
  ·exact h.xU.new k hk
  ·exact .inr (aG h.xU.but.size hk)
 ·have:=(Own.block h.own k hk).1
  omega
 ·rcases hw with hw|hw
  ·rw[hw] at hk;exact (h.O2 k hk).2
  ·have h1:=hw k hk
   refine⟨fun hm=> ?_,by omega,fun hk2=> ?_⟩
   ·have:=h.ss.ts.mem.lg hm
    omega
   ·grind
 ·grind
end
section
variable {E:Ev} {X0 X X1 X2:World} {R0 R R1 R2:Nat→Prop} {ps:List (Nat×List UInt8)} {pg:List (Option Wl.Text)} {rt:List Nat} {M M1 M2:Nat→Option NV} {p q:Nat} {n m:NV} {sb:Nat} {sv:Value} {l:List Int}
structure Xl (E:Ev) (X0:World) (R0 R:Nat→Prop) (ps:List (Nat×List UInt8)) (pg:List (Option Wl.Text)) (rt:List Nat) (M:Nat→Option NV) (X:World) (sb:Nat) (sv:Value) (l:List Int) (k p q:Nat) (n m:NV) (I1:List It) (i j:It) (J:List It) (A r:List (Tr.Tx×Tr.E (k+1))) (a b:Tr.E (k+1)) (x:Tr.Tx) (f1 f2:List (List Nat)) (fa fb:List Nat) (R3:Nat→Prop) (M3:Nat→Option NV) (X3:World) (la lb:Nat) (jt ox:List Nat) (m3:NV):Prop where
 ss:SS E X0 R0 R3 ps pg rt M3 X3 sb sv l
 xU:lQ R M X sb sv R3 M3 sv X3
 Xm:M3 p=some {n with its:=I1++[{i with node:=some la}]}
 Z9:M3 q=some m3
 its:m3.its=⟨x,j.val,some lb⟩::J
 like:m3.hi=m.hi∧m3.page=m.page∧m3.rg=m.rg∧m3.ro=m.ro∧m3.cap=m.cap
 ra:dx M3 pg k la a jt
 rb:dx M3 pg k lb b ox
 kl:aX pg k (dx M3 pg k) I1 A f1
 kr:aX pg k (dx M3 pg k) J r f2
 nd:(p::(f1.flatten++(jt++(ox++f2.flatten)))).Nodup
 qn:q∉p::(f1.flatten++(jt++(ox++f2.flatten)))
 na:∀r∈jt,r∈fa∨X.heap.size≤r
 nb:∀r∈ox,r∈fb∨X.heap.size≤r
 same:∀r y,r≠p→r≠q→M r=some y→M3 r=some y
theorem J8 {k:Nat} {I1:List It} {i j:It} {J:List It} {A r:List (Tr.Tx×Tr.E (k+1))} {a b:Tr.E (k+1)} {x ka kb:Tr.Tx} {f1 f2:List (List Nat)} {fa fb jt ox:List Nat} {la lb:Nat}
  (h:SS E X0 R0 R ps pg rt M X sb sv l) (hp:M p=some n) (hq:M q=some m) (k1:aX pg k (dx M pg k) I1 A f1) (k2:iW pg k (dx M pg k) i (ka,a) fa) (k3:iW pg k (dx M pg k) j (kb,b) fb) (k4:aX pg k (dx M pg k) J r f2)
  (hnd:((p::(f1++[fa]).flatten)++(q::(fb::f2).flatten)).Nodup) (hx:x.length≤96)
  (b1:za E X0 R0 R ps pg rt M X p n k I1 i [] A a [] f1 [] fa la M1 R1 jt X1) (s1:SS E X0 R0 R1 ps pg rt M1 X1 sb sv l)
  (b2:za E X0 R0 R1 ps pg rt M1 X1 q m k [] j J [] b r [] f2 fb lb M2 R2 ox X2) (s2:SS E X0 R0 R2 ps pg rt M2 X2 sb sv l) (t2:lQ R M X sb sv R2 M2 sv X2):
  ∃M3 m3,Xl E X0 R0 R ps pg rt M X sb sv l k p q n m I1 i j J A r a b x f1 f2 fa fb R2 M3 (X2.setCell ⟨m.rg,m.ro,none⟩ (.string (bs x))) la lb jt ox m3:=by
 have hlt:∀r,(∃y,M r=some y)→r<X.heap.size:=fun r ⟨y,hy⟩=>(h.ts.mem.lt hy).1
 have Ty:∀r,(∃y,M1 r=some y)→r<X1.heap.size:=fun r ⟨y,hy⟩=>(s1.ts.mem.lt hy).1
 have Gk:=b1.size
 have Xn:(f1++[fa]).flatten=f1.flatten++fa:=by simp
 rw[Xn,cU] at hnd
 have TB:=k1.dom
 have TC:=k4.dom
 have Xo:∀r∈fa,∃y,M r=some y:=by
  obtain⟨_,_,hi⟩:=k2
  rcases hi with⟨_,e,_⟩|⟨y,_,hr⟩
  ·rw[e];intro r hr;cases hr
  ·exact hr.dom
 have Xp:∀r∈fb,∃y,M r=some y:=by
  obtain⟨_,_,hi⟩:=k3
  rcases hi with⟨_,e,_⟩|⟨y,_,hr⟩
  ·rw[e];intro r hr;cases hr
  ·exact hr.dom
 obtain⟨wm,hd2,Z_⟩:=aL.1 hnd
 obtain⟨hp1,Xq⟩:=cD.1 wm
 obtain⟨hq1,Xr⟩:=cD.1 hd2
 obtain⟨n1,na0,d1a⟩:=aL.1 Xq
 obtain⟨nb0,n2,db2⟩:=aL.1 Xr
 have hpq:p≠q:=fun e=>Z_ p aA q aA e
 have sH:∀s t,s∈p::(f1.flatten++fa)→t∈q::(fb++f2.flatten)→s≠t:=fun s t hs ht=>Z_ s hs t ht
 have hpX:=hlt p ⟨n,hp⟩
 have hqX:=hlt q ⟨m,hq⟩
 have aaA:∀r,r≠p→(∃y,M r=some y)→M1 r=M r:=fun r hr ⟨y,hy⟩=>by rw[hy];exact b1.same r y hr hy
 have TD:∀r,r≠q→(∃y,M1 r=some y)→M2 r=M1 r:=fun r hr ⟨y,hy⟩=>by rw[hy];exact b2.same r y hr hy
 have hm1:∀r y,r≠p→r≠q→M r=some y→M2 r=some y:=fun r y h1 h2 hy=>b2.same r y h2 (b1.same r y h1 hy)
 have Xt:q∉jt:=fun e=>by
  rcases b1.news q e with e|e
  ·grind [aF,aA]
  ·omega
 have pfa:p∉jt:=fun e=>by
  rcases b1.news p e with e|e
  ·grind
  ·omega
 have qfb:q∉ox:=fun e=>by
  rcases b2.news q e with e|e
  ·grind
  ·omega
 have pfb:p∉ox:=fun e=>by
  rcases b2.news p e with e|e
  ·grind
  ·omega
 have O3:=b1.xQ.dom
 have Xu:dx M2 pg k la a jt:=b1.xQ.frame fun r hr=>TD r (fun e=>Xt (by rw[←e];exact hr)) (O3 r hr)
 have Xv:aX pg k (dx M2 pg k) I1 A f1:=b1.left.frame fun r hr=>TD r (fun e=>sH q q (aF _ (ah.2 (.inl (by rw[←e];exact hr)))) aA rfl) (b1.left.dom r hr)
 have TE:M2 p=some {n with its:=I1++[{i with node:=some la}]}:=b2.same p _ hpq b1.at_
 obtain⟨m2,hm2⟩:∃m2:NV,m2={m with its:=[]++{j with node:=some lb}::J}:=⟨_,rfl⟩
 have J9:M2 q=some m2:=by rw[hm2];exact b2.at_
 have hpos:0<m2.its.length:=by rw[hm2];show 0<([]++{j with node:=some lb}::J).length;simp
 have wv:m2.rg=m.rg:=by rw[hm2]
 have hro:m2.ro=m.ro:=by rw[hm2]
 obtain⟨m3,EC⟩:∃m3:NV,m3={m2 with its:=m2.its.set 0 {m2.its[0] with key:=x}}:=⟨_,rfl⟩
 obtain⟨s3,t3⟩:SS E X0 R0 R2 ps pg rt (upd M2 q m3) (X2.setCell ⟨m.rg,m.ro,none⟩ (.string (bs x))) sb sv l∧lQ R2 M2 X2 sb sv R2 (upd M2 q m3) sv (X2.setCell ⟨m.rg,m.ro,none⟩ (.string (bs x))):=by
  rw[←wv,←hro,EC]
  exact s2.key J9 hpos x (by omega) rfl
 have Xw:m3.its=⟨x,j.val,some lb⟩::J:=by
  grind
 have wS:∀r,r≠q→upd M2 q m3 r=M2 r:=fun r hr=>aO hr
 refine⟨upd M2 q m3,m3,⟨s3,t2.trans t3, ?_,bz _ _ _,Xw, ?_, ?_, ?_, ?_, ?_, ?_, ?_,b1.news,fun r hr=>(b2.news r hr).imp_right fun h=>aG Gk h,fun r y h1 h2 hy=> ?_⟩⟩
 ·grind
 ·grind
 ·exact Xu.frame fun r hr=>wS r fun e=>Xt (by rw[←e];exact hr)
 ·exact b2.xQ.frame fun r hr=>wS r fun e=>qfb (by rw[←e];exact hr)
 ·exact Xv.frame fun r hr=>wS r fun e=>sH q q (aF _ (ah.2 (.inl (by rw[←e];exact hr)))) aA rfl
 ·exact b2.right.frame fun r hr=>wS r fun e=>hq1 (ah.2 (.inr (by rw[←e];exact hr)))
 ·have dab:∀s∈jt,∀t∈ox,s≠t:=by
   intro s hs t ht e
   subst e
   rcases b1.news s hs with e1|e1
   ·rcases b2.news s ht with e2|e2
    ·exact sH s s (aF _ (ah.2 (.inr e1))) (aF _ (ah.2 (.inl e2))) rfl
    ·have:=hlt s (Xo s e1);omega
   ·rcases b2.news s ht with e2|e2
    ·have:=hlt s (Xp s e2);omega
    ·have:=Ty s (O3 s hs);omega
  have da2:∀s∈jt,∀t∈f2.flatten,s≠t:=by
   intro s hs t ht e
   subst e
   rcases b1.news s hs with e1|e1
   ·exact sH s s (aF _ (ah.2 (.inr e1))) (aF _ (ah.2 (.inr ht))) rfl
   ·have:=hlt s (TC s ht);omega
  have Xx:∀s∈ox,∀t∈f2.flatten,s≠t:=by
   intro s hs t ht e
   subst e
   rcases b2.news s hs with e1|e1
   ·exact db2 s e1 s ht rfl
   ·have:=hlt s (TC s ht);omega
  have Xy:∀s∈f1.flatten,∀t∈jt,s≠t:=by
   intro s hs t ht e
   subst e
   rcases b1.news s ht with e1|e1
   ·exact d1a s hs s e1 rfl
   ·have:=hlt s (TB s hs);omega
  have d1b:∀s∈f1.flatten,∀t∈ox,s≠t:=by
   intro s hs t ht e
   subst e
   rcases b2.news s ht with e1|e1
   ·exact sH s s (aF _ (ah.2 (.inl hs))) (aF _ (ah.2 (.inl e1))) rfl
   ·have:=hlt s (TB s hs);omega
  have d12:∀s∈f1.flatten,∀t∈f2.flatten,s≠t:=fun s hs t ht=>sH s t (aF _ (ah.2 (.inl hs))) (aF _ (ah.2 (.inr ht)))
  refine cD.2 ⟨?_,aL.2 ⟨n1,aL.2 ⟨b1.nd,aL.2 ⟨b2.nd,n2,Xx⟩, ?_⟩, ?_⟩⟩
  ·intro e
   rcases ah.1 e with e|e
   ·exact hp1 (ah.2 (.inl e))
   ·rcases ah.1 e with e|e
    ·exact pfa e
    ·rcases ah.1 e with e|e
     ·exact pfb e
     ·exact sH p p aA (aF _ (ah.2 (.inr e))) rfl
  ·intro s hs t ht
   rcases ah.1 ht with ht|ht
   ·exact dab s hs t ht
   ·exact da2 s hs t ht
  ·intro s hs t ht
   rcases ah.1 ht with ht|ht
   ·exact Xy s hs t ht
   ·rcases ah.1 ht with ht|ht
    ·exact d1b s hs t ht
    ·exact d12 s hs t ht
 ·intro e
  rcases aQ.1 e with e|e
  ·exact hpq e.symm
  ·rcases ah.1 e with e|e
   ·exact sH q q (aF _ (ah.2 (.inl e))) aA rfl
   ·rcases ah.1 e with e|e
    ·exact Xt e
    ·rcases ah.1 e with e|e
     ·exact qfb e
     ·exact hq1 (ah.2 (.inr e))
 ·rw[aO h2];exact hm1 r y h1 h2 hy
end
section
variable {E:Ev} {X0 X X3 X4 X5 X':World} {R0 R R3:Nat→Prop} {ps:List (Nat×List UInt8)} {pg:List (Option Wl.Text)} {rt:List Nat} {M M3 M5:Nat→Option NV} {p q:Nat} {n m m3:NV} {sb:Nat} {sv:Value} {l:List Int}
 {k:Nat} {I1:List It} {i j:It} {J:List It} {A r:List (Tr.Tx×Tr.E (k+1))} {a b:Tr.E (k+1)} {x ka kb:Tr.Tx} {f1 f2:List (List Nat)} {fa fb jt ox:List Nat} {la lb:Nat} {tn tm:Tr.E (k+2)}
theorem aX.cons {R1:Nat→Tr.E (k+1)→List Nat→Prop} {is:List It} {xs:List (Tr.Tx×Tr.E (k+1))} {fs:List (List Nat)} {y:Tr.Tx×Tr.E (k+1)} {f:List Nat} (h:iW pg k R1 i y f) (h':aX pg k R1 is xs fs):aX pg k R1 (i::is) (y::xs) (f::fs):=⟨h,h'⟩
theorem iW.iE {R1 R2:Nat→Tr.E (k+1)→List Nat→Prop} {f f':List Nat} {a':Tr.E (k+1)} (h:iW pg k R1 i (ka,a) f) (q:Nat) (hr:R2 q a' f'):iW pg k R2 {i with node:=some q} (ka,a') f':=⟨h.1,h.2.1,.inr ⟨q,rfl,hr⟩⟩
theorem uV {g c:Nat} {its:List It} {t:Tr.E (k+2)} {n0:NV} (qU:jU pg (k+1) n tn) (h1:n0.level=n.level) (h2:n0.page=n.page) (h3:n0.lo=n.lo) (Nl:Tr.hd t=⟨(Tr.hd tn).page,true⟩) (hok:Tr.ig (k+1) n.lo (iV m.hi) t):jU pg (k+1) (n0.kg its g c m.hi) t:=by
 refine⟨h1.trans qU.level, ?_, ?_, ?_,fun hf=> ?_⟩
 ·show n0.page=_
  rw[h2,Nl];exact qU.page
 ·rw[Nl];rfl
 ·show Tr.ig (k+1) n0.lo (iV m.hi) t
  rw[h3];exact hok
 ·grind
theorem wT {wz:Tr.Tx} {zZ:Option Tr.Tx} (md:Xl E X0 R0 R ps pg rt M X sb sv l k p q n m I1 i j J A r a b x f1 f2 fa fb R3 M3 X3 la lb jt ox m3)
  (hb4:Below X3.heap.size X3 X4) (qU:jU pg (k+1) n tn) (fD:jU pg (k+1) m tm) (hA:Tr.its tn=A++[(ka,a)]) (hB:Tr.its tm=(kb,b)::r) (k2:iW pg k (dx M pg k) i (ka,a) fa) (k3:iW pg k (dx M pg k) j (kb,b) fb)
  (on:Tr.Ok (k+2) wz (some x) tn) (om:Tr.Ok (k+2) x zZ tm) (hx:x.length≤96) (hc:¬Tr.cut (k+2) tn x tm) (hold:Tr.Old (k+2) tm) (hcut:Tr.cut (k+1) a x b) {g c:Nat}
  (hto:Gu E X0 R0 R3 ps pg rt M3 X4 sb sv (upd M3 p (NV.kg {n with its:=I1++[{i with node:=some la}]} ((I1++[{i with node:=some la}])++m3.its) g c m3.hi)) (l++[m3.page]) X'):
  qw E X0 R0 R ps pg rt M X sb sv (k+1) p n m ((p::(f1++[fa]).flatten)++(q::(fb::f2).flatten)) (Tr.join (k+1) tn tm x).1 (l++gy (Tr.join (k+1) tn tm x).2) X':=by
 have J0:=Tr.pZ (k+1) (Tr.Ok.mix (rN qU on) on) (Tr.Ok.mix om (rN fD om)) hx hc
 have Nl:=Tr.zi (x:=x) on.1 om.1
 have hj:=Tr.kZ (x:=x) hA hB
 rw[if_pos hcut] at hj
 have nP:(Tr.hd tm).page.isSome=true:=hold.1
 have hj2:(Tr.join (k+1) tn tm x).2=(Tr.hd tm).page.toList:=by rw[hj]
 have hji:Tr.its (Tr.join (k+1) tn tm x).1=A++(ka,a)::(x,b)::r:=by rw[hj];rfl
 obtain⟨R5,Rz,s5,t5⟩:=lD.1 hto
 obtain⟨xz,hl2,_⟩:=md.like
 rw[xz] at s5 t5
 have sC:p∉f1.flatten++(jt++(ox++f2.flatten)):=(cD.1 md.nd).1
 obtain⟨N6,J_⟩:∃N6,N6=NV.kg {n with its:=I1++[{i with node:=some la}]} ((I1++[{i with node:=some la}])++m3.its) g c m.hi:=⟨_,rfl⟩
 rw[←J_] at s5 t5
 obtain⟨M6,LS⟩:∃M6,M6=upd M3 p N6:=⟨_,rfl⟩
 rw[←LS] at s5 t5
 have hat:M6 p=some N6:=by rw[LS];exact bz _ _ _
 have wS:∀s,s≠p→M6 s=M3 s:=fun s hs=>by rw[LS];exact aO hs
 have hfr:∀s,s∈f1.flatten++(jt++(ox++f2.flatten))→M6 s=M3 s:=fun s hs=>wS s fun e=>sC (by rw[←e];exact hs)
 have fA:N6.its=I1++{i with node:=some la}::⟨x,j.val,some lb⟩::J:=by rw[J_];show (I1++[{i with node:=some la}])++m3.its=_;rw[md.its,aB];rfl
 have e2:(l++[m3.page]:List Int)=l++gy (Tr.join (k+1) tn tm x).2:=by rw[hl2,fD.page,hj2,iK nP]
 rw[e2] at s5
 have hfl:(f1++(jt::(ox::f2))).flatten=f1.flatten++(jt++(ox++f2.flatten)):=by simp
 refine⟨_,_,p::(f1++(jt::(ox::f2))).flatten,lD.2 ⟨R5,Rz,s5,(md.xU.trans (lQ.still hb4)).trans t5⟩,⟨N6,f1++(jt::(ox::f2)),hat,by rw[J_];exact uV qU rfl rfl rfl Nl J0.ok.near, ?_,rfl⟩,hat,by rw[J_];rfl,by rw[J_];rfl,by rw[hfl];exact md.nd,fun s hs=> ?_,fun s y hs hy=> ?_⟩
 ·rw[hji,fA]
  refine (md.kl.frame fun s hs=>hfr s (ah.2 (.inl hs))).append (aX.cons (k2.iE la (md.ra.frame fun s hs=>hfr s ?_)) (aX.cons (y:=(x,b)) ⟨rfl,k3.2.1,.inr ⟨lb,rfl,md.rb.frame fun s hs=>hfr s ?_⟩⟩ (md.kr.frame fun s hs=>hfr s ?_)))
  ·grind
  ·grind
  ·grind
 ·rw[hfl] at hs
  rcases aQ.1 hs with hs|hs
  ·exact .inl (ah.2 (.inl (by rw[hs];exact aA)))
  ·rcases ah.1 hs with hs|hs
   ·exact .inl (ah.2 (.inl (aF _ (by simp only[dm,ah];exact .inl hs))))
   ·rcases ah.1 hs with hs|hs
    ·exact (md.na s hs).imp_left fun h=>ah.2 (.inl (aF _ (by simp only[dm,ah];right;simpa using h)))
    ·rcases ah.1 hs with hs|hs
     ·exact (md.nb s hs).imp_left fun h=>ah.2 (.inr (aF _ (by rw[cU];exact ah.2 (.inl h))))
     ·grind
 ·have hsp:s≠p:=fun e=>hs (by rw[e];exact ah.2 (.inl aA))
  have Xz:s≠q:=fun e=>hs (by rw[e];exact ah.2 (.inr aA))
  rw[wS s hsp]
  exact md.same s y hsp Xz hy
theorem wU (hMX:∀s y,M s=some y→s<X.heap.size) {wz:Tr.Tx} {zZ:Option Tr.Tx} {Rz:Value} {R5:Nat→Prop} {Fj:List Nat} {l5:List Int} (md:Xl E X0 R0 R ps pg rt M X sb sv l k p q n m I1 i j J A r a b x f1 f2 fa fb R3 M3 X3 la lb jt ox m3)
  (hb4:Below X3.heap.size X3 X4) (qU:jU pg (k+1) n tn) (fD:jU pg (k+1) m tm) (hA:Tr.its tn=A++[(ka,a)]) (hB:Tr.its tm=(kb,b)::r) (k2:iW pg k (dx M pg k) i (ka,a) fa)
  (on:Tr.Ok (k+2) wz (some x) tn) (om:Tr.Ok (k+2) x zZ tm) (hx:x.length≤96) (hc:¬Tr.cut (k+2) tn x tm) (hold:Tr.Old (k+2) tm) (hcut:¬Tr.cut (k+1) a x b)
  (t5:lQ R3 M3 X4 sb sv R5 M5 Rz X5) (No:l5=l++gy (Tr.join k a b x).2) (TF:dx M5 pg k la (Tr.join k a b x).1 Fj) (TG:Fj.Nodup) (hnew:∀s∈Fj,s∈jt++ox∨X4.heap.size≤s) (hsame:∀s y,s∉jt++ox→M3 s=some y→M5 s=some y) {g c:Nat}
  (hto:Gu E X0 R0 R5 ps pg rt M5 X5 sb Rz (upd M5 p (NV.kg {n with its:=I1++[{i with node:=some la}]} ((I1++[{i with node:=some la}])++J) g c m3.hi)) (l5++[m3.page]) X'):
  qw E X0 R0 R ps pg rt M X sb sv (k+1) p n m ((p::(f1++[fa]).flatten)++(q::(fb::f2).flatten)) (Tr.join (k+1) tn tm x).1 (l++gy (Tr.join (k+1) tn tm x).2) X':=by
 have J0:=Tr.pZ (k+1) (Tr.Ok.mix (rN qU on) on) (Tr.Ok.mix om (rN fD om)) hx hc
 have Nl:=Tr.zi (x:=x) on.1 om.1
 have hj:=Tr.kZ (x:=x) hA hB
 rw[if_neg hcut] at hj
 have nP:(Tr.hd tm).page.isSome=true:=hold.1
 have hj2:(Tr.join (k+1) tn tm x).2=(Tr.join k a b x).2++(Tr.hd tm).page.toList:=by rw[hj]
 have hji:Tr.its (Tr.join (k+1) tn tm x).1=A++(ka,(Tr.join k a b x).1)::r:=by rw[hj];rfl
 obtain⟨R6,sv6,s6,t6⟩:=lD.1 hto
 obtain⟨xz,hl2,_⟩:=md.like
 rw[xz] at s6 t6
 obtain⟨sC,hnd⟩:=cD.1 md.nd
 have hdom:∀s,s∈f1.flatten++(jt++(ox++f2.flatten))→∃y,M3 s=some y:=by
  intro s hs
  rcases ah.1 hs with hs|hs
  ·exact md.kl.dom s hs
  ·rcases ah.1 hs with hs|hs
   ·exact md.ra.dom s hs
   ·rcases ah.1 hs with hs|hs
    ·exact md.rb.dom s hs
    ·exact md.kr.dom s hs
 have hlt:∀s y,M3 s=some y→s<X4.heap.size:=fun s y hy=>cW (md.ss.ts.mem.lt hy).1 hb4.size
 have Vv:X.heap.size≤X3.heap.size:=md.xU.but.size
 have hpX:p<X4.heap.size:=hlt p _ md.Xm
 have TH:p∉Fj:=fun e=>by
  rcases hnew p e with e|e
  ·grind
  ·omega
 obtain⟨n1,jg,d1⟩:=aL.1 hnd
 obtain⟨_,zj,d2⟩:=aL.1 jg
 obtain⟨_,n2,d3⟩:=aL.1 zj
 have TI:∀s∈f1.flatten,s∉jt++ox:=fun s hs e=>by
  rcases ah.1 e with e|e
  ·grind
  ·grind
 have TJ:∀s∈f2.flatten,s∉jt++ox:=fun s hs e=>by
  rcases ah.1 e with e|e
  ·grind
  ·exact d3 s e s hs rfl
 have hag:∀s,s∉jt++ox→(∃y,M3 s=some y)→M5 s=M3 s:=fun s hs ⟨y,hy⟩=>by rw[hy];exact hsame s y hs hy
 obtain⟨N6,J_⟩:∃N6,N6=NV.kg {n with its:=I1++[{i with node:=some la}]} ((I1++[{i with node:=some la}])++J) g c m.hi:=⟨_,rfl⟩
 rw[←J_] at s6 t6
 obtain⟨M6,LS⟩:∃M6,M6=upd M5 p N6:=⟨_,rfl⟩
 rw[←LS] at s6 t6
 have hat:M6 p=some N6:=by rw[LS];exact bz _ _ _
 have wS:∀s,s≠p→M6 s=M5 s:=fun s hs=>by rw[LS];exact aO hs
 have fA:N6.its=I1++{i with node:=some la}::J:=by rw[J_];show (I1++[{i with node:=some la}])++J=_;rw[aB];rfl
 have TK:∀s∈f1.flatten,s≠p:=fun s hs e=>sC (by rw[←e];exact ah.2 (.inl hs))
 have TL:∀s∈f2.flatten,s≠p:=fun s hs e=>sC (by rw[←e];exact ah.2 (.inr (ah.2 (.inr (ah.2 (.inr hs))))))
 have e2:(l5++[m3.page]:List Int)=l++gy (Tr.join (k+1) tn tm x).2:=by rw[No,hl2,fD.page,hj2,iK nP,aB];unfold gy;rw[bI]
 rw[e2] at s6
 have hfl:(f1++(Fj::f2)).flatten=f1.flatten++(Fj++f2.flatten):=by simp
 have dj1:∀s∈f1.flatten,∀t∈Fj,s≠t:=by
  intro s hs t ht e
  subst e
  rcases hnew s ht with e|e
  ·exact TI s hs e
  ·obtain⟨y,hy⟩:=md.kl.dom s hs
   have:=hlt s y hy;omega
 have dj2:∀s∈Fj,∀t∈f2.flatten,s≠t:=by
  intro s hs t ht e
  subst e
  rcases hnew s hs with e|e
  ·exact TJ s ht e
  ·obtain⟨y,hy⟩:=md.kr.dom s ht
   have:=hlt s y hy;omega
 refine⟨_,_,p::(f1++(Fj::f2)).flatten,lD.2 ⟨R6,sv6,s6,((md.xU.trans (lQ.still hb4)).trans t5).trans t6⟩,⟨N6,f1++(Fj::f2),hat,by rw[J_];exact uV qU rfl rfl rfl Nl J0.ok.near, ?_,rfl⟩,hat,by rw[J_];rfl,by rw[J_];rfl, ?_,fun s hs=> ?_,fun s y hs hy=> ?_⟩
 ·rw[hji,fA]
  exact (md.kl.frame fun s hs=>(wS s (TK s hs)).trans (hag s (TI s hs) (md.kl.dom s hs))).append (aX.cons (k2.iE la (TF.frame fun s hs=>wS s fun e=>TH (by rw[←e];exact hs))) (md.kr.frame fun s hs=>(wS s (TL s hs)).trans (hag s (TJ s hs) (md.kr.dom s hs))))
 ·rw[hfl]
  refine cD.2 ⟨fun e=> ?_,aL.2 ⟨n1,aL.2 ⟨TG,n2,dj2⟩,fun s hs t ht=> ?_⟩⟩
  ·rcases ah.1 e with e|e
   ·exact TK p e rfl
   ·rcases ah.1 e with e|e
    ·exact TH e
    ·exact TL p e rfl
  ·rcases ah.1 ht with ht|ht
   ·exact dj1 s hs t ht
   ·exact d1 s hs t (ah.2 (.inr (ah.2 (.inr ht))))
 ·rw[hfl] at hs
  have hin:∀s,s∈jt++ox→s∈(p::(f1++[fa]).flatten)++(q::(fb::f2).flatten)∨X.heap.size≤s:=by
   intro s hs
   rcases ah.1 hs with hs|hs
   ·exact (md.na s hs).imp_left fun h=>ah.2 (.inl (aF _ (by simp only[dm,ah];right;simpa using h)))
   ·exact (md.nb s hs).imp_left fun h=>ah.2 (.inr (aF _ (by rw[cU];exact ah.2 (.inl h))))
  rcases aQ.1 hs with hs|hs
  ·exact .inl (ah.2 (.inl (by rw[hs];exact aA)))
  ·rcases ah.1 hs with hs|hs
   ·exact .inl (ah.2 (.inl (aF _ (by simp only[dm,ah];exact .inl hs))))
   ·rcases ah.1 hs with hs|hs
    ·rcases hnew s hs with e|e
     ·exact hin s e
     ·right;have:=hb4.size;omega
    ·exact .inl (ah.2 (.inr (aF _ (by rw[cU];exact ah.2 (.inr hs)))))
 ·have hsp:s≠p:=fun e=>hs (by rw[e];exact ah.2 (.inl aA))
  have Xz:s≠q:=fun e=>hs (by rw[e];exact ah.2 (.inr aA))
  rw[wS s hsp]
  refine hsame s y (fun e=> ?_) (md.same s y hsp Xz hy)
  have hyX:s<X.heap.size:=hMX s y hy
  rcases ah.1 e with e|e
  ·rcases md.na s e with e|e
   ·exact hs (ah.2 (.inl (aF _ (by simp only[dm,ah];right;simpa using e))))
   ·omega
  ·rcases md.nb s e with e|e
   ·exact hs (ah.2 (.inr (aF _ (by rw[cU];exact ah.2 (.inl e)))))
   ·omega
end
end
end Go.Proofs.YtebbahjombdalaaGreatDoor
