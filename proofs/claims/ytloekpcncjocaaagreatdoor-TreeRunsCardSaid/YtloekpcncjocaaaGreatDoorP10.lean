/- Elder texts, cut down and merged (10). -/
import Derived.Test.YtloekpcncjocaaaGreatDoorP9
import Derived.Test.YtloekpcncjocaaaGreatDoorP8
import Derived.Test.YtloekpcncjocaaaGreatDoorP7
import Derived.Test.YtloekpcncjocaaaGreatDoorP4
import Derived.Test.YtloekpcncjocaaaGreatDoorPTk
set_option maxRecDepth 100000
set_option maxHeartbeats 8000000
namespace Go.Proofs.YtloekpcncjocaaaGreatDoor
open Go.RowKit Lib
section
variable {M M':Nat→Option NV} {pg:List (Option Wl.Text)} {k p q:Nat} {n:NV}
theorem s9 (k tot:Nat):∀(is:List It) (xs:List (Tr.Tx×Tr.E k)) (s:Nat),is.map gh=xs.map (Tr.gh k)→dm tot s is=(Tr.bu k tot s xs).1.length
 |[],[],_,_=>rfl
 |[],_::_,_,h=>by cases h
 |_::_,[],_,h=>by cases h
 |[_],[_],_,_=>rfl
 |[_],_::_::_,_,h=>by simp at h
 |_::_::_,[_],_,h=>by simp at h
 |i::j::r,x::y::z,s,h=>by
  have h2:(j::r).map gh=(y::z).map (Tr.gh k):=(List.cons.inj h).2
  have h1:gh i=Tr.gh k x:=(List.cons.inj h).1
  have ih:=s9 k tot (j::r) (y::z) (s+gh i) h2
  unfold Tr.bu
  rw[qG]
  by_cases hs:2*s<tot
  ·rw[if_pos hs,if_pos hs,ih,h1];rfl
  ·rw[if_neg hs,if_neg hs];rfl
theorem zB {R:Nat→Tr.E (k+1)→List Nat→Prop}:∀{is:List It} {xs:List (Tr.Tx×Tr.E (k+1))} {fs:List (List Nat)},aI pg k R is xs fs→is.map gh=xs.map (Tr.gh (k+1))
 |[],[],[],_=>rfl
 |i::is,x::xs,_::fs,h=>by
  have ih:=zB h.2
  rw[List.map_cons,List.map_cons,ih]
  have e:gh i=Tr.gh (k+1) x:=by
   show 2+i.key.length+i.val.length=2+x.1.length+2
   rw[h.1.1,h.1.2.1]
  rw[e]
 |[],[],_::_,h=>h.elim
 |[],_::_,_,h=>h.elim
 |_::_,[],_,h=>h.elim
 |_::_,_::_,[],h=>h.elim
theorem C9 {t:Tr.E (k+1)} {F:List Nat} (hr:b8 M pg k p t F) (hn:M p=some n):n.its.map gh=(Tr.its t).map (Tr.gh k):=by
 cases k with
 |zero=>
  obtain⟨n',h,_,hi,_⟩:=hr
  rw[hn] at h
  cases h
  rw[hi]
  unfold af
  rw[List.map_map]
  rfl
 |succ k=>
  obtain⟨n',fs,h,_,hk,_⟩:=hr
  rw[hn] at h
  cases h
  exact zB hk
theorem BW {L U:List (Tr.Tx×Tr.E k)} (h:n.its.map It.key=(L++U).map (·.1)) (hlv:n.level=k) (hL:L≠[]) (hU:U≠[]):
  between n L.length=if k=0 then Tr.bG (Tr.ow L) (Tr.bk U) else Tr.bk U:=by
 obtain⟨A,a,rfl⟩:=Tr.ck hL
 cases U with
 |nil=>exact absurd rfl hU
 |cons u U=>
  have e1:((A++[a]++u::U).map (·.1)).getD (A++[a]).length []=u.1:=cS (·.1) (A++[a]) u U
  have e2:((A++[a]++u::U).map (·.1)).getD ((A++[a]).length-1) []=a.1:=by
   rw[List.append_assoc]
   have:=cS (·.1) A a (u::U)
   rw[List.length_append]
   exact this
  unfold between
  rw[h,hlv,e1,e2,Tr.ox]
  rfl
theorem Er {R:Nat→Tr.E (k+1)→List Nat→Prop}:∀{is:List It} {xs:List (Tr.Tx×Tr.E (k+1))} {fs:List (List Nat)},aI pg k R is xs fs→aI pg k R (rD is) (Tr.aN [] xs) fs
 |[],[],[],_=>trivial
 |_::_,_::_,_::_,h=>⟨⟨rfl,h.1.2⟩,h.2⟩
 |[],[],_::_,h=>h.elim
 |[],_::_,_,h=>h.elim
 |_::_,[],_,h=>h.elim
 |_::_,_::_,[],h=>h.elim
theorem NC {x:Tr.Tx} (h:x≠[]):gD x=some x:=by unfold gD;rw[if_neg h]
theorem td {t:Tr.E (k+1)} {F:List Nat} {H:Nat} (hr:b8 M pg k p t F) (hn:M p=some n) (hF:F.Nodup) (hq:q∉F) (hb:510<Tr.sz k (Tr.its t)) (hH:H=dm (bz n.its) 0 n.its) (hM:M'=upd (upd M p (ec n H)) q (gK n H)):
  between n H=(Tr.part k t).key∧∃F1 F2,b8 M' pg k p (Tr.part k t).low F1∧b8 M' pg k q (Tr.part k t).up F2∧(F1++F2).Nodup∧∀r∈F1++F2,r∈F∨r=q:=by
 obtain⟨n',hn',ho,Mr⟩:=hr.head
 rw[hn] at hn'
 cases hn'
 have hpq:p≠q:=fun e=>hq (by rw[←e];exact Mr)
 have P:=Tr.lV k ho.near hb
 have hz:=hr.sz hn
 have ND:H=(Tr.bu k (Tr.sz k (Tr.its t)) 0 (Tr.its t)).1.length:=by rw[hH,hz.1];exact s9 k _ _ _ _ (C9 hr hn)
 have hall:=Tr.nh k (Tr.sz k (Tr.its t)) (Tr.its t) 0
 have hne:Tr.its t≠[]:=by intro e;rw[e] at hb;exact absurd hb (by simp[Tr.sz])
 have hU:=Tr.jO k (Tr.sz k (Tr.its t)) (Tr.its t) 0 hne
 have hL:=Tr.jP k _ (Tr.its t) rfl (fun x hx=>by have:=ho.near.2.size x hx;omega) hb
 have hkey:(Tr.part k t).key=if k=0 then Tr.bG (Tr.ow (Tr.bu k (Tr.sz k (Tr.its t)) 0 (Tr.its t)).1) (Tr.bk (Tr.bu k (Tr.sz k (Tr.its t)) 0 (Tr.its t)).2) else Tr.bk (Tr.bu k (Tr.sz k (Tr.its t)) 0 (Tr.its t)).2:=rfl
 have mA:(Tr.part k t).low=Tr.mk ⟨(Tr.hd t).page,true⟩ (Tr.bu k (Tr.sz k (Tr.its t)) 0 (Tr.its t)).1:=rfl
 have uB:(Tr.part k t).up=Tr.mk ⟨none,true⟩ (if k=0 then (Tr.bu k (Tr.sz k (Tr.its t)) 0 (Tr.its t)).2 else Tr.aN [] (Tr.bu k (Tr.sz k (Tr.its t)) 0 (Tr.its t)).2):=rfl
 generalize Tr.bu k (Tr.sz k (Tr.its t)) 0 (Tr.its t)=lu at ND hall hU hL hkey mA uB
 obtain⟨L,U⟩:=lu
 simp only at ND hall hU hL hkey mA uB
 have hkk:=hz.2.1
 rw[←hall] at hkk
 have uA:between n H=(Tr.part k t).key:=by rw[ND,hkey];exact BW hkk ho.level hL hU
 have mK:between n H≠[]:=by
  rw[uA]
  intro e
  have h1:=P.low.lt
  rw[e] at h1
  have h2:Tr.lt n.lo []=true:=h1
  cases hh:n.lo<;>rw[hh] at h2<;>simp[Tr.lt] at h2
 have X8:M' p=some (ec n H):=by rw[hM,aA hpq,aM]
 have X_:M' q=some (gK n H):=by rw[hM,aM]
 have hMo:∀r,r≠p→r≠q→M' r=M r:=fun r h1 h2=>by rw[hM,aA h2,aA h1]
 have ol:iC pg k (ec n H) (Tr.part k t).low:=by
  refine⟨ho.level, ?_, ?_, ?_,fun hf=> ?_⟩
  ·rw[mA];exact ho.page
  ·rw[mA];rfl
  ·show Tr.fJ k n.lo (gD (between n H)) _
   rw[NC mK,uA];exact P.low.near
  ·rw[mA] at hf;cases hf
 have ou:iC pg k (gK n H) (Tr.part k t).up:=by
  refine⟨ho.level, ?_, ?_, ?_,fun hf=> ?_⟩
  ·rw[uB];rfl
  ·rw[uB];rfl
  ·show Tr.fJ k (between n H) (gD n.hi) _
   rw[uA];exact P.up.near
  ·rw[uB] at hf;cases hf
 refine⟨uA, ?_⟩
 cases k with
 |zero=>
  obtain⟨n',h,_,hi,Ya⟩:=hr
  rw[hn] at h
  cases h
  rw[←hall] at hi
  have hi2:n.its=af 0 L++af 0 U:=by rw[hi];unfold af;rw[List.map_append]
  have hlen:(af 0 L).length=H:=by rw[ND];unfold af;rw[List.length_map]
  refine⟨[p],[q],⟨_,X8,ol, ?_,rfl⟩,⟨_,X_,ou, ?_,rfl⟩,by simpa using hpq,fun r hr=> ?_⟩
  ·show n.its.take H=_
   rw[hi2,mA,←hlen,List.take_left];rfl
  ·show (if n.level=0 then n.its.drop H else rD (n.its.drop H))=_
   rw[if_pos ho.level,hi2,uB,←hlen,List.drop_left];rfl
  ·rcases List.mem_append.1 hr with hr|hr
   ·left;rw[List.mem_singleton.1 hr];exact Mr
   ·right;exact List.mem_singleton.1 hr
 |succ k=>
  obtain⟨n',fs,h,_,hks,Ya⟩:=hr
  rw[hn] at h
  cases h
  rw[←hall] at hks
  obtain⟨i1,i2,f1,f2,hi,rfl,k1,k2⟩:=hks.parts
  subst Ya
  have hlen:i1.length=H:=by rw[ND];exact k1.len.1
  have hnd:=List.nodup_cons.1 hF
  have hfr:∀r∈(f1++f2).flatten,M' r=M r:=fun r hr=>hMo r (fun e=>hnd.1 (by rw[←e];exact hr)) (fun e=>hq (by rw[←e];exact List.mem_cons_of_mem _ hr))
  have k1':=k1.frame fun r hr=>hfr r (by rw[List.flatten_append];exact List.mem_append.2 (.inl hr))
  have k2':=k2.frame fun r hr=>hfr r (by rw[List.flatten_append];exact List.mem_append.2 (.inr hr))
  have gG:=hnd.2
  have pK:=hnd.1
  rw[List.flatten_append] at gG pK
  refine⟨p::f1.flatten,q::f2.flatten,⟨_,f1,X8,ol, ?_,rfl⟩,⟨_,f2,X_,ou, ?_,rfl⟩, ?_,fun r hr=> ?_⟩
  ·show aI pg k _ (n.its.take H) _ _
   rw[hi,←hlen,List.take_left,mA]
   exact k1'
  ·show aI pg k _ (if n.level=0 then n.its.drop H else rD (n.its.drop H)) _ _
   rw[if_neg (by rw[ho.level];omega),hi,←hlen,List.drop_left,uB]
   exact Er k2'
  ·have KO:q∉f1.flatten++f2.flatten:=fun e=>hq (List.mem_cons_of_mem _ (by rw[List.flatten_append];exact e))
   have hd:=List.nodup_append.1 gG
   refine List.nodup_append.2 ⟨List.nodup_cons.2 ⟨fun e=>pK (List.mem_append.2 (.inl e)),hd.1⟩,List.nodup_cons.2 ⟨fun e=>KO (List.mem_append.2 (.inr e)),hd.2.1⟩,fun r hr s hs e=> ?_⟩
   subst e
   rcases List.mem_cons.1 hr with hr|hr
   ·rcases List.mem_cons.1 hs with hs|hs
    ·exact hpq (hr.symm.trans hs)
    ·rw[hr] at hs;exact pK (List.mem_append.2 (.inr hs))
   ·rcases List.mem_cons.1 hs with hs|hs
    ·rw[hs] at hr;exact KO (List.mem_append.2 (.inl hr))
    ·exact hd.2.2 r hr r hs rfl
  ·rw[List.flatten_append]
   rcases List.mem_append.1 hr with hr|hr
   ·rcases List.mem_cons.1 hr with hr|hr
    ·left;rw[hr];exact List.mem_cons_self
    ·exact .inl (List.mem_cons_of_mem _ (List.mem_append.2 (.inl hr)))
   ·rcases List.mem_cons.1 hr with hr|hr
    ·exact .inr hr
    ·exact .inl (List.mem_cons_of_mem _ (List.mem_append.2 (.inr hr)))
end
section
variable {E:Ev} {X0 X X':World} {R0 R R' S:Nat→Prop} {ps ps':List (Nat×List UInt8)} {pg bN:List (Option Wl.Text)} {rt rt':List Nat} {M M':Nat→Option NV} {p q:Nat} {n m:NV}
structure xE (E:Ev) (X0:World) (R0 R:Nat→Prop) (ps:List (Nat×List UInt8)) (pg:List (Option Wl.Text)) (rt:List Nat) (M:Nat→Option NV) (X:World) (p:Nat) (n:NV) (k:Nat) (I1:List It) (i:It) (I2:List It) (A:List (Tr.Tx×Tr.E (k+1))) (c:Tr.E (k+1)) (B:List (Tr.Tx×Tr.E (k+1))) (f1 f2:List (List Nat)) (f:List Nat) (q:Nat) (M':Nat→Option NV) (R':Nat→Prop) (fq:List Nat) (X':World):Prop where
 ts:TS E X0 R0 R' ps pg rt M' X'
 at_:M' p=some {n with its:=I1++{i with node:=some q}::I2}
 vS:b8 M' pg k q c fq
 left:aI pg k (b8 M' pg k) I1 A f1
 right:aI pg k (b8 M' pg k) I2 B f2
 same:∀r m,r≠p→M r=some m→M' r=some m
 news:∀r∈fq,r∈f∨X.heap.size≤r
 nd:fq.Nodup
 size:X.heap.size≤X'.heap.size
 but:aj (fun b=>b=n.rg) X X'
 sub:∀b,R b→R' b
 new:∀b,R' b→R b∨X.heap.size≤b
 mb:∀b,MB M' b→MB M b∨X.heap.size≤b
theorem Es {k:Nat} {t:Tr.E (k+2)} {I1 I2:List It} {i:It} {A B:List (Tr.Tx×Tr.E (k+1))} {key:Tr.Tx} {c:Tr.E (k+1)} {f1 f2:List (List Nat)} {f:List Nat}
  (h:TS E X0 R0 R ps pg rt M X) (hp:M p=some n) (ho:iC pg (k+1) n t) (hi:n.its=I1++i::I2) (ht:Tr.its t=A++(key,c)::B) (h1:aI pg k (b8 M pg k) I1 A f1) (h0:gE pg k (b8 M pg k) i (key,c) f) (h2:aI pg k (b8 M pg k) I2 B f2) (hnd:(p::(f1++f::f2).flatten).Nodup) (hk:k≤15):
  Calls Tryz.prog 59 #[ptr E.tb,ptr p,.int .i64 A.length] X fun e X'=>∃q M' R' fq,e=.returned (.tuple #[ptr q,.int .i64 0])∧xE E X0 R0 R ps pg rt M X p n k I1 i I2 A c B f1 f2 f q M' R' fq X':=by
 have kg:=h1.len.1
 have hj:A.length<n.its.length:=by rw[hi,List.length_append,kg,List.length_cons];omega
 have fV:n.its[A.length]=i:=by
  have e:n.its[A.length]?=some i:=by rw[hi,←kg,List.getElem?_append_right (Nat.le_refl _),Nat.sub_self];rfl
  rw[List.getElem?_eq_getElem hj] at e
  exact Option.some.inj e
 have pK:p∉(f1++f::f2).flatten:=(List.nodup_cons.1 hnd).1
 have C_:(f1++f::f2).flatten.Nodup:=(List.nodup_cons.1 hnd).2
 obtain⟨hik,hiv,BX⟩:=h0
 rcases BX with⟨hnone,hfe,hval,hst⟩|⟨q,hq,hr⟩
 ·obtain⟨⟨page,bD,mB,uQ⟩,hfr,oR⟩:=hst
  have gF:=jw ho.near ht (by
   have hh:aI pg k (b8 M pg k) n.its (Tr.its t) (f1++f::f2):=by
    rw[hi,ht]
    exact h1.append ⟨⟨hik,hiv,.inl ⟨hnone,hfe,hval,⟨⟨page,bD,mB,uQ⟩,hfr,oR⟩⟩⟩,h2⟩
   exact hh.keys)
  have jx:=eP hk ⟨⟨page,bD,mB,uQ⟩,hfr,oR⟩ bD gF
  have hv:n.its[A.length].val=pv page:=by
   rw[fV,hval]
   show pv ((Tr.hd c).page.getD 0)=_
   rw[bD];rfl
  refine (p7 h hp A.length hj (by rw[fV];exact hnone) page mB hv k ho.level (af k (Tr.its c)) jx).mono ?_
  rintro e X' ⟨q,rg,cap,R',rfl,hts,KO,KP,ig,hR,vI⟩
  have mC:n.its.set A.length {(n.its.getD A.length ⟨[],[],none⟩) with node:=some q}=I1++{i with node:=some q}::I2:=by
   have hg:n.its.getD A.length ⟨[],[],none⟩=i:=by rw[List.getD_eq_getElem?_getD,List.getElem?_eq_getElem hj];exact fV
   rw[hg,hi,←kg,List.set_append_right _ _ (Nat.le_refl _),Nat.sub_self]
   rfl
  rw[mC] at hts
  obtain⟨M',xF⟩:∃M',M'=upd (upd M q (NV.got k (af k (Tr.its c)) rg cap page (cZ n A.length) (cL n A.length))) p {n with its:=I1++{i with node:=some q}::I2}:=⟨_,rfl⟩
  rw[←xF] at hts
  have bY:=(h.mem.lt hp).1
  have hpq:q≠p:=by omega
  have hsame:∀r m,r≠p→M r=some m→M' r=some m:=by
   intro r m hr hm
   have vM:r≠q:=by have:=(h.mem.lt hm).1;omega
   rw[xF,aA hr,aA vM]
   exact hm
  have QE:∀{fs:List (List Nat)},(∀r∈fs.flatten,r∈(f1++f::f2).flatten∧∃m,M r=some m)→∀r∈fs.flatten,M' r=M r:=by
   intro fs hfs r hr
   obtain⟨hm1,m,hm2⟩:=hfs r hr
   rw[hm2]
   exact hsame r m (fun e=>pK (by rw[←e];exact hm1)) hm2
  refine⟨q,M',R',[q],rfl,⟨hts,by rw[xF,aM], ?_, ?_, ?_,hsame,fun r hr=>by rw[List.mem_singleton.1 hr];exact .inr KO,by simp, ?_,ig,hR,vI, ?_⟩⟩
  ·exact C8 ⟨⟨page,bD,mB,uQ⟩,hfr,oR⟩ bD gF (by rw[xF,aA hpq,aM])
  ·exact h1.frame (QE fun r hr=>⟨by rw[List.flatten_append];exact List.mem_append.2 (.inl hr),h1.dom r hr⟩)
  ·exact h2.frame (QE fun r hr=>⟨by rw[List.flatten_append,List.flatten_cons];exact List.mem_append.2 (.inr (List.mem_append.2 (.inr hr))),h2.dom r hr⟩)
  ·exact ig.size
  ·rintro b ⟨r,m,hr,hb⟩
   rw[xF] at hr
   rcases ak hr with⟨rfl,rfl⟩|⟨_,hr⟩
   ·exact .inl ⟨_,n,hp,hb⟩
   ·rcases ak hr with⟨rfl,rfl⟩|⟨_,hr⟩
    ·right
     rcases hb with rfl|rfl
     ·exact KO
     ·exact KP
    ·exact .inl ⟨r,m,hr,hb⟩
 ·refine (qI h hp A.length hj (by rw[fV];exact hq)).mono ?_
  rintro e X' ⟨rfl,rfl⟩
  have hi':{i with node:=some q}=i:=by cases i;simp only at hq;subst hq;rfl
  refine⟨q,M,R,f,rfl,⟨h, ?_,hr,h1,h2,fun _ _ _ h=>h,fun r hr=>.inl hr, ?_,Nat.le_refl _,aj.refl _ _,fun _ h=>h,fun _ h=>.inl h,fun _ h=>.inl h⟩⟩
  ·rw[hi',←hi];exact hp
  ·rw[List.flatten_append,List.flatten_cons] at C_
   exact (List.nodup_append.1 (List.nodup_append.1 C_).2.1).1
end
theorem p9 (w:World) (k:Nat) (h0:0<k) (h:k≤1000000) (ty:TypeId):
  ∃(c:Nat) (Z:List Value),(Builtin.append_ #[86,3] ty #[.slice none 0 0,.int .i64 k]).run Tryz.prog w=.ok (.slice (some ⟨w.heap.size,0,none⟩) k c) (w.drew.alloc (.cells Z.toArray 95))∧k≤c∧c≤maxLen∧Z.length=c*3:=by
 obtain⟨inf,hi,hz,hsz,hby⟩:=lN (P:=Tryz.prog) (E:=95) (size:=3) (bytes:=40) (z:=.agg #[.string .empty,.string .empty,.pointer none]) (by kernel_rfl)
 have hold:(Builtin.firstCells inf.size 0 (.slice none 0 0)).run Tryz.prog w.drew=.ok ([]:List Value).toArray w.drew:=by simp[Builtin.firstCells]
 have hrun:=Lib.run_append_grow_zeros (P:=Tryz.prog) w 86 3 ty 95 inf _ .i64 .i64 Tryz.underlying86 (by kernel_rfl) hi hz none 0 0 [] hold k h0 (by omega) (by omega) (by omega) (by rw[hby];omega) (growslice_fits (by omega) (by rw[hby];omega))
 have hge:=grownCap_ge w (0+k) 0 95
 have h3:(Value.agg #[.string .empty,.string .empty,.pointer none]).cells.size=3:=rfl
 have hA:=fy (Value.agg #[.string .empty,.string .empty,.pointer none]).cells k
 have hB:=fy (Value.agg #[.string .empty,.string .empty,.pointer none]).cells (grownCap w (0+k) 0 95-(0+k))
 generalize Builtin.zeroCells (Value.agg #[.string .empty,.string .empty,.pointer none]).cells k=A at*
 generalize Builtin.zeroCells (Value.agg #[.string .empty,.string .empty,.pointer none]).cells (grownCap w (0+k) 0 95-(0+k))=Bz at*
 have e:([]:List Value).toArray++A++Bz=((A++Bz).toList).toArray:=by
  apply Array.ext'
  simp only[Array.toList_append,List.nil_append]
 rw[e,Nat.zero_add] at hrun
 rw[Nat.zero_add] at hge hB
 refine⟨_,(A++Bz).toList,hrun,hge,grownCap_le_maxLen _ _ _ _ (by unfold maxLen;omega), ?_⟩
 rw[Array.length_toList,Array.size_append,hA,hB,h3]
 omega
theorem BZ (w:World) (k:Nat) (h0:0<k) (h:k≤1000000):
  Calls Tryz.prog 195 #[.slice none 0 0,.int .i64 k] w fun e w'=>∃g c,e=.returned (.slice (some ⟨g,0,none⟩) 0 c)∧aD w.heap.size w' (.slice (some ⟨g,0,none⟩) 0 c) []∧Below w.heap.size w w':=by
 obtain⟨c,Z,hrun,hc1,vg,JD⟩:=p9 w k h0 h 86
 have HR:=aa hrun
 have HC:=aa (And.intro hc1 (And.intro vg JD))
 have pH:(0:Int)<k:=by omega
 have aak:(k:Int)≤1000000:=by omega
 have vB:(0:Int)≤c:=by omega
 clear hrun hc1 vg JD h0 h
 go_enter Tryz.func195,Tryz.ntmps195
 go_wp2_with (at_builtin;refine Hid.out ?_)
 refine aa ?_
 refine Lib.wpList_append_run _ rfl _ _ _ _ rfl _ _ rfl rfl _ _ HR.out ?_
 have HE:=aa (show aD w.heap.size (w.drew.alloc (.cells Z.toArray 95)) (.slice (some ⟨w.heap.size,0,none⟩) 0 c) []∧Below w.heap.size w (w.drew.alloc (.cells Z.toArray 95)) from
  ⟨dy (l:=[]) (R:=Z) (by exact heap_alloc_new w.drew _) (by exact HC.out.2.2) rfl (Nat.zero_le _) HC.out.2.1 (Nat.le_refl _),(Below.refl _ w).drew.alloc (Nat.le_refl _) _⟩)
 go_wp2
 go_ret
 exact⟨_,c,rfl,HE.out.1,HE.out.2⟩
def Hg (w:World) (l:List It) (e:Ending) (w':World):Prop:=∃v,e=.returned v∧aD w.heap.size w' v l∧Below w.heap.size w w'
theorem xG (w:World) (a g1 o1 c1 g2 o2 c2:Nat) (l m:List It) (ha:aG w a 86 [.slice (some ⟨g1,o1,none⟩) l.length c1,.slice (some ⟨g2,o2,none⟩) m.length c2]) (h1:aJ ah w g1 o1 l) (h2:aJ ah w g2 o2 m) (hl:l.length≤400) (hm:m.length≤400) (hpos:0<l.length+m.length):
  Calls Tryz.prog 182 #[.slice (some ⟨a,0,none⟩) 2 2] w fun e w'=>Hg w (l++m) e w':=by
 have gz:(l.length:Int)≤400:=by omega
 have Ky:(m.length:Int)≤400:=by omega
 have b0:=ha.cell (j:=0) rfl
 have b1:=ha.cell (j:=1) rfl
 have HH:=aa (And.intro ha (And.intro h1 h2))
 have HC:=aa (BZ w (l.length+m.length) hpos (by omega))
 have Yb:=aa (And.intro hl hm)
 obtain⟨L,hL⟩:∃L,L=l.length:=⟨_,rfl⟩
 obtain⟨M,hM⟩:∃M,M=m.length:=⟨_,rfl⟩
 rw[←hL] at b0 gz
 rw[←hM] at b1 Ky
 rw[←hL,←hM] at HC
 have HL:=aa (And.intro hL hM)
 clear ha h1 h2 hl hm hpos hL hM
 go_enter Tryz.func182,Tryz.ntmps182
 go_wp2
 go_loopw [3,11] (fun sv iv wr=>∃j s:Nat,iv=.int .i64 j∧sv=.int .i64 s∧Hid (j=0∧0=s∨j=1∧L=s∨j=2∧L+M=s)∧w=wr) (fun _ iv _=>2-(RowKit.intOf iv).toNat)
 case atStart=>exact⟨0,0,rfl,rfl,aa (.inl ⟨rfl,rfl⟩),rfl⟩
 case round=>
  obtain⟨j,s,rfl,rfl,hj,rfl⟩:=hrel
  rcases hj.out with⟨rfl,rfl⟩|⟨rfl,rfl⟩|⟨rfl,rfl⟩
  ·go_wp2
   go_roundw
   case rel=>exact⟨1,L,by go_num,by go_num,aa (.inr (.inl ⟨rfl,rfl⟩)),trivial⟩
   case measure=>simp[RowKit.intOf]
  ·have h0:(0:Int)≤(L:Int)+M:=by omega
   go_wp2
   go_roundw
   case rel=>exact⟨2,L+M,by go_num,by go_num,aa (.inr (.inr ⟨rfl,rfl⟩)),trivial⟩
   case measure=>simp[RowKit.intOf]
  ·go_wp2_with fail
   refine HC.out.mono ?_
   rintro e w1 ⟨g,c,rfl,ho,hb⟩
   have H1:=aa (And.intro ho hb)
   have d0:=(hb.cell (p:=⟨a,0,none⟩) HH.out.1.lt).trans b0
   have d1:=(hb.cell (p:=⟨a,1,none⟩) HH.out.1.lt).trans b1
   clear ho hb b0 b1
   go_wp2
   go_loopw [6,27] (fun sv iv wr=>∃j:Nat,iv=.int .i64 j∧∃(q:Option Addr) (nn cc:Nat) (p:List It),sv=.slice q nn cc∧Hid (j=0∧p=[]∨j=1∧p=l∨j=2∧p=l++m)∧Hid (aD w.heap.size wr (.slice q nn cc) p)∧Hid (Below w.heap.size w wr)) (fun _ iv _=>2-(RowKit.intOf iv).toNat)
   case atStart=>exact⟨0,rfl,_,_,_,[],rfl,aa (.inl ⟨rfl,rfl⟩),aa H1.out.1,aa H1.out.2⟩
   case round=>
    obtain⟨j,rfl,q,nn,cc,p,rfl,hj,hO,hB⟩:=hrel
    have f0:=(hB.out.cell (p:=⟨a,0,none⟩) HH.out.1.lt).trans (HH.out.1.cell (j:=0) rfl)
    have f1:=(hB.out.cell (p:=⟨a,1,none⟩) HH.out.1.lt).trans (HH.out.1.cell (j:=1) rfl)
    rw[←HL.out.1] at f0
    rw[←HL.out.2] at f1
    rcases hj.out with⟨rfl,hp⟩|⟨rfl,hp⟩|⟨rfl,hp⟩
    ·rw[hp] at hO
     clear hp hj
     have zC:aJ ah wr g1 o1 l:=cN HH.out.2.1 hB.out
     go_wp2_with (refine mZ (K:=ah) sq rfl _ _ rfl rfl hO.out hB.out.size g1 o1 L c1 l rfl HL.out.1.symm zC (show ([]:List It).length+L≤1000000000 by have:=Yb.out;have:=HL.out;simp only[List.length_nil];omega) ?_;intro v2 w2 cR cP;refine Hid.out ?_)
     refine aa ?_
     have Bv:=aa (hB.out.grown cP hB.out.size fun k e=>(Own.block hO.out k e).1)
     obtain⟨q2,c2',Jy,NF⟩:=Own.slice cR
     subst Jy
     have OU:=aa cR
     clear cR cP NF
     go_wp2
     go_roundw
     case rel=>exact⟨1,by go_num,_,_,_,l,rfl,aa (.inr (.inl ⟨rfl,rfl⟩)),OU,Bv⟩
     case measure=>simp[RowKit.intOf]
    ·rw[hp] at hO
     clear hp hj
     have zC:aJ ah wr g2 o2 m:=cN HH.out.2.2 hB.out
     go_wp2_with (refine mZ (K:=ah) sq rfl _ _ rfl rfl hO.out hB.out.size g2 o2 M c2 m rfl HL.out.2.symm zC (show l.length+M≤1000000000 by have:=Yb.out;have:=HL.out;omega) ?_;intro v2 w2 cR cP;refine Hid.out ?_)
     refine aa ?_
     have Bv:=aa (hB.out.grown cP hB.out.size fun k e=>(Own.block hO.out k e).1)
     obtain⟨q2,c2',Jy,NF⟩:=Own.slice cR
     subst Jy
     have OU:=aa cR
     clear cR cP NF
     go_wp2
     go_roundw
     case rel=>exact⟨2,by go_num,_,_,_,l++m,rfl,aa (.inr (.inr ⟨rfl,rfl⟩)),OU,Bv⟩
     case measure=>simp[RowKit.intOf]
    ·rw[hp] at hO
     clear hp hj
     have HE:=aa (show Hg w (l++m) (.returned (.slice q nn cc)) wr from⟨_,rfl,hO.out,hB.out⟩)
     go_wp2
     go_ret
     exact HE.out
section
variable {E:Ev} {X0 X X':World} {R0 R R' S:Nat→Prop} {ps ps':List (Nat×List UInt8)} {pg bN:List (Option Wl.Text)} {rt rt':List Nat} {M M':Nat→Option NV} {p q:Nat} {n m:NV}
theorem Mem.renew (h:Mem X M) (hp:M p=some n) (n':NV) (hb:aj S X X') (hS:∀k,S k→k=p∨(k=n.rg∧n.own=true)) (hn:Nd X' p n') (hro:n'.ro=0) (hown:aD 0 X' (.slice (some ⟨n'.rg,0,none⟩) n'.its.length n'.cap) n'.its) (hr:(n'.rg=n.rg∧n.own=true)∨X.heap.size≤n'.rg):Mem X' (upd M p n'):=by
 have xH:∀r m,r≠p→M r=some m→¬S r∧¬S m.rg:=by
  intro r m hr hm
  refine⟨fun hs=> ?_,fun hs=> ?_⟩
  ·rcases hS r hs with e|⟨e,_⟩
   ·exact hr e
   ·exact h.BO hp hm e.symm
  ·rcases hS m.rg hs with e|⟨e,ho⟩
   ·exact h.BO hm hp e
   ·rcases h.apart r p m n hm hp hr with e2|⟨_,e2,_⟩
    ·exact e2 e
    ·rw[ho] at e2;cases e2
 refine⟨fun r m hr=> ?_,fun r m hr=> ?_,fun r r' m m' jf jG hne=> ?_,fun r m hr ho=> ?_⟩
 ·rcases ak hr with⟨rfl,rfl⟩|⟨hne,JG⟩
  ·exact hn
  ·exact (h.nd r m JG).but hb (xH r m hne JG).1 (xH r m hne JG).2
 ·rcases ak hr with⟨rfl,rfl⟩|⟨hne,JG⟩
  ·exact aD.ty hown
  ·obtain⟨cur,hc⟩:=h.ty r m JG
   exact⟨cur,by rw[hb.block m.rg (h.lt JG).2 (xH r m hne JG).2];exact hc⟩
 ·have hap:∀r m,r≠p→M r=some m→n'.rg≠m.rg:=by
   intro r m hr hm
   rcases hr':hr with _
   rcases ‹(n'.rg=n.rg∧n.own=true)∨X.heap.size≤n'.rg› with⟨e,ho⟩|e
   ·rw[e]
    rcases h.apart p r n m hp hm (fun e=>hr e.symm) with e2|⟨e2,_⟩
    ·exact e2
    ·rw[ho] at e2;cases e2
   ·have:=(h.lt hm).2;omega
  rcases ak jf with⟨rfl,rfl⟩|⟨Nr,hM1⟩
  ·rcases ak jG with⟨rfl,rfl⟩|⟨qW,hM2⟩
   ·exact absurd rfl hne
   ·exact .inl (hap _ _ qW hM2)
  ·rcases ak jG with⟨rfl,rfl⟩|⟨qW,hM2⟩
   ·exact .inl fun e=>hap _ _ Nr hM1 e.symm
   ·exact h.apart r r' m m' hM1 hM2 hne
 ·rcases ak hr with⟨rfl,rfl⟩|⟨hne,JG⟩
  ·exact⟨hro,hown⟩
  ·obtain⟨h1,h2⟩:=h.own r m JG ho
   refine⟨h1,Own.but h2 hb fun k hk=> ?_⟩
   have e:some m.rg=some k:=hk
   injection e with e
   rw[←e];exact (xH r m hne JG).2
def Dom (M M':Nat→Option NV):Prop:=∀r y,M r=some y→∃y',M' r=some y'
theorem Dom.refl (M:Nat→Option NV):Dom M M:=fun _ y h=>⟨y,h⟩
theorem Dom.trans {M M1 M2:Nat→Option NV} (h:Dom M M1) (h':Dom M1 M2):Dom M M2:=fun r y hy=>by
 obtain⟨y1,h1⟩:=h r y hy
 exact h' r y1 h1
theorem Dom.upd (M:Nat→Option NV) (p:Nat) (n:NV):Dom M (upd M p n):=fun r y hy=>by
 by_cases e:r=p
 ·subst e;exact⟨n,aM _ _ _⟩
 ·exact⟨y,by rw[aA e];exact hy⟩
theorem Dom.but {M M':Nat→Option NV} {p:Nat} {n:NV} (hp:M' p=some n) (h:∀r m,r≠p→M r=some m→M' r=some m):Dom M M':=fun r y hy=>by
 by_cases e:r=p
 ·subst e;exact⟨n,hp⟩
 ·exact⟨y,h r y e hy⟩
structure SS (E:Ev) (X0:World) (R0 R:Nat→Prop) (ps:List (Nat×List UInt8)) (pg:List (Option Wl.Text)) (rt:List Nat) (M:Nat→Option NV) (X:World) (sb:Nat) (sv:Value) (l:List Int):Prop where
 ts:TS E X0 R0 R ps pg rt M X
 blk:aG X sb 132 [ptr E.tb,sv]
 sp:eo 0 X sv l
 rK:R sb∧X0.heap.size≤sb∧¬MB M sb
 FB:∀k,sv.ownBlock=some k→R k∧X0.heap.size≤k∧¬MB M k
variable {sb:Nat} {sv:Value} {l:List Int}
theorem SS.still (h:SS E X0 R0 R ps pg rt M X sb sv l) (hb:Below X.heap.size X X'):SS E X0 R0 R ps pg rt M X' sb sv l:=
 ⟨h.ts.still hb (fun _ h=>h) (fun _ h=>.inl h),h.blk.below hb h.blk.lt,Own.below h.sp hb (Nat.le_refl _),h.rK,h.FB⟩
theorem SS.nodes (h:SS E X0 R0 R ps pg rt M X sb sv l) (ht:TS E X0 R0 R' ps pg rt M' X') (hb:aj S X X') (hS:∀k,S k→MB M k) (hR:∀k,R k→R' k) (hm:∀k,MB M' k→MB M k∨X.heap.size≤k):SS E X0 R0 R' ps pg rt M' X' sb sv l:=by
 have hsb:=h.blk.lt
 have hsp:=Own.block h.sp
 refine⟨ht,h.blk.but hb fun hs=>h.rK.2.2 (hS _ hs),Own.but h.sp hb fun k hk hs=>(h.FB k hk).2.2 (hS _ hs),⟨hR _ h.rK.1,h.rK.2.1,fun hk=> ?_⟩,fun k hk=>⟨hR _ (h.FB k hk).1,(h.FB k hk).2.1,fun hk2=> ?_⟩⟩
 ·rcases hm _ hk with hk|hk
  ·exact h.rK.2.2 hk
  ·omega
 ·rcases hm _ hk2 with hk2|hk2
  ·exact (h.FB k hk).2.2 hk2
  ·have:=(hsp k hk).2;omega
theorem SS.left (h:SS E X0 R0 R ps pg rt M X sb sv l) {x:Int} {e:Ending} (hl:h_ X sb E.tb sv (l++[x]) e X'):∃cM R',SS E X0 R0 R' ps pg rt M X' sb cM (l++[x])∧(∀k,R k→R' k)∧(∀k,R' k→R k∨X.heap.size≤k)∧aj (fun k=>k=sb∨sv.ownBlock=some k) X X'∧(∀k,cM.ownBlock=some k→sv.ownBlock=some k∨X.heap.size≤k):=by
 obtain⟨_,cM,h1,h2,h3,h4⟩:=hl
 have hS:∀k,(k=sb∨sv.ownBlock=some k)→R k∧X0.heap.size≤k∧¬MB M k:=by
  intro k hk
  rcases hk with rfl|hk
  ·exact h.rK
  ·exact h.FB k hk
 have hmem:=h.ts.mem.keep h3 fun k hk hs=>(hS k hs).2.2 hk
 have hlt:=Own.block h2
 have QF:=Own.block h.sp
 refine⟨cM,fun k=>R k∨(cM.ownBlock=some k),⟨h.ts.own h3 (fun k _ hs=>⟨(hS k hs).1,(hS k hs).2.1⟩) hmem (fun k hk=>⟨.inl (h.ts.gM k hk).1,(h.ts.gM k hk).2⟩) (fun k hk=>.inl hk) (fun k hk=> ?_),h1,h2,⟨.inl h.rK.1,h.rK.2⟩,fun k hk=>⟨.inr hk, ?_⟩⟩,fun k hk=>.inl hk,fun k hk=> ?_,h3,fun k hk=> ?_⟩
 ·rcases hk with hk|hk
  ·exact .inl hk
  ·rcases h4 with h4|h4
   ·rw[h4] at hk;exact .inl (h.FB k hk).1
   ·exact .inr ⟨h4 k hk,(hlt k hk).2⟩
 ·rcases h4 with h4|h4
  ·rw[h4] at hk;exact (h.FB k hk).2
  ·refine⟨Nat.le_trans h.ts.but.size (h4 k hk),fun hm=> ?_⟩
   have:=h.ts.mem.iN hm
   have:=h4 k hk
   omega
 ·rcases hk with hk|hk
  ·exact .inl hk
  ·rcases h4 with h4|h4
   ·rw[h4] at hk;exact .inl (h.FB k hk).1
   ·exact .inr (h4 k hk)
 ·rcases h4 with h4|h4
  ·rw[h4] at hk;exact .inl hk
  ·exact .inr (h4 k hk)
end
namespace Tr
theorem Ok.mix:∀{k:Nat} {SU UC:Tx} {h1 h2:Option Tx} {n:E (k+1)},Ok (k+1) SU h1 n→Ok (k+1) UC h2 n→Ok (k+1) SU h2 n
 |0,_,_,_,_,_,o1,o2=>⟨o1.1,o1.2.1,o1.2.2.1,o2.2.2.2⟩
 |k+1,SU,UC,h1,h2,n,o1,o2=>by
  obtain⟨a1,a2,a3,a4⟩:=o1
  obtain⟨_,_,_,b4⟩:=o2
  refine⟨a1,a2,a3, ?_⟩
  rw[b7] at a4 b4 ⊢
  cases hi:its n with
  |nil=>trivial
  |cons a r=>
   rw[hi] at a4 b4
   cases r with
   |nil=>exact Ok.mix (show Ok (k+1) SU h1 a.2 from a4) (show Ok (k+1) UC h2 a.2 from b4)
   |cons b r=>exact⟨a4.1,a4.2.1,b4.2.2⟩
end Tr
section
variable {E:Ev} {X0 X X':World} {R0 R R' S:Nat→Prop} {ps ps':List (Nat×List UInt8)} {pg bN:List (Option Wl.Text)} {rt rt':List Nat} {M M':Nat→Option NV} {p q:Nat} {n m:NV} {sb:Nat} {sv:Value} {l:List Int}
def NV.iO (n:NV) (its:List It) (g c:Nat) (hi:List UInt8):NV:=⟨n.level,its,g,0,c,n.page,n.lo,hi,n.was,n.at_,true,true⟩
theorem SS.row (h:SS E X0 R0 R ps pg rt M X sb sv l) (hp:M p=some n) {X7 X9:World} (hb:Below X.heap.size X X7) {its:List It} {g c:Nat} {hi:List UInt8} {hh:ByteArray} (hhi:bs hi=hh) (ho:aD X.heap.size X7 (.slice (some ⟨g,0,none⟩) its.length c) its) (hl:its.length≤400) (he:∀i∈its,i.key.length≤200∧i.val.length≤200)
  {L:Nat} (hL:L=its.length) (hX:X9=((X7.setCell ⟨p,1,none⟩ (.slice (some ⟨g,0,none⟩) L c)).setCell ⟨p,4,none⟩ (.string hh)).setCell ⟨p,7,none⟩ (.bool true)):
  ∃R',SS E X0 R0 R' ps pg rt (upd M p (n.iO its g c hi)) X9 sb sv l∧(∀k,R k→R' k)∧(∀k,R' k→R k∨X.heap.size≤k)∧aj (fun k=>k=p) X X9∧∀k,MB (upd M p (n.iO its g c hi)) k→MB M k∨X.heap.size≤k:=by
 subst hL
 have hS7:=h.still hb
 have NG:X.heap.size≤g∧g<X7.heap.size:=Own.block ho g rfl
 have bY:=h.ts.mem.lt hp
 have JB:g≠p:=by omega
 have gI:aj (fun k=>k=p) X7 X9:=by
  rw[hX]
  exact (((aj.refl (fun k=>k=p) X7).setCell _ _ fun _=>rfl).setCell _ _ fun _=>rfl).setCell _ _ fun _=>rfl
 have how:aD 0 X9 (.slice (some ⟨g,0,none⟩) its.length c) its:=Own.but (Own.mono ho (Nat.zero_le _)) gI fun k hk e=>JB (by have e2:some g=some k:=hk;injection e2 with e2;rw[e2,e])
 have hcap:=eZ ho
 have NH:=hS7.ts.mem.nd p n hp
 have hnd:Nd X9 p (n.iO its g c hi):=by
  refine⟨?_,Own.lies how,⟨hl,he,hcap.2.1,hcap.2.2⟩⟩
  rw[hX,←hhi]
  exact ((NH.blk.set 1 _).set 4 _).set 7 _
 have FC:aj (fun k=>k=p) X X9:=(aj.aq hb (fun k=>k=p)).trans gI fun _ _ h=>h
 have hmem:Mem X9 (upd M p (n.iO its g c hi)):=h.ts.mem.renew hp _ FC (fun k hk=>.inl hk) hnd rfl how (.inr NG.1)
 have hmb:∀k,MB (upd M p (n.iO its g c hi)) k→MB M k∨k=g:=by
  rintro k ⟨r,m,hr,hk⟩
  rcases ak hr with⟨rfl,rfl⟩|⟨_,hr⟩
  ·rcases hk with rfl|rfl
   ·exact .inl ⟨_,n,hp,.inl rfl⟩
   ·exact .inr rfl
  ·exact .inl ⟨r,m,hr,hk⟩
 have hsz:X.heap.size≤X0.heap.size∨X0.heap.size≤X.heap.size:=Nat.le_total _ _
 have hts:TS E X0 R0 (fun k=>R k∨k=g) ps pg rt (upd M p (n.iO its g c hi)) X9:=by
  refine h.ts.own FC (fun k _ e=> ?_) hmem (fun k hk=> ?_) (fun _ h=>.inl h) (fun k hk=> ?_)
  ·rw[e];exact h.ts.gM p ⟨p,n,hp,.inl rfl⟩
  ·rcases hmb k hk with hk|rfl
   ·exact⟨.inl (h.ts.gM k hk).1,(h.ts.gM k hk).2⟩
   ·exact⟨.inr rfl,Nat.le_trans h.ts.but.size NG.1⟩
  ·rcases hk with hk|rfl
   ·exact .inl hk
   ·exact .inr ⟨NG.1,Nat.lt_of_lt_of_le NG.2 gI.size⟩
 refine⟨fun k=>R k∨k=g,h.nodes hts FC (fun k e=>by rw[e];exact⟨p,n,hp,.inl rfl⟩) (fun _ h=>.inl h) (fun k hk=> ?_),fun _ h=>.inl h,fun k hk=> ?_,FC,fun k hk=> ?_⟩
 ·rcases hmb k hk with hk|rfl
  ·exact .inl hk
  ·exact .inr NG.1
 ·rcases hk with hk|rfl
  ·exact .inl hk
  ·exact .inr NG.1
 ·rcases hmb k hk with hk|rfl
  ·exact .inl hk
  ·exact .inr NG.1
end
section
variable {E:Ev} {X0 X X':World} {R0 R R' S:Nat→Prop} {ps ps':List (Nat×List UInt8)} {pg bN:List (Option Wl.Text)} {rt rt':List Nat} {M M':Nat→Option NV} {p q:Nat} {n m:NV} {sb:Nat} {sv:Value} {l:List Int}
def Et (E:Ev) (X0:World) (R0 R:Nat→Prop) (ps:List (Nat×List UInt8)) (pg:List (Option Wl.Text)) (rt:List Nat) (M:Nat→Option NV) (X:World) (sb:Nat) (sv:Value) (M':Nat→Option NV) (l':List Int) (X':World):Prop:=
 ∃R' cM,SS E X0 R0 R' ps pg rt M' X' sb cM l'∧(∀k,R k→R' k)∧(∀k,R' k→R k∨X.heap.size≤k)∧aj (fun k=>k=sb∨sv.ownBlock=some k∨MB M k) X X'∧(∀k,MB M' k→MB M k∨X.heap.size≤k)∧(∀k,cM.ownBlock=some k→sv.ownBlock=some k∨X.heap.size≤k)∧Dom M M'
theorem oS {W W9 W10:World} {n':NV} {R9:Nat→Prop} (_:SS E X0 R0 R ps pg rt M W sb sv l) (h9:SS E X0 R0 R9 ps pg rt (upd M p n') W9 sb sv l∧(∀k,R k→R9 k)∧(∀k,R9 k→R k∨W.heap.size≤k)∧aj (fun k=>k=p) W W9∧∀k,MB (upd M p n') k→MB M k∨W.heap.size≤k) {x:Int} {e:Ending} (hl:h_ W9 sb E.tb sv (l++[x]) e W10) (hp:MB M p):
  Et E X0 R0 R ps pg rt M W sb sv (upd M p n') (l++[x]) W10:=by
 obtain⟨h1,h2,h3,h4,h5⟩:=h9
 obtain⟨cM,R',k1,k2,k3,k4,k5⟩:=h1.left hl
 refine⟨R',cM,k1,fun k hk=>k2 k (h2 k hk),fun k hk=> ?_, ?_,h5,fun k hk=> ?_,Dom.upd _ _ _⟩
 ·rcases k3 k hk with hk|hk
  ·exact h3 k hk
  ·right;have:=h4.size;omega
 ·refine (aj.refl (fun k=>k=sb∨sv.ownBlock=some k∨MB M k) W).trans h4 (fun k _ e=>.inr (.inr (by rw[e];exact hp)))|>.trans k4 fun k _ e=> ?_
  rcases e with e|e
  ·exact .inl e
  ·exact .inr (.inl e)
 ·rcases k5 k hk with hk|hk
  ·exact .inl hk
  ·right;have:=h4.size;omega
theorem jV (W V:World) (its rs:List It) {iD iE NL cX rg ro RL d_:Nat} (hb:Below W.heap.size W V) (hk:aG V W.heap.size 86 [.slice (some ⟨iD,iE,none⟩) NL cX,.slice (some ⟨rg,ro,none⟩) RL d_]) (h1:aJ ah W iD iE its) (h2:aJ ah W rg ro rs) (hN:NL=its.length) (hR:RL=rs.length) (hl:its.length+rs.length≤400) (hpos:0<its.length):
  Calls Tryz.prog 182 #[.slice (some ⟨W.heap.size,0,none⟩) 2 2] V fun e w'=>∃g c,e=.returned (.slice (some ⟨g,0,none⟩) ((NL:Nat)+(RL:Nat)) c)∧aD W.heap.size w' (.slice (some ⟨g,0,none⟩) (its++rs).length c) (its++rs)∧Below V.heap.size V w':=by
 subst hN hR
 refine (xG V W.heap.size iD iE cX rg ro d_ its rs hk (cN h1 hb) (cN h2 hb) (by omega) (by omega) (by omega)).mono ?_
 rintro e w' ⟨v,rfl,ho,hb'⟩
 obtain⟨g,c,rfl,_,_,_⟩:=Own.form ho (by rw[List.length_append];omega)
 have hlen:(its++rs).length=its.length+rs.length:=List.length_append
 exact⟨g,c,by rw[hlen],Own.mono ho hb.size,hb'⟩
theorem Eu (h:SS E X0 R0 R ps pg rt M X sb sv l) (hp:M p=some n) (hq:M q=some m) (hpq:p≠q) (hlv:n.level=0) (key:ByteArray) (hl:l.length≤100000) (hn:n.its.length+m.its.length≤400) (hpos:0<n.its.length):
  Calls Tryz.prog 145 #[ptr sb,ptr p,ptr q,.string key] X fun e X'=>e=.returned (.int .i64 0)∧∃g c,Et E X0 R0 R ps pg rt M X sb sv (upd M p (n.iO (n.its++m.its) g c m.hi)) (l++[m.page]) X':=by
 have hnp:=h.ts.mem.nd p n hp
 have kD:=h.ts.mem.nd q m hq
 have c0:=hnp.c0
 rw[hlv] at c0
 have c1:=hnp.c1
 have c4:=hnp.c4
 have c7:=hnp.c7
 have q1:=kD.c1
 have q4:=kD.c4
 have hsb:=h.blk.lt
 obtain⟨hh,FE⟩:∃hh,bs m.hi=hh:=⟨_,rfl⟩
 rw[FE] at q4
 have O2:=aa FE
 obtain⟨NL,JE⟩:∃NL,NL=n.its.length:=⟨_,rfl⟩
 obtain⟨RL,Mt⟩:∃RL,RL=m.its.length:=⟨_,rfl⟩
 rw[←JE] at c1
 rw[←Mt] at q1
 obtain⟨iD,B0⟩:∃g,g=n.rg:=⟨_,rfl⟩
 obtain⟨iE,B1⟩:∃g,g=n.ro:=⟨_,rfl⟩
 obtain⟨cX,vT⟩:∃g,g=n.cap:=⟨_,rfl⟩
 obtain⟨rg,uy⟩:∃g,g=m.rg:=⟨_,rfl⟩
 obtain⟨ro,hro⟩:∃g,g=m.ro:=⟨_,rfl⟩
 obtain⟨d_,vU⟩:∃g,g=m.cap:=⟨_,rfl⟩
 rw[←B0,←B1,←vT] at c1
 rw[←uy,←hro,←vU] at q1
 obtain⟨W,hW⟩:∃W,W=X:=⟨_,rfl⟩
 have uF:=aa (fun V hb hk=>jV W V n.its m.its (iD:=iD) (iE:=iE) (NL:=NL) (cX:=cX) (rg:=rg) (ro:=ro) (RL:=RL) (d_:=d_) hb hk (by rw[hW,B0,B1];exact hnp.row) (by rw[hW,uy,hro];exact kD.row) JE Mt hn hpos)
 have hlen:(n.its++m.its).length=NL+RL:=by rw[List.length_append,JE,Mt]
 have uC:=aa (show (n.its++m.its).length≤400∧(∀i∈n.its++m.its,i.key.length≤200∧i.val.length≤200)∧NL+RL=(n.its++m.its).length from⟨by rw[List.length_append];omega,fun i hi=>by
  rcases List.mem_append.1 hi with hi|hi
  ·exact hnp.small.each i hi
  ·exact kD.small.each i hi,hlen.symm⟩)
 have DX:=aa (show l.length≤1000000 by omega)
 have cB:=aa (show p<W.heap.size∧q<W.heap.size by rw[hW];exact⟨hnp.blk.lt,kD.blk.lt⟩)
 have fK:=aa (show Nd W p n by rw[hW];exact hnp)
 have AV:=aa (show SS E X0 R0 R ps pg rt M W sb sv l by rw[hW];exact h)
 have HP:=aa hp
 have HQ:=aa hq
 have O3:=aa (Ne.symm hpq)
 rw[←hW] at c0 c1 c4 c7 q1 q4 hsb ⊢
 have bY:=cB.out.1
 have Da:=cB.out.2
 clear h hp hq hpq hlv hl hn hpos hnp kD FE JE Mt B0 B1 vT uy hro vU hlen hW
 go_enter Tryz.func145,Tryz.ntmps145
 unfold ptr
 go_wp2_with (refine wp_region_any (by kernel_rfl) ?_;refine Hid.out ?_)
 refine aa ?_
 try (change wpAny _ _ _ _ _ _ _ (World.drew _))
 refine tk 0 ?_
 refine tk 1 ?_
 refine tk 2 ?_
 refine tk 3 ?_
 refine tk 4 ?_
 refine tk 5 ?_
 refine tk 7 ?_
 refine tk 10 ?_
 refine tk 11 ?_
 refine tk 12 ?_
 refine tk 13 ?_
 try simp only[Act.put,List.setIfInBounds_toArray,List.set_cons_succ,List.set_cons_zero]
 refine rd [6,14] (AllReady.cons rfl (fun K hK=> ?_) (rn fun K hK=> ?_))
 focus
  go_simp
  refine hK _ _ ?_;clear hK K
  refine rd [8,14] (AllReady.cons rfl (fun K hK=> ?_) (rn fun K hK=> ?_))
  focus
   go_simp
   have fF:=aa (show Below W.heap.size W ((W.alloc (.cells #[.slice (some ⟨iD,iE,none⟩) NL cX,.slice (some ⟨rg,ro,none⟩) RL d_] 86)).drew) from ((Below.refl _ W).alloc (Nat.le_refl _) _).drew)
   refine hK _ _ ?_;clear hK K
   refine rd [9,14] (AllReady.cons rfl (fun K hK=> ?_) (rn fun K hK=> ?_))
   focus
    go_simp
    refine (uF.out _ fF.out (by have:=aG.new W #[.slice (some ⟨iD,iE,none⟩) NL cX,.slice (some ⟨rg,ro,none⟩) RL d_] 86;exact this)).mono ?_
    rintro e W7 ⟨g,c,rfl,eO,fG⟩
    have H7:=aa (And.intro eO (fF.out.trans (fG.mono fF.out.size)))
    clear fG eO
    have d1:=(H7.out.2.cell (p:=⟨p,1,none⟩) cB.out.1).trans c1
    have d4:=(H7.out.2.cell (p:=⟨p,4,none⟩) cB.out.1).trans c4
    have d7:=(H7.out.2.cell (p:=⟨p,7,none⟩) cB.out.1).trans c7
    have e4:=(H7.out.2.cell (p:=⟨q,4,none⟩) cB.out.2).trans q4
    have xI:=(fK.out.still H7.out.2).blk.frozen 1
    have xJ:=(fK.out.still H7.out.2).blk.frozen 4
    have xK:=(fK.out.still H7.out.2).blk.frozen 7
    refine hK _ _ ?_;clear hK K
    refine rd [14] (rn fun K hK=> ?_)
    go_simp
    refine hK _ _ ?_;clear hK K
   rotate_left
   focus
    go_simp
    refine hK _ _ ?_;clear hK K
    refine rd [9] (rn fun K hK=> ?_)
    go_simp
    refine (uF.out _ fF.out (by have:=aG.new W #[.slice (some ⟨iD,iE,none⟩) NL cX,.slice (some ⟨rg,ro,none⟩) RL d_] 86;exact this)).mono ?_
    rintro e W7 ⟨g,c,rfl,eO,fG⟩
    have H7:=aa (And.intro eO (fF.out.trans (fG.mono fF.out.size)))
    clear fG eO
    have d1:=(H7.out.2.cell (p:=⟨p,1,none⟩) cB.out.1).trans c1
    have d4:=(H7.out.2.cell (p:=⟨p,4,none⟩) cB.out.1).trans c4
    have d7:=(H7.out.2.cell (p:=⟨p,7,none⟩) cB.out.1).trans c7
    have e4:=(H7.out.2.cell (p:=⟨q,4,none⟩) cB.out.2).trans q4
    have xI:=(fK.out.still H7.out.2).blk.frozen 1
    have xJ:=(fK.out.still H7.out.2).blk.frozen 4
    have xK:=(fK.out.still H7.out.2).blk.frozen 7
    refine hK _ _ ?_;clear hK K
  rotate_left 2
  focus
   go_simp
   refine hK _ _ ?_;clear hK K
   refine rd [8] (rn fun K hK=> ?_)
   go_simp
   have fF:=aa (show Below W.heap.size W ((W.alloc (.cells #[.slice (some ⟨iD,iE,none⟩) NL cX,.slice (some ⟨rg,ro,none⟩) RL d_] 86)).drew) from ((Below.refl _ W).alloc (Nat.le_refl _) _).drew)
   refine hK _ _ ?_;clear hK K
   refine rd [9] (rn fun K hK=> ?_)
   go_simp
   refine (uF.out _ fF.out (by have:=aG.new W #[.slice (some ⟨iD,iE,none⟩) NL cX,.slice (some ⟨rg,ro,none⟩) RL d_] 86;exact this)).mono ?_
   rintro e W7 ⟨g,c,rfl,eO,fG⟩
   have H7:=aa (And.intro eO (fF.out.trans (fG.mono fF.out.size)))
   clear fG eO
   have d1:=(H7.out.2.cell (p:=⟨p,1,none⟩) cB.out.1).trans c1
   have d4:=(H7.out.2.cell (p:=⟨p,4,none⟩) cB.out.1).trans c4
   have d7:=(H7.out.2.cell (p:=⟨p,7,none⟩) cB.out.1).trans c7
   have e4:=(H7.out.2.cell (p:=⟨q,4,none⟩) cB.out.2).trans q4
   have xI:=(fK.out.still H7.out.2).blk.frozen 1
   have xJ:=(fK.out.still H7.out.2).blk.frozen 4
   have xK:=(fK.out.still H7.out.2).blk.frozen 7
   refine hK _ _ ?_;clear hK K
 rotate_left 3
 focus
  go_simp
  refine hK _ _ ?_;clear hK K
  refine rd [6] (rn fun K hK=> ?_)
  go_simp
  refine hK _ _ ?_;clear hK K
  refine rd [8] (rn fun K hK=> ?_)
  go_simp
  have fF:=aa (show Below W.heap.size W ((W.alloc (.cells #[.slice (some ⟨iD,iE,none⟩) NL cX,.slice (some ⟨rg,ro,none⟩) RL d_] 86)).drew) from ((Below.refl _ W).alloc (Nat.le_refl _) _).drew)
  refine hK _ _ ?_;clear hK K
  refine rd [9] (rn fun K hK=> ?_)
  go_simp
  refine (uF.out _ fF.out (by have:=aG.new W #[.slice (some ⟨iD,iE,none⟩) NL cX,.slice (some ⟨rg,ro,none⟩) RL d_] 86;exact this)).mono ?_
  rintro e W7 ⟨g,c,rfl,eO,fG⟩
  have H7:=aa (And.intro eO (fF.out.trans (fG.mono fF.out.size)))
  clear fG eO
  have d1:=(H7.out.2.cell (p:=⟨p,1,none⟩) cB.out.1).trans c1
  have d4:=(H7.out.2.cell (p:=⟨p,4,none⟩) cB.out.1).trans c4
  have d7:=(H7.out.2.cell (p:=⟨p,7,none⟩) cB.out.1).trans c7
  have e4:=(H7.out.2.cell (p:=⟨q,4,none⟩) cB.out.2).trans q4
  have xI:=(fK.out.still H7.out.2).blk.frozen 1
  have xJ:=(fK.out.still H7.out.2).blk.frozen 4
  have xK:=(fK.out.still H7.out.2).blk.frozen 7
  refine hK _ _ ?_;clear hK K
 all_goals
  try simp only[Act.put,List.setIfInBounds_toArray,List.set_cons_succ,List.set_cons_zero]
  refine tk 15 ?_
  refine tk 16 ?_
  refine rd [17] (rn fun K hK=> ?_)
  go_simp
  refine hK _ _ ?_;clear hK K
  refine tk 18 ?_
  refine tk 19 ?_
  refine tk 20 ?_
  refine rd [21] (rn fun K hK=> ?_)
  go_simp
  refine hK _ _ ?_;clear hK K
  refine tk 22 ?_
  refine tk 23 ?_
  refine rd [24] (rn fun K hK=> ?_)
  go_simp
  refine hK _ _ ?_;clear hK K
  refine wpAny_done (by kernel_rfl) ?_ _
  obtain⟨W9,nu⟩:∃W9,W9=((W7.setCell ⟨p,1,none⟩ (.slice (some ⟨g,0,none⟩) (NL+RL) c)).setCell ⟨p,4,none⟩ (.string hh)).setCell ⟨p,7,none⟩ (.bool true):=⟨_,rfl⟩
  rw[←nu]
  obtain⟨R9,h9,Hh,tg,gI,Hi⟩:=AV.out.row HP.out H7.out.2 O2.out H7.out.1 uC.out.1 uC.out.2.1 uC.out.2.2 nu
  have H9:=aa (And.intro h9 (And.intro Hh (And.intro tg (And.intro gI Hi))))
  have zw:=aa (fU W9 sb E.tb q sv l m h9.blk h9.sp (h9.ts.mem.nd q m ((aA O3.out).trans HQ.out)) DX.out)
  clear h9 Hh tg gI Hi nu d1 d4 d7 e4 xI xJ xK
  unfold ptr at zw
  go_wp2_with fail
  refine zw.out.mono ?_
  intro e W10 nC
  have he:=nC.1
  subst he
  have H10:=aa nC
  clear nC zw
  go_wp2_with fail
  go_ret
  exact⟨rfl,g,c,oS AV.out H9.out H10.out ⟨p,n,HP.out,.inl rfl⟩⟩
end
namespace Tr
theorem xL:∀{k:Nat} {n m:E (k+1)} {x:Tx},its n≠[]→its m≠[]→hd (join k n m x).1=⟨(hd n).page,true⟩
 |0,_,_,_,_,_=>rfl
 |k+1,n,m,x,hn,hm=>by
  obtain⟨A,a,hA⟩:=ck hn
  cases hB:its m with
  |nil=>exact absurd hB hm
  |cons b r=>
   rw[jk hA hB]
   split<;>rfl
end Tr
section
variable {E:Ev} {X0 X X':World} {R0 R R' S:Nat→Prop} {ps ps':List (Nat×List UInt8)} {pg bN:List (Option Wl.Text)} {rt rt':List Nat} {M M':Nat→Option NV} {p q:Nat} {n m:NV} {sb:Nat} {sv:Value} {l:List Int}
def ew (l:List Nat):List Int:=l.map fun (p:Nat)=>(p:Int)
theorem fY {o:Option Nat} (h:o.isSome=true):[oQ o]=ew o.toList:=by
 cases o with
 |none=>cases h
 |some p=>rfl
def oT (E:Ev) (X0:World) (R0 R:Nat→Prop) (ps:List (Nat×List UInt8)) (pg:List (Option Wl.Text)) (rt:List Nat) (M:Nat→Option NV) (X:World) (sb:Nat) (sv:Value) (k p:Nat) (n m:NV) (F:List Nat) (j:Tr.E (k+1)) (l':List Int) (X':World):Prop:=
 ∃M' n' F',Et E X0 R0 R ps pg rt M X sb sv M' l' X'∧b8 M' pg k p j F'∧M' p=some n'∧n'.lo=n.lo∧n'.hi=m.hi∧F'.Nodup∧(∀r∈F',r∈F∨X.heap.size≤r)∧(∀r x,r∉F→M r=some x→M' r=some x)
theorem p_ {k:Nat} {t:Tr.E (k+1)} {lo:Tr.Tx} {h:Option Tr.Tx} (ho:iC pg k n t) (hs:Tr.Ok (k+1) lo h t):Tr.Ok (k+1) n.lo (gD n.hi) t:=ho.near.ok hs.1 hs.2.1
theorem oU {k:Nat} {lo:Tr.Tx} {h:Option Tr.Tx} {t:Tr.E (k+1)} (ho:Tr.Ok (k+1) lo h t):(Tr.its t).length≤255∧0<(Tr.its t).length:=by
 have:=Tr.fX k (Tr.its t)
 have h2:=ho.2.1
 exact⟨by omega,List.length_pos_iff.2 ho.1⟩
theorem Ew {tn tm:Tr.E 1} {F1 F2:List Nat} {x:Tr.Tx} {uD:Tr.Tx} {yG:Option Tr.Tx} (h:SS E X0 R0 R ps pg rt M X sb sv l) (r1:b8 M pg 0 p tn F1) (r2:b8 M pg 0 q tm F2) (hp:M p=some n) (hq:M q=some m) (hnd:(F1++F2).Nodup)
  (on:Tr.Ok 1 uD (some x) tn) (om:Tr.Ok 1 x yG tm) (hx:x.length≤96) (hc:¬Tr.cut 1 tn x tm) (hold:Tr.Old 1 tm) (hl:l.length≤100000):
  Calls Tryz.prog 145 #[ptr sb,ptr p,ptr q,.string (bs x)] X fun e X'=>e=.returned (.int .i64 0)∧oT E X0 R0 R ps pg rt M X sb sv 0 p n m (F1++F2) (Tr.join 0 tn tm x).1 (l++ew (Tr.join 0 tn tm x).2) X':=by
 obtain⟨n',hp',pJ,hi1,rfl⟩:=r1
 rw[hp] at hp'
 injection hp' with hp'
 subst hp'
 obtain⟨m',jo,cR,hi2,rfl⟩:=r2
 rw[hq] at jo
 injection jo with jo
 subst jo
 have hpq:p≠q:=by
  intro e
  rw[e] at hnd
  simp at hnd
 have e1:n.its.length=(Tr.its tn).length:=by rw[hi1];unfold af;rw[List.length_map]
 have e2:m.its.length=(Tr.its tm).length:=by rw[hi2];unfold af;rw[List.length_map]
 have b1:=oU on
 have b2:=oU om
 have hlen:n.its.length+m.its.length≤400:=by
  have s1:=Tr.fX 0 (Tr.its tn)
  have s2:=Tr.fX 0 (Tr.its tm)
  rw[Tr.rA] at hc
  omega
 refine (Eu h hp hq hpq pJ.level (bs x) hl hlen (by omega)).mono ?_
 rintro e X' ⟨rfl,g,c,hto⟩
 have J:=Tr.ot 0 (Tr.Ok.mix (p_ pJ on) on) (Tr.Ok.mix om (p_ cR om)) hx hc
 have Hj:=Tr.xL (x:=x) on.1 om.1
 have ku:(Tr.hd tm).page.isSome=true:=hold.1
 refine⟨rfl,upd M p (n.iO (n.its++m.its) g c m.hi),n.iO (n.its++m.its) g c m.hi,[p], ?_,⟨_,aM _ _ _,⟨pJ.level, ?_, ?_,J.ok.near,fun hf=> ?_⟩, ?_,rfl⟩,aM _ _ _,rfl,rfl,by simp,fun r hr=>.inl ?_,fun r y hr hy=> ?_⟩
 ·have:[m.page]=ew (Tr.join 0 tn tm x).2:=by rw[cR.page];exact fY ku
  rw[←this]
  exact hto
 ·rw[Hj];exact pJ.page
 ·rw[Hj];rfl
 ·rw[Hj] at hf;cases hf
 ·show n.its++m.its=af 0 (Tr.its tn++Tr.its tm)
  rw[hi1,hi2]
  unfold af
  rw[List.map_append]
 ·rw[List.mem_singleton.1 hr];exact List.mem_append.2 (.inl List.mem_cons_self)
 ·rw[aA (fun e=>hr (by rw[e];exact List.mem_append.2 (.inl List.mem_cons_self)))]
  exact hy
end
section
variable {E:Ev} {X0 X X' X1 X2:World} {R0 R R' R1 R2 S:Nat→Prop} {ps ps':List (Nat×List UInt8)} {pg bN:List (Option Wl.Text)} {rt rt':List Nat} {M M' M1 M2:Nat→Option NV} {p q:Nat} {n m:NV} {sb:Nat} {sv Yc SV:Value} {l:List Int}
structure jF (R:Nat→Prop) (M:Nat→Option NV) (X:World) (sb:Nat) (sv:Value) (R':Nat→Prop) (M':Nat→Option NV) (cM:Value) (X':World):Prop where
 sub:∀k,R k→R' k
 new:∀k,R' k→R k∨X.heap.size≤k
 but:aj (fun k=>k=sb∨sv.ownBlock=some k∨MB M k) X X'
 mb:∀k,MB M' k→MB M k∨X.heap.size≤k
 sp:∀k,cM.ownBlock=some k→sv.ownBlock=some k∨X.heap.size≤k
 dom:Dom M M'
theorem jF.trans (h1:jF R M X sb sv R1 M1 Yc X1) (h2:jF R1 M1 X1 sb Yc R2 M2 SV X2):jF R M X sb sv R2 M2 SV X2:=by
 have hs:=h1.but.size
 refine⟨fun k hk=>h2.sub k (h1.sub k hk),fun k hk=> ?_,h1.but.trans h2.but fun k hlt hk=> ?_,fun k hk=> ?_,fun k hk=> ?_,h1.dom.trans h2.dom⟩
 ·rcases h2.new k hk with hk|hk
  ·exact h1.new k hk
  ·right;omega
 ·rcases hk with hk|hk|hk
  ·exact .inl hk
  ·rcases h1.sp k hk with hk|hk
   ·exact .inr (.inl hk)
   ·omega
  ·rcases h1.mb k hk with hk|hk
   ·exact .inr (.inr hk)
   ·omega
 ·rcases h2.mb k hk with hk|hk
  ·exact h1.mb k hk
  ·right;omega
 ·rcases h2.sp k hk with hk|hk
  ·exact h1.sp k hk
  ·right;omega
theorem jy {l':List Int}:Et E X0 R0 R ps pg rt M X sb sv M' l' X'↔∃R' cM,SS E X0 R0 R' ps pg rt M' X' sb cM l'∧jF R M X sb sv R' M' cM X':=
 ⟨fun ⟨R',cM,a,b,c,d,e,f,g⟩=>⟨R',cM,a,⟨b,c,d,e,f,g⟩⟩,fun ⟨R',cM,a,s⟩=>⟨R',cM,a,s.sub,s.new,s.but,s.mb,s.sp,s.dom⟩⟩
theorem jF.nodes (hb:aj S X X') (hS:∀k,S k→MB M k) (hR:∀k,R k→R' k) (vI:∀k,R' k→R k∨X.heap.size≤k) (hm:∀k,MB M' k→MB M k∨X.heap.size≤k) (hd:Dom M M'):jF R M X sb sv R' M' sv X':=
 ⟨hR,vI,(aj.refl (fun k=>k=sb∨sv.ownBlock=some k∨MB M k) X).trans hb fun k _ hk=>.inr (.inr (hS k hk)),hm,fun _ h=>.inl h,hd⟩
theorem jF.still (hb:Below X.heap.size X X'):jF R M X sb sv R M sv X':=
 ⟨fun _ h=>h,fun _ h=>.inl h,aj.aq hb _,fun _ h=>.inl h,fun _ h=>.inl h,Dom.refl _⟩
theorem SS.key (h:SS E X0 R0 R ps pg rt M X sb sv l) (hq:M q=some m) (hpos:0<m.its.length) (x:List UInt8) (hx:x.length≤200) {xb:ByteArray} (OZ:bs x=xb):
  SS E X0 R0 R ps pg rt (upd M q {m with its:=m.its.set 0 {m.its[0] with key:=x}}) (X.setCell ⟨m.rg,m.ro,none⟩ (.string xb)) sb sv l∧jF R M X sb sv R (upd M q {m with its:=m.its.set 0 {m.its[0] with key:=x}}) sv (X.setCell ⟨m.rg,m.ro,none⟩ (.string xb)):=by
 have qU:=(h.ts.mem.nd q m hq).small
 have hm:=h.ts.mem.item hq 0 0 hpos (by decide) {m.its[0] with key:=x} (.string xb) (by rw[←OZ];rfl) ⟨hx,(qU.each _ (List.getElem_mem hpos)).2⟩
 have hb:aj (fun k=>k=m.rg) X (X.setCell ⟨m.rg,m.ro,none⟩ (.string xb)):=(aj.refl (fun k=>k=m.rg) X).setCell _ _ fun _=>rfl
 have hmb:∀k,MB (upd M q {m with its:=m.its.set 0 {m.its[0] with key:=x}}) k→MB M k:=by
  rintro k ⟨r,y,hr,hk⟩
  rcases ak hr with⟨rfl,rfl⟩|⟨_,hr⟩
  ·exact⟨_,m,hq,hk⟩
  ·exact⟨r,y,hr,hk⟩
 have hts:=h.ts.own hb (fun k _ e=>by rw[e];exact h.ts.gM _ ⟨q,m,hq,.inr rfl⟩) hm (fun k hk=>h.ts.gM k (hmb k hk)) (fun _ h=>h) (fun _ h=>.inl h)
 have hS:∀k,k=m.rg→MB M k:=fun k e=>by rw[e];exact⟨q,m,hq,.inr rfl⟩
 exact⟨h.nodes hts hb hS (fun _ h=>h) fun k hk=>.inl (hmb k hk),jF.nodes hb hS (fun _ h=>h) (fun _ h=>.inl h) (fun k hk=>.inl (hmb k hk)) (Dom.upd _ _ _)⟩
end
section
variable {E:Ev} {X0 X X' V:World} {R0 R R' S:Nat→Prop} {ps ps':List (Nat×List UInt8)} {pg bN:List (Option Wl.Text)} {rt rt':List Nat} {M M':Nat→Option NV} {p q:Nat} {n m:NV}
structure UD (E:Ev) (X0:World) (R0 R:Nat→Prop) (ps:List (Nat×List UInt8)) (pg:List (Option Wl.Text)) (rt:List Nat) (M:Nat→Option NV) (X:World) (p:Nat) (n:NV) (k:Nat) (I1:List It) (i:It) (I2:List It) (c:Tr.E (k+1)) (f:List Nat) (q:Nat) (M':Nat→Option NV) (R':Nat→Prop) (fq:List Nat) (X':World):Prop where
 ts:TS E X0 R0 R' ps pg rt M' X'
 at_:M' p=some {n with its:=I1++{i with node:=some q}::I2}
 vS:b8 M' pg k q c fq
 same:∀r m,r≠p→M r=some m→M' r=some m
 news:∀r∈fq,r∈f∨X.heap.size≤r
 pn:p∉fq
 nd:fq.Nodup
 size:X.heap.size≤X'.heap.size
 but:aj (fun b=>b=n.rg) X X'
 sub:∀b,R b→R' b
 new:∀b,R' b→R b∨X.heap.size≤b
 mb:∀b,MB M' b→MB M b∨X.heap.size≤b
theorem vV {k:Nat} {I1 I2:List It} {i:It} {key:Tr.Tx} {c:Tr.E (k+1)} {f:List Nat} {j:Int}
  (h:TS E X0 R0 R ps pg rt M X) (hV:Below X.heap.size X V) (hp:M p=some n) (hlv:n.level=k+1) (hi:n.its=I1++i::I2) (h0:gE pg k (b8 M pg k) i (key,c) f) (gF:i.node=none→Tr.Ok (k+1) (cZ n I1.length) (gD (cL n I1.length)) c) (hpf:p∉f) (hfn:f.Nodup) (hk:k≤15) (hj:j=I1.length):
  Calls Tryz.prog 59 #[ptr E.tb,ptr p,.int .i64 j] V fun e X'=>∃q M' R' fq,e=.returned (.tuple #[ptr q,.int .i64 0])∧UD E X0 R0 R ps pg rt M X p n k I1 i I2 c f q M' R' fq X':=by
 subst hj
 have hj:I1.length<n.its.length:=by rw[hi,List.length_append,List.length_cons];omega
 have fV:n.its[I1.length]=i:=by
  have e:n.its[I1.length]?=some i:=by rw[hi,List.getElem?_append_right (Nat.le_refl _),Nat.sub_self];rfl
  rw[List.getElem?_eq_getElem hj] at e
  exact Option.some.inj e
 have hS:=h.still hV (fun _ h=>h) (fun _ h=>.inl h)
 obtain⟨hik,hiv,BX⟩:=h0
 rcases BX with⟨hnone,hfe,hval,hst⟩|⟨q,hq,hr⟩
 ·obtain⟨⟨page,bD,mB,uQ⟩,hfr,oR⟩:=hst
  have hs:=gF hnone
  have jx:=eP hk ⟨⟨page,bD,mB,uQ⟩,hfr,oR⟩ bD hs
  have hv:n.its[I1.length].val=pv page:=by
   rw[fV,hval]
   show pv ((Tr.hd c).page.getD 0)=_
   rw[bD];rfl
  refine (p7 hS hp I1.length hj (by rw[fV];exact hnone) page mB hv k hlv (af k (Tr.its c)) jx).mono ?_
  rintro e X' ⟨q,rg,cap,R',rfl,hts,UE,QG,QH,hR,UF⟩
  have KO:=Nat.le_trans hV.size UE
  have KP:=Nat.le_trans hV.size QG
  have vI:∀b,R' b→R b∨X.heap.size≤b:=fun b hb=>(UF b hb).imp_right fun h=>Nat.le_trans hV.size h
  have ig:aj (fun b=>b=n.rg) X X':=(aj.aq hV (fun b=>b=n.rg)).trans QH fun _ _ h=>h
  have mC:n.its.set I1.length {(n.its.getD I1.length ⟨[],[],none⟩) with node:=some q}=I1++{i with node:=some q}::I2:=by
   have hg:n.its.getD I1.length ⟨[],[],none⟩=i:=by rw[List.getD_eq_getElem?_getD,List.getElem?_eq_getElem hj];exact fV
   rw[hg,hi,List.set_append_right _ _ (Nat.le_refl _),Nat.sub_self]
   rfl
  rw[mC] at hts
  obtain⟨M',xF⟩:∃M',M'=upd (upd M q (NV.got k (af k (Tr.its c)) rg cap page (cZ n I1.length) (cL n I1.length))) p {n with its:=I1++{i with node:=some q}::I2}:=⟨_,rfl⟩
  rw[←xF] at hts
  have bY:=(h.mem.lt hp).1
  have hpq:q≠p:=by omega
  have hsame:∀r m,r≠p→M r=some m→M' r=some m:=by
   intro r m hr hm
   have vM:r≠q:=by have:=(h.mem.lt hm).1;omega
   rw[xF,aA hr,aA vM]
   exact hm
  refine⟨q,M',R',[q],rfl,⟨hts,by rw[xF,aM], ?_,hsame,fun r hr=>by rw[List.mem_singleton.1 hr];exact .inr KO,by simpa using Ne.symm hpq,by simp,ig.size,ig,hR,vI, ?_⟩⟩
  ·exact C8 ⟨⟨page,bD,mB,uQ⟩,hfr,oR⟩ bD hs (by rw[xF,aA hpq,aM])
  ·rintro b ⟨r,m,hr,hb⟩
   rw[xF] at hr
   rcases ak hr with⟨rfl,rfl⟩|⟨_,hr⟩
   ·exact .inl ⟨_,n,hp,hb⟩
   ·rcases ak hr with⟨rfl,rfl⟩|⟨_,hr⟩
    ·right
     rcases hb with rfl|rfl
     ·exact KO
     ·exact KP
    ·exact .inl ⟨r,m,hr,hb⟩
 ·refine (qI hS hp I1.length hj (by rw[fV];exact hq)).mono ?_
  rintro e X' ⟨rfl,rfl⟩
  have hi':{i with node:=some q}=i:=by cases i;simp only at hq;subst hq;rfl
  refine⟨q,M,R,f,rfl,⟨hS, ?_,hr,fun _ _ _ h=>h,fun r hr=>.inl hr,hpf,hfn,hV.size,aj.aq hV _,fun _ h=>h,fun _ h=>.inl h,fun _ h=>.inl h⟩⟩
  rw[hi',←hi];exact hp
end
section
variable {E:Ev} {X0 Xs X X':World} {R0 Rs R R' S:Nat→Prop} {ps:List (Nat×List UInt8)} {pg:List (Option Wl.Text)} {rt:List Nat} {Ms M M':Nat→Option NV} {p q:Nat} {n m:NV} {sb:Nat} {ef sv cM lv:Value} {l l':List Int} {L LI:List It}
structure Row (E:Ev) (X0:World) (R0:Nat→Prop) (ps:List (Nat×List UInt8)) (pg:List (Option Wl.Text)) (rt:List Nat) (Rs:Nat→Prop) (Ms:Nat→Option NV) (Xs:World) (sb:Nat) (ef:Value) (R:Nat→Prop) (M:Nat→Option NV) (X:World) (sv:Value) (l:List Int) (lv:Value) (LI:List It):Prop where
 base:X0.heap.size≤Xs.heap.size
 ss:SS E X0 R0 R ps pg rt M X sb sv l
 vW:jF Rs Ms Xs sb ef R M sv X
 own:aD Xs.heap.size X lv LI
 Mu:∀b,lv.ownBlock=some b→R b∧¬MB M b∧b≠sb∧sv.ownBlock≠some b
theorem Row.step (h:Row E X0 R0 ps pg rt Rs Ms Xs sb ef R M X sv l lv LI) (hs:SS E X0 R0 R' ps pg rt M' X' sb cM l') (ht:jF R M X sb sv R' M' cM X'):Row E X0 R0 ps pg rt Rs Ms Xs sb ef R' M' X' cM l' lv LI:=by
 refine⟨h.base,hs,h.vW.trans ht,Own.but h.own ht.but fun b hb hk=> ?_,fun b hb=> ?_⟩
 ·obtain⟨_,h2,h3,h4⟩:=h.Mu b hb
  rcases hk with hk|hk|hk
  ·exact h3 hk
  ·exact h4 hk
  ·exact h2 hk
 ·obtain⟨h1,h2,h3,h4⟩:=h.Mu b hb
  have hlt:=(Own.block h.own b hb).2
  refine⟨ht.sub b h1,fun hk=> ?_,h3,fun hk=> ?_⟩
  ·rcases ht.mb b hk with hk|hk
   ·exact h2 hk
   ·omega
  ·rcases ht.sp b hk with hk|hk
   ·exact h4 hk
   ·omega
theorem Row.add {e:Ending} (h:Row E X0 R0 ps pg rt Rs Ms Xs sb ef R M X sv l lv LI) (ha:vO Xs.heap.size X lv L e X'):
  ∃jr R',e=.returned (.tuple #[jr,.int .i64 0])∧Row E X0 R0 ps pg rt Rs Ms Xs sb ef R' M X' sv l jr L∧aj (fun b=>lv.ownBlock=some b) X X'∧(∀b,jr.ownBlock=some b→lv.ownBlock=some b∨X.heap.size≤b):=by
 obtain⟨jr,rfl,ho,hb,hw⟩:=ha
 have hS:∀k,lv.ownBlock=some k→R k∧X0.heap.size≤k∧¬MB M k:=fun k hk=>⟨(h.Mu k hk).1,Nat.le_trans h.base (Own.block h.own k hk).1,(h.Mu k hk).2.1⟩
 have hmem:=h.ss.ts.mem.keep hb fun k hk hs=>(hS k hs).2.2 hk
 have hlt:=Own.block ho
 have q_:=h.ss.blk.lt
 have hsp:=Own.block h.ss.sp
 have hnew:∀k,jr.ownBlock=some k→R k∨X.heap.size≤k:=fun k hk=>by
  rcases hw with hw|hw
  ·rw[hw] at hk;exact .inl (hS k hk).1
  ·exact .inr (hw k hk)
 have Ex:∀k,(R k∨jr.ownBlock=some k)→R k∨X.heap.size≤k:=fun k hk=>by
  rcases hk with hk|hk
  ·exact .inl hk
  ·exact hnew k hk
 refine⟨jr,fun k=>R k∨jr.ownBlock=some k,rfl,⟨h.base,⟨h.ss.ts.own hb (fun k _ hs=>⟨(hS k hs).1,(hS k hs).2.1⟩) hmem (fun k hk=>⟨.inl (h.ss.ts.gM k hk).1,(h.ss.ts.gM k hk).2⟩) (fun k hk=>.inl hk) (fun k hk=> ?_),h.ss.blk.but hb fun hs=>(h.Mu _ hs).2.2.1 rfl,Own.but h.ss.sp hb fun k hk hs=>(h.Mu k hs).2.2.2 hk,⟨.inl h.ss.rK.1,h.ss.rK.2⟩,fun k hk=>⟨.inl (h.ss.FB k hk).1,(h.ss.FB k hk).2⟩⟩,⟨fun k hk=>.inl (h.vW.sub k hk),fun k hk=> ?_,h.vW.but.trans hb fun k hlt hk=> ?_,h.vW.mb,h.vW.sp,h.vW.dom⟩,ho,fun k hk=>⟨.inr hk, ?_⟩⟩,hb,fun k hk=> ?_⟩
 ·rcases hk with hk|hk
  ·exact .inl hk
  ·exact (hnew k hk).imp_right fun h=>⟨h,(hlt k hk).2⟩
 ·rcases Ex k hk with hk|hk
  ·exact h.vW.new k hk
  ·exact .inr (Nat.le_trans h.vW.but.size hk)
 ·have:=(Own.block h.own k hk).1
  omega
 ·rcases hw with hw|hw
  ·rw[hw] at hk;exact (h.Mu k hk).2
  ·have h1:=hw k hk
   refine⟨fun hm=> ?_,by omega,fun hk2=> ?_⟩
   ·have:=h.ss.ts.mem.iN hm
    omega
   ·have:=(hsp k hk2).2
    omega
 ·rcases hw with hw|hw
  ·rw[hw] at hk;exact .inl hk
  ·exact .inr (hw k hk)
end
section
variable {E:Ev} {X0 X X1 X2:World} {R0 R R1 R2:Nat→Prop} {ps:List (Nat×List UInt8)} {pg:List (Option Wl.Text)} {rt:List Nat} {M M1 M2:Nat→Option NV} {p q:Nat} {n m:NV} {sb:Nat} {sv:Value} {l:List Int}
structure UG (E:Ev) (X0:World) (R0 R:Nat→Prop) (ps:List (Nat×List UInt8)) (pg:List (Option Wl.Text)) (rt:List Nat) (M:Nat→Option NV) (X:World) (sb:Nat) (sv:Value) (l:List Int) (k p q:Nat) (n m:NV) (I1:List It) (i j:It) (J:List It) (A r:List (Tr.Tx×Tr.E (k+1))) (a b:Tr.E (k+1)) (x:Tr.Tx) (f1 f2:List (List Nat)) (fa fb:List Nat) (R3:Nat→Prop) (M3:Nat→Option NV) (X3:World) (la lb:Nat) (gU mD:List Nat) (m3:NV):Prop where
 ss:SS E X0 R0 R3 ps pg rt M3 X3 sb sv l
 vW:jF R M X sb sv R3 M3 sv X3
 UH:M3 p=some {n with its:=I1++[{i with node:=some la}]}
 Yd:M3 q=some m3
 its:m3.its=⟨x,j.val,some lb⟩::J
 like:m3.hi=m.hi∧m3.page=m.page∧m3.rg=m.rg∧m3.ro=m.ro∧m3.cap=m.cap
 ra:b8 M3 pg k la a gU
 rb:b8 M3 pg k lb b mD
 kl:aI pg k (b8 M3 pg k) I1 A f1
 kr:aI pg k (b8 M3 pg k) J r f2
 nd:(p::(f1.flatten++(gU++(mD++f2.flatten)))).Nodup
 qn:q∉p::(f1.flatten++(gU++(mD++f2.flatten)))
 na:∀r∈gU,r∈fa∨X.heap.size≤r
 nb:∀r∈mD,r∈fb∨X.heap.size≤r
 same:∀r y,r≠p→r≠q→M r=some y→M3 r=some y
theorem Ho {k:Nat} {I1:List It} {i j:It} {J:List It} {A r:List (Tr.Tx×Tr.E (k+1))} {a b:Tr.E (k+1)} {x ka kb:Tr.Tx} {f1 f2:List (List Nat)} {fa fb gU mD:List Nat} {la lb:Nat}
  (h:SS E X0 R0 R ps pg rt M X sb sv l) (hp:M p=some n) (hq:M q=some m) (k1:aI pg k (b8 M pg k) I1 A f1) (k2:gE pg k (b8 M pg k) i (ka,a) fa) (k3:gE pg k (b8 M pg k) j (kb,b) fb) (k4:aI pg k (b8 M pg k) J r f2)
  (hnd:((p::(f1++[fa]).flatten)++(q::(fb::f2).flatten)).Nodup) (hx:x.length≤96)
  (b1:xE E X0 R0 R ps pg rt M X p n k I1 i [] A a [] f1 [] fa la M1 R1 gU X1) (s1:SS E X0 R0 R1 ps pg rt M1 X1 sb sv l)
  (b2:xE E X0 R0 R1 ps pg rt M1 X1 q m k [] j J [] b r [] f2 fb lb M2 R2 mD X2) (s2:SS E X0 R0 R2 ps pg rt M2 X2 sb sv l) (t2:jF R M X sb sv R2 M2 sv X2):
  ∃M3 m3,UG E X0 R0 R ps pg rt M X sb sv l k p q n m I1 i j J A r a b x f1 f2 fa fb R2 M3 (X2.setCell ⟨m.rg,m.ro,none⟩ (.string (bs x))) la lb gU mD m3:=by
 have hlt:∀r,(∃y,M r=some y)→r<X.heap.size:=fun r ⟨y,hy⟩=>(h.ts.mem.lt hy).1
 have QF:∀r,(∃y,M1 r=some y)→r<X1.heap.size:=fun r ⟨y,hy⟩=>(s1.ts.mem.lt hy).1
 have Em:=b1.size
 have UI:(f1++[fa]).flatten=f1.flatten++fa:=by simp
 rw[UI,List.flatten_cons] at hnd
 have QI:=k1.dom
 have QJ:=k4.dom
 have UJ:∀r∈fa,∃y,M r=some y:=by
  obtain⟨_,_,hi⟩:=k2
  rcases hi with⟨_,e,_⟩|⟨y,_,hr⟩
  ·rw[e];intro r hr;cases hr
  ·exact hr.dom
 have UK:∀r∈fb,∃y,M r=some y:=by
  obtain⟨_,_,hi⟩:=k3
  rcases hi with⟨_,e,_⟩|⟨y,_,hr⟩
  ·rw[e];intro r hr;cases hr
  ·exact hr.dom
 obtain⟨ux,hd2,Ye⟩:=List.nodup_append.1 hnd
 obtain⟨hp1,UL⟩:=List.nodup_cons.1 ux
 obtain⟨hq1,UM⟩:=List.nodup_cons.1 hd2
 obtain⟨n1,na0,d1a⟩:=List.nodup_append.1 UL
 obtain⟨nb0,n2,db2⟩:=List.nodup_append.1 UM
 have hpq:p≠q:=fun e=>Ye p List.mem_cons_self q List.mem_cons_self e
 have mR:∀s t,s∈p::(f1.flatten++fa)→t∈q::(fb++f2.flatten)→s≠t:=fun s t hs ht=>Ye s hs t ht
 have hpX:=hlt p ⟨n,hp⟩
 have hqX:=hlt q ⟨m,hq⟩
 have aal:∀r,r≠p→(∃y,M r=some y)→M1 r=M r:=fun r hr ⟨y,hy⟩=>by rw[hy];exact b1.same r y hr hy
 have QK:∀r,r≠q→(∃y,M1 r=some y)→M2 r=M1 r:=fun r hr ⟨y,hy⟩=>by rw[hy];exact b2.same r y hr hy
 have hm1:∀r y,r≠p→r≠q→M r=some y→M2 r=some y:=fun r y h1 h2 hy=>b2.same r y h2 (b1.same r y h1 hy)
 have UN:q∉gU:=fun e=>by
  rcases b1.news q e with e|e
  ·exact mR q q (List.mem_cons_of_mem _ (List.mem_append.2 (.inr e))) List.mem_cons_self rfl
  ·omega
 have pfa:p∉gU:=fun e=>by
  rcases b1.news p e with e|e
  ·exact hp1 (List.mem_append.2 (.inr e))
  ·omega
 have Yf:q∉mD:=fun e=>by
  rcases b2.news q e with e|e
  ·exact hq1 (List.mem_append.2 (.inl e))
  ·omega
 have pfb:p∉mD:=fun e=>by
  rcases b2.news p e with e|e
  ·exact mR p p List.mem_cons_self (List.mem_cons_of_mem _ (List.mem_append.2 (.inl e))) rfl
  ·omega
 have Mw:=b1.vS.dom
 have UO:b8 M2 pg k la a gU:=b1.vS.frame fun r hr=>QK r (fun e=>UN (by rw[←e];exact hr)) (Mw r hr)
 have UQ:aI pg k (b8 M2 pg k) I1 A f1:=b1.left.frame fun r hr=>QK r (fun e=>mR q q (List.mem_cons_of_mem _ (List.mem_append.2 (.inl (by rw[←e];exact hr)))) List.mem_cons_self rfl) (b1.left.dom r hr)
 have UR:M2 p=some {n with its:=I1++[{i with node:=some la}]}:=b2.same p _ hpq b1.at_
 obtain⟨m2,hm2⟩:∃m2:NV,m2={m with its:=[]++{j with node:=some lb}::J}:=⟨_,rfl⟩
 have Hp:M2 q=some m2:=by rw[hm2];exact b2.at_
 have hpos:0<m2.its.length:=by rw[hm2];show 0<([]++{j with node:=some lb}::J).length;simp
 have uy:m2.rg=m.rg:=by rw[hm2]
 have hro:m2.ro=m.ro:=by rw[hm2]
 obtain⟨m3,AQ⟩:∃m3:NV,m3={m2 with its:=m2.its.set 0 {m2.its[0] with key:=x}}:=⟨_,rfl⟩
 obtain⟨s3,t3⟩:SS E X0 R0 R2 ps pg rt (upd M2 q m3) (X2.setCell ⟨m.rg,m.ro,none⟩ (.string (bs x))) sb sv l∧jF R2 M2 X2 sb sv R2 (upd M2 q m3) sv (X2.setCell ⟨m.rg,m.ro,none⟩ (.string (bs x))):=by
  rw[←uy,←hro,AQ]
  exact s2.key Hp hpos x (by omega) rfl
 have US:m3.its=⟨x,j.val,some lb⟩::J:=by
  subst hm2
  rw[AQ]
  rfl
 have uB:∀r,r≠q→upd M2 q m3 r=M2 r:=fun r hr=>aA hr
 refine⟨upd M2 q m3,m3,⟨s3,t2.trans t3, ?_,aM _ _ _,US, ?_, ?_, ?_, ?_, ?_, ?_, ?_,b1.news,fun r hr=>(b2.news r hr).imp_right fun h=>Nat.le_trans Em h,fun r y h1 h2 hy=> ?_⟩⟩
 ·rw[aA hpq];exact UR
 ·subst hm2;rw[AQ];exact⟨rfl,rfl,rfl,rfl,rfl⟩
 ·exact UO.frame fun r hr=>uB r fun e=>UN (by rw[←e];exact hr)
 ·exact b2.vS.frame fun r hr=>uB r fun e=>Yf (by rw[←e];exact hr)
 ·exact UQ.frame fun r hr=>uB r fun e=>mR q q (List.mem_cons_of_mem _ (List.mem_append.2 (.inl (by rw[←e];exact hr)))) List.mem_cons_self rfl
 ·exact b2.right.frame fun r hr=>uB r fun e=>hq1 (List.mem_append.2 (.inr (by rw[←e];exact hr)))
 ·have dab:∀s∈gU,∀t∈mD,s≠t:=by
   intro s hs t ht e
   subst e
   rcases b1.news s hs with e1|e1
   ·rcases b2.news s ht with e2|e2
    ·exact mR s s (List.mem_cons_of_mem _ (List.mem_append.2 (.inr e1))) (List.mem_cons_of_mem _ (List.mem_append.2 (.inl e2))) rfl
    ·have:=hlt s (UJ s e1);omega
   ·rcases b2.news s ht with e2|e2
    ·have:=hlt s (UK s e2);omega
    ·have:=QF s (Mw s hs);omega
  have da2:∀s∈gU,∀t∈f2.flatten,s≠t:=by
   intro s hs t ht e
   subst e
   rcases b1.news s hs with e1|e1
   ·exact mR s s (List.mem_cons_of_mem _ (List.mem_append.2 (.inr e1))) (List.mem_cons_of_mem _ (List.mem_append.2 (.inr ht))) rfl
   ·have:=hlt s (QJ s ht);omega
  have UT:∀s∈mD,∀t∈f2.flatten,s≠t:=by
   intro s hs t ht e
   subst e
   rcases b2.news s hs with e1|e1
   ·exact db2 s e1 s ht rfl
   ·have:=hlt s (QJ s ht);omega
  have UU:∀s∈f1.flatten,∀t∈gU,s≠t:=by
   intro s hs t ht e
   subst e
   rcases b1.news s ht with e1|e1
   ·exact d1a s hs s e1 rfl
   ·have:=hlt s (QI s hs);omega
  have d1b:∀s∈f1.flatten,∀t∈mD,s≠t:=by
   intro s hs t ht e
   subst e
   rcases b2.news s ht with e1|e1
   ·exact mR s s (List.mem_cons_of_mem _ (List.mem_append.2 (.inl hs))) (List.mem_cons_of_mem _ (List.mem_append.2 (.inl e1))) rfl
   ·have:=hlt s (QI s hs);omega
  have d12:∀s∈f1.flatten,∀t∈f2.flatten,s≠t:=fun s hs t ht=>mR s t (List.mem_cons_of_mem _ (List.mem_append.2 (.inl hs))) (List.mem_cons_of_mem _ (List.mem_append.2 (.inr ht)))
  refine List.nodup_cons.2 ⟨?_,List.nodup_append.2 ⟨n1,List.nodup_append.2 ⟨b1.nd,List.nodup_append.2 ⟨b2.nd,n2,UT⟩, ?_⟩, ?_⟩⟩
  ·intro e
   rcases List.mem_append.1 e with e|e
   ·exact hp1 (List.mem_append.2 (.inl e))
   ·rcases List.mem_append.1 e with e|e
    ·exact pfa e
    ·rcases List.mem_append.1 e with e|e
     ·exact pfb e
     ·exact mR p p List.mem_cons_self (List.mem_cons_of_mem _ (List.mem_append.2 (.inr e))) rfl
  ·intro s hs t ht
   rcases List.mem_append.1 ht with ht|ht
   ·exact dab s hs t ht
   ·exact da2 s hs t ht
  ·intro s hs t ht
   rcases List.mem_append.1 ht with ht|ht
   ·exact UU s hs t ht
   ·rcases List.mem_append.1 ht with ht|ht
    ·exact d1b s hs t ht
    ·exact d12 s hs t ht
 ·intro e
  rcases List.mem_cons.1 e with e|e
  ·exact hpq e.symm
  ·rcases List.mem_append.1 e with e|e
   ·exact mR q q (List.mem_cons_of_mem _ (List.mem_append.2 (.inl e))) List.mem_cons_self rfl
   ·rcases List.mem_append.1 e with e|e
    ·exact UN e
    ·rcases List.mem_append.1 e with e|e
     ·exact Yf e
     ·exact hq1 (List.mem_append.2 (.inr e))
 ·rw[aA h2];exact hm1 r y h1 h2 hy
end
section
variable {E:Ev} {X0 X X3 X4 X5 X':World} {R0 R R3:Nat→Prop} {ps:List (Nat×List UInt8)} {pg:List (Option Wl.Text)} {rt:List Nat} {M M3 M5:Nat→Option NV} {p q:Nat} {n m m3:NV} {sb:Nat} {sv:Value} {l:List Int}
 {k:Nat} {I1:List It} {i j:It} {J:List It} {A r:List (Tr.Tx×Tr.E (k+1))} {a b:Tr.E (k+1)} {x ka kb:Tr.Tx} {f1 f2:List (List Nat)} {fa fb gU mD:List Nat} {la lb:Nat} {tn tm:Tr.E (k+2)}
theorem aI.cons {R1:Nat→Tr.E (k+1)→List Nat→Prop} {is:List It} {xs:List (Tr.Tx×Tr.E (k+1))} {fs:List (List Nat)} {y:Tr.Tx×Tr.E (k+1)} {f:List Nat} (h:gE pg k R1 i y f) (h':aI pg k R1 is xs fs):aI pg k R1 (i::is) (y::xs) (f::fs):=⟨h,h'⟩
theorem gE.gq {R1 R2:Nat→Tr.E (k+1)→List Nat→Prop} {f f':List Nat} {a':Tr.E (k+1)} (h:gE pg k R1 i (ka,a) f) (q:Nat) (hr:R2 q a' f'):gE pg k R2 {i with node:=some q} (ka,a') f':=⟨h.1,h.2.1,.inr ⟨q,rfl,hr⟩⟩
theorem tj {g c:Nat} {its:List It} {t:Tr.E (k+2)} {n0:NV} (pJ:iC pg (k+1) n tn) (h1:n0.level=n.level) (h2:n0.page=n.page) (h3:n0.lo=n.lo) (Hj:Tr.hd t=⟨(Tr.hd tn).page,true⟩) (hok:Tr.fJ (k+1) n.lo (gD m.hi) t):iC pg (k+1) (n0.iO its g c m.hi) t:=by
 refine⟨h1.trans pJ.level, ?_, ?_, ?_,fun hf=> ?_⟩
 ·show n0.page=_
  rw[h2,Hj];exact pJ.page
 ·rw[Hj];rfl
 ·show Tr.fJ (k+1) n0.lo (gD m.hi) t
  rw[h3];exact hok
 ·rw[Hj] at hf;cases hf
theorem uR {uD:Tr.Tx} {yG:Option Tr.Tx} (md:UG E X0 R0 R ps pg rt M X sb sv l k p q n m I1 i j J A r a b x f1 f2 fa fb R3 M3 X3 la lb gU mD m3)
  (hb4:Below X3.heap.size X3 X4) (pJ:iC pg (k+1) n tn) (cR:iC pg (k+1) m tm) (hA:Tr.its tn=A++[(ka,a)]) (hB:Tr.its tm=(kb,b)::r) (k2:gE pg k (b8 M pg k) i (ka,a) fa) (k3:gE pg k (b8 M pg k) j (kb,b) fb)
  (on:Tr.Ok (k+2) uD (some x) tn) (om:Tr.Ok (k+2) x yG tm) (hx:x.length≤96) (hc:¬Tr.cut (k+2) tn x tm) (hold:Tr.Old (k+2) tm) (hcut:Tr.cut (k+1) a x b) {g c:Nat}
  (hto:Et E X0 R0 R3 ps pg rt M3 X4 sb sv (upd M3 p (NV.iO {n with its:=I1++[{i with node:=some la}]} ((I1++[{i with node:=some la}])++m3.its) g c m3.hi)) (l++[m3.page]) X'):
  oT E X0 R0 R ps pg rt M X sb sv (k+1) p n m ((p::(f1++[fa]).flatten)++(q::(fb::f2).flatten)) (Tr.join (k+1) tn tm x).1 (l++ew (Tr.join (k+1) tn tm x).2) X':=by
 have J0:=Tr.ot (k+1) (Tr.Ok.mix (p_ pJ on) on) (Tr.Ok.mix om (p_ cR om)) hx hc
 have Hj:=Tr.xL (x:=x) on.1 om.1
 have hj:=Tr.jk (x:=x) hA hB
 rw[if_pos hcut] at hj
 have ku:(Tr.hd tm).page.isSome=true:=hold.1
 have hj2:(Tr.join (k+1) tn tm x).2=(Tr.hd tm).page.toList:=by rw[hj]
 have hji:Tr.its (Tr.join (k+1) tn tm x).1=A++(ka,a)::(x,b)::r:=by rw[hj];rfl
 obtain⟨R5,O4,s5,t5⟩:=jy.1 hto
 obtain⟨kg,hl2,_⟩:=md.like
 rw[kg] at s5 t5
 have pK:p∉f1.flatten++(gU++(mD++f2.flatten)):=(List.nodup_cons.1 md.nd).1
 obtain⟨N6,Hq⟩:∃N6,N6=NV.iO {n with its:=I1++[{i with node:=some la}]} ((I1++[{i with node:=some la}])++m3.its) g c m.hi:=⟨_,rfl⟩
 rw[←Hq] at s5 t5
 obtain⟨M6,Jz⟩:∃M6,M6=upd M3 p N6:=⟨_,rfl⟩
 rw[←Jz] at s5 t5
 have hat:M6 p=some N6:=by rw[Jz];exact aM _ _ _
 have uB:∀s,s≠p→M6 s=M3 s:=fun s hs=>by rw[Jz];exact aA hs
 have hfr:∀s,s∈f1.flatten++(gU++(mD++f2.flatten))→M6 s=M3 s:=fun s hs=>uB s fun e=>pK (by rw[←e];exact hs)
 have dM:N6.its=I1++{i with node:=some la}::⟨x,j.val,some lb⟩::J:=by rw[Hq];show (I1++[{i with node:=some la}])++m3.its=_;rw[md.its,List.append_assoc];rfl
 have e2:(l++[m3.page]:List Int)=l++ew (Tr.join (k+1) tn tm x).2:=by rw[hl2,cR.page,hj2,fY ku]
 rw[e2] at s5
 have hfl:(f1++(gU::(mD::f2))).flatten=f1.flatten++(gU++(mD++f2.flatten)):=by simp
 refine⟨_,_,p::(f1++(gU::(mD::f2))).flatten,jy.2 ⟨R5,O4,s5,(md.vW.trans (jF.still hb4)).trans t5⟩,⟨N6,f1++(gU::(mD::f2)),hat,by rw[Hq];exact tj pJ rfl rfl rfl Hj J0.ok.near, ?_,rfl⟩,hat,by rw[Hq];rfl,by rw[Hq];rfl,by rw[hfl];exact md.nd,fun s hs=> ?_,fun s y hs hy=> ?_⟩
 ·rw[hji,dM]
  refine (md.kl.frame fun s hs=>hfr s (List.mem_append.2 (.inl hs))).append (aI.cons (k2.gq la (md.ra.frame fun s hs=>hfr s ?_)) (aI.cons (y:=(x,b)) ⟨rfl,k3.2.1,.inr ⟨lb,rfl,md.rb.frame fun s hs=>hfr s ?_⟩⟩ (md.kr.frame fun s hs=>hfr s ?_)))
  ·exact List.mem_append.2 (.inr (List.mem_append.2 (.inl hs)))
  ·exact List.mem_append.2 (.inr (List.mem_append.2 (.inr (List.mem_append.2 (.inl hs)))))
  ·exact List.mem_append.2 (.inr (List.mem_append.2 (.inr (List.mem_append.2 (.inr hs)))))
 ·rw[hfl] at hs
  rcases List.mem_cons.1 hs with hs|hs
  ·exact .inl (List.mem_append.2 (.inl (by rw[hs];exact List.mem_cons_self)))
  ·rcases List.mem_append.1 hs with hs|hs
   ·exact .inl (List.mem_append.2 (.inl (List.mem_cons_of_mem _ (by simp only[List.flatten_append,List.mem_append];exact .inl hs))))
   ·rcases List.mem_append.1 hs with hs|hs
    ·exact (md.na s hs).imp_left fun h=>List.mem_append.2 (.inl (List.mem_cons_of_mem _ (by simp only[List.flatten_append,List.mem_append];right;simpa using h)))
    ·rcases List.mem_append.1 hs with hs|hs
     ·exact (md.nb s hs).imp_left fun h=>List.mem_append.2 (.inr (List.mem_cons_of_mem _ (by rw[List.flatten_cons];exact List.mem_append.2 (.inl h))))
     ·exact .inl (List.mem_append.2 (.inr (List.mem_cons_of_mem _ (by rw[List.flatten_cons];exact List.mem_append.2 (.inr hs)))))
 ·have hsp:s≠p:=fun e=>hs (by rw[e];exact List.mem_append.2 (.inl List.mem_cons_self))
  have UW:s≠q:=fun e=>hs (by rw[e];exact List.mem_append.2 (.inr List.mem_cons_self))
  rw[uB s hsp]
  exact md.same s y hsp UW hy
theorem uS (hMX:∀s y,M s=some y→s<X.heap.size) {uD:Tr.Tx} {yG:Option Tr.Tx} {O4:Value} {R5:Nat→Prop} {Fj:List Nat} {l5:List Int} (md:UG E X0 R0 R ps pg rt M X sb sv l k p q n m I1 i j J A r a b x f1 f2 fa fb R3 M3 X3 la lb gU mD m3)
  (hb4:Below X3.heap.size X3 X4) (pJ:iC pg (k+1) n tn) (cR:iC pg (k+1) m tm) (hA:Tr.its tn=A++[(ka,a)]) (hB:Tr.its tm=(kb,b)::r) (k2:gE pg k (b8 M pg k) i (ka,a) fa)
  (on:Tr.Ok (k+2) uD (some x) tn) (om:Tr.Ok (k+2) x yG tm) (hx:x.length≤96) (hc:¬Tr.cut (k+2) tn x tm) (hold:Tr.Old (k+2) tm) (hcut:¬Tr.cut (k+1) a x b)
  (t5:jF R3 M3 X4 sb sv R5 M5 O4 X5) (Yg:l5=l++ew (Tr.join k a b x).2) (QL:b8 M5 pg k la (Tr.join k a b x).1 Fj) (QM:Fj.Nodup) (hnew:∀s∈Fj,s∈gU++mD∨X4.heap.size≤s) (hsame:∀s y,s∉gU++mD→M3 s=some y→M5 s=some y) {g c:Nat}
  (hto:Et E X0 R0 R5 ps pg rt M5 X5 sb O4 (upd M5 p (NV.iO {n with its:=I1++[{i with node:=some la}]} ((I1++[{i with node:=some la}])++J) g c m3.hi)) (l5++[m3.page]) X'):
  oT E X0 R0 R ps pg rt M X sb sv (k+1) p n m ((p::(f1++[fa]).flatten)++(q::(fb::f2).flatten)) (Tr.join (k+1) tn tm x).1 (l++ew (Tr.join (k+1) tn tm x).2) X':=by
 have J0:=Tr.ot (k+1) (Tr.Ok.mix (p_ pJ on) on) (Tr.Ok.mix om (p_ cR om)) hx hc
 have Hj:=Tr.xL (x:=x) on.1 om.1
 have hj:=Tr.jk (x:=x) hA hB
 rw[if_neg hcut] at hj
 have ku:(Tr.hd tm).page.isSome=true:=hold.1
 have hj2:(Tr.join (k+1) tn tm x).2=(Tr.join k a b x).2++(Tr.hd tm).page.toList:=by rw[hj]
 have hji:Tr.its (Tr.join (k+1) tn tm x).1=A++(ka,(Tr.join k a b x).1)::r:=by rw[hj];rfl
 obtain⟨R6,sv6,s6,t6⟩:=jy.1 hto
 obtain⟨kg,hl2,_⟩:=md.like
 rw[kg] at s6 t6
 obtain⟨pK,hnd⟩:=List.nodup_cons.1 md.nd
 have hdom:∀s,s∈f1.flatten++(gU++(mD++f2.flatten))→∃y,M3 s=some y:=by
  intro s hs
  rcases List.mem_append.1 hs with hs|hs
  ·exact md.kl.dom s hs
  ·rcases List.mem_append.1 hs with hs|hs
   ·exact md.ra.dom s hs
   ·rcases List.mem_append.1 hs with hs|hs
    ·exact md.rb.dom s hs
    ·exact md.kr.dom s hs
 have hlt:∀s y,M3 s=some y→s<X4.heap.size:=fun s y hy=>Nat.lt_of_lt_of_le (md.ss.ts.mem.lt hy).1 hb4.size
 have SX:X.heap.size≤X3.heap.size:=md.vW.but.size
 have hpX:p<X4.heap.size:=hlt p _ md.UH
 have QN:p∉Fj:=fun e=>by
  rcases hnew p e with e|e
  ·refine pK ?_
   rcases List.mem_append.1 e with e|e
   ·exact List.mem_append.2 (.inr (List.mem_append.2 (.inl e)))
   ·exact List.mem_append.2 (.inr (List.mem_append.2 (.inr (List.mem_append.2 (.inl e)))))
  ·omega
 obtain⟨n1,gG,d1⟩:=List.nodup_append.1 hnd
 obtain⟨_,xM,d2⟩:=List.nodup_append.1 gG
 obtain⟨_,n2,d3⟩:=List.nodup_append.1 xM
 have QO:∀s∈f1.flatten,s∉gU++mD:=fun s hs e=>by
  rcases List.mem_append.1 e with e|e
  ·exact d1 s hs s (List.mem_append.2 (.inl e)) rfl
  ·exact d1 s hs s (List.mem_append.2 (.inr (List.mem_append.2 (.inl e)))) rfl
 have QR:∀s∈f2.flatten,s∉gU++mD:=fun s hs e=>by
  rcases List.mem_append.1 e with e|e
  ·exact d2 s e s (List.mem_append.2 (.inr hs)) rfl
  ·exact d3 s e s hs rfl
 have hag:∀s,s∉gU++mD→(∃y,M3 s=some y)→M5 s=M3 s:=fun s hs ⟨y,hy⟩=>by rw[hy];exact hsame s y hs hy
 obtain⟨N6,Hq⟩:∃N6,N6=NV.iO {n with its:=I1++[{i with node:=some la}]} ((I1++[{i with node:=some la}])++J) g c m.hi:=⟨_,rfl⟩
 rw[←Hq] at s6 t6
 obtain⟨M6,Jz⟩:∃M6,M6=upd M5 p N6:=⟨_,rfl⟩
 rw[←Jz] at s6 t6
 have hat:M6 p=some N6:=by rw[Jz];exact aM _ _ _
 have uB:∀s,s≠p→M6 s=M5 s:=fun s hs=>by rw[Jz];exact aA hs
 have dM:N6.its=I1++{i with node:=some la}::J:=by rw[Hq];show (I1++[{i with node:=some la}])++J=_;rw[List.append_assoc];rfl
 have QS:∀s∈f1.flatten,s≠p:=fun s hs e=>pK (by rw[←e];exact List.mem_append.2 (.inl hs))
 have QT:∀s∈f2.flatten,s≠p:=fun s hs e=>pK (by rw[←e];exact List.mem_append.2 (.inr (List.mem_append.2 (.inr (List.mem_append.2 (.inr hs))))))
 have e2:(l5++[m3.page]:List Int)=l++ew (Tr.join (k+1) tn tm x).2:=by rw[Yg,hl2,cR.page,hj2,fY ku,List.append_assoc];unfold ew;rw[List.map_append]
 rw[e2] at s6
 have hfl:(f1++(Fj::f2)).flatten=f1.flatten++(Fj++f2.flatten):=by simp
 have dj1:∀s∈f1.flatten,∀t∈Fj,s≠t:=by
  intro s hs t ht e
  subst e
  rcases hnew s ht with e|e
  ·exact QO s hs e
  ·obtain⟨y,hy⟩:=md.kl.dom s hs
   have:=hlt s y hy;omega
 have dj2:∀s∈Fj,∀t∈f2.flatten,s≠t:=by
  intro s hs t ht e
  subst e
  rcases hnew s hs with e|e
  ·exact QR s ht e
  ·obtain⟨y,hy⟩:=md.kr.dom s ht
   have:=hlt s y hy;omega
 refine⟨_,_,p::(f1++(Fj::f2)).flatten,jy.2 ⟨R6,sv6,s6,((md.vW.trans (jF.still hb4)).trans t5).trans t6⟩,⟨N6,f1++(Fj::f2),hat,by rw[Hq];exact tj pJ rfl rfl rfl Hj J0.ok.near, ?_,rfl⟩,hat,by rw[Hq];rfl,by rw[Hq];rfl, ?_,fun s hs=> ?_,fun s y hs hy=> ?_⟩
 ·rw[hji,dM]
  exact (md.kl.frame fun s hs=>(uB s (QS s hs)).trans (hag s (QO s hs) (md.kl.dom s hs))).append (aI.cons (k2.gq la (QL.frame fun s hs=>uB s fun e=>QN (by rw[←e];exact hs))) (md.kr.frame fun s hs=>(uB s (QT s hs)).trans (hag s (QR s hs) (md.kr.dom s hs))))
 ·rw[hfl]
  refine List.nodup_cons.2 ⟨fun e=> ?_,List.nodup_append.2 ⟨n1,List.nodup_append.2 ⟨QM,n2,dj2⟩,fun s hs t ht=> ?_⟩⟩
  ·rcases List.mem_append.1 e with e|e
   ·exact QS p e rfl
   ·rcases List.mem_append.1 e with e|e
    ·exact QN e
    ·exact QT p e rfl
  ·rcases List.mem_append.1 ht with ht|ht
   ·exact dj1 s hs t ht
   ·exact d1 s hs t (List.mem_append.2 (.inr (List.mem_append.2 (.inr ht))))
 ·rw[hfl] at hs
  have hin:∀s,s∈gU++mD→s∈(p::(f1++[fa]).flatten)++(q::(fb::f2).flatten)∨X.heap.size≤s:=by
   intro s hs
   rcases List.mem_append.1 hs with hs|hs
   ·exact (md.na s hs).imp_left fun h=>List.mem_append.2 (.inl (List.mem_cons_of_mem _ (by simp only[List.flatten_append,List.mem_append];right;simpa using h)))
   ·exact (md.nb s hs).imp_left fun h=>List.mem_append.2 (.inr (List.mem_cons_of_mem _ (by rw[List.flatten_cons];exact List.mem_append.2 (.inl h))))
  rcases List.mem_cons.1 hs with hs|hs
  ·exact .inl (List.mem_append.2 (.inl (by rw[hs];exact List.mem_cons_self)))
  ·rcases List.mem_append.1 hs with hs|hs
   ·exact .inl (List.mem_append.2 (.inl (List.mem_cons_of_mem _ (by simp only[List.flatten_append,List.mem_append];exact .inl hs))))
   ·rcases List.mem_append.1 hs with hs|hs
    ·rcases hnew s hs with e|e
     ·exact hin s e
     ·right;have:=hb4.size;omega
    ·exact .inl (List.mem_append.2 (.inr (List.mem_cons_of_mem _ (by rw[List.flatten_cons];exact List.mem_append.2 (.inr hs)))))
 ·have hsp:s≠p:=fun e=>hs (by rw[e];exact List.mem_append.2 (.inl List.mem_cons_self))
  have UW:s≠q:=fun e=>hs (by rw[e];exact List.mem_append.2 (.inr List.mem_cons_self))
  rw[uB s hsp]
  refine hsame s y (fun e=> ?_) (md.same s y hsp UW hy)
  have hyX:s<X.heap.size:=hMX s y hy
  rcases List.mem_append.1 e with e|e
  ·rcases md.na s e with e|e
   ·exact hs (List.mem_append.2 (.inl (List.mem_cons_of_mem _ (by simp only[List.flatten_append,List.mem_append];right;simpa using e))))
   ·omega
  ·rcases md.nb s e with e|e
   ·exact hs (List.mem_append.2 (.inr (List.mem_cons_of_mem _ (by rw[List.flatten_cons];exact List.mem_append.2 (.inl e)))))
   ·omega
end
end Go.Proofs.YtloekpcncjocaaaGreatDoor
