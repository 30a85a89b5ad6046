/- Elder texts, cut down and merged (16). -/
import Derived.Test.YtebbahjombdalaaGreatDoorP15
import Derived.Test.YtebbahjombdalaaGreatDoorP14
import Derived.Test.YtebbahjombdalaaGreatDoorP9
import Derived.Test.YtebbahjombdalaaGreatDoorP6
import Derived.Test.YtebbahjombdalaaGreatDoorPTk
set_option maxRecDepth 100000
set_option maxHeartbeats 8000000
namespace Go.Proofs.YtebbahjombdalaaGreatDoor
open Nat renaming le_trans→aG,zero_le→aC,lt_succ_self→jF,min_eq_left→b_,le_succ→jh,lt_or_ge→dw,le_refl→af,succ_ne_zero→cT
open List renaming length_map→aM,nodup_append→aL,mem_append→ah,getD_eq_getElem?_getD→bT,getElem?_eq_getElem→aJ,length_eq_zero_iff→ef,nil_append→dF,length_append→aq,mem_cons_self→aA,append_nil→bh,take_of_length_le→bZ,mem_singleton→cH,getElem_mem→bB,getElem?_append_right→gN,pairwise_iff_getElem→gE,length_pos_iff→ej,getElem?_map→cJ,getElem_cons_drop→kJ,take_append_drop→cL,length_take→aN,mem_cons_of_mem→aF,length_cons→aW,nodup_cons→cD,mem_cons→aQ,map_cons→bH,sum_cons→jJ,drop_eq_getElem_cons→cm,filter_append→ny,pairwise_cons→cw,filter_cons→cS,mem_filter→dy,filter_sublist→pE
open World renaming size_alloc→bk
open Bool renaming false_eq_true→jL
section
open Go.RowKit Lib
section
variable {E:Ev} {X0 X X' V w:World} {R0 R R':Nat→Prop} {ps:List (Nat×List UInt8)} {pg:List (Option Wl.Text)} {rt:List Nat} {M M':Nat→Option NV} {k q sb:Nat} {sv:Value} {tgt:List (Tr.Tx×Tr.Tx)} {pages sp:List Nat} {K:Nat} {T:Tr.E (K+1)}
def Done (E:Ev) (X0:World) (R0:Nat→Prop) (ps:List (Nat×List UInt8)) (pg:List (Option Wl.Text)) (rt:List Nat) (tgt:List (Tr.Tx×Tr.Tx)) (pages:List Nat) (c:Int) (X':World):Prop:=
 ko E X0 R0 ps pg rt tgt pages c X'∨(c=4∧pg.length<Rm.used pg+20∧∃R' M',TS E X0 R0 R' ps pg rt M' X')
def BI (B:Nat) (E:Ev) (X0:World) (R0:Nat→Prop) (ps:List (Nat×List UInt8)) (pg:List (Option Wl.Text)) (rt:List Nat) (tgt:List (Tr.Tx×Tr.Tx)) (pages:List Nat) (c:Int) (X':World):Prop:=
 ko E X0 R0 ps pg rt tgt pages c X'∨(c=4∧pg.length<Rm.used pg+B∧∃R' M',TS E X0 R0 R' ps pg rt M' X')
theorem NN:∀pg:List (Option Wl.Text),Rm.used pg≤pg.length:=fun pg=>by unfold Rm.used;exact List.length_filter_le _ _
def Iv (d:Nat):Nat:=if d=0 then 0 else 20
theorem Hf {v:Value} {c:Tr.E (k+1)} (hN:E2 E X0 R0 ps pg rt sb k c sp v X) (wQ:(Tr.b8 (k+1) c++sp).Perm pages) (qB:Tr.ct k (Tr.its c)=tgt) {d:Nat} (hnw:Tr.eT (k+1) c≤17) (Uo:d=0→Tr.eT (k+1) c=0∧Tr.sz k (Tr.its c)≤510) (hn:pages.Nodup) (ht:∀x∈pages,(pg.getD x none).isSome=true) (dH:E.place<16) (hq:ps.length≤60000000):
  Calls Tryz.prog 90 #[ptr sb,v] X fun e X'=>(e=.returned (.int .i64 0)∧BI (Iv d) E X0 R0 ps pg rt tgt pages 0 X')∨(e=.returned (.int .i64 4)∧X'.cell? ⟨E.tb,0,none⟩=some (.pointer (some ⟨E.rb,0,none⟩))∧Calls Tryz.prog 91 #[ptr E.rb,.int .i64 ps.length] X' fun e gm=>e=.returned (.tuple #[])∧BI (Iv d) E X0 R0 ps pg rt tgt pages 4 gm):=by
 obtain⟨R',M',eC,sp',hss,hv⟩:=hN
 have hrm:=hss.ts.rm
 have NP:pg.length≤4096:=hrm.rep.few
 have nP:pg.length≤65536:=aG hrm.rep.few (by decide)
 have hsw:=hss.sw
 have hG:∀c X,ko E X0 R0 ps pg rt tgt pages c X→(fun (c:Int) X=>ko E X0 R0 ps pg rt tgt pages c X∨(c=4∧Bw E X0 R0 rt ps pg 4200 (Iv d) X)) c X:=fun _ _ h=>.inl h
 have hW:=NM (sb:=sb) (tgt:=tgt) dH hn ht hrm.rep.t_ (by omega) NP hG
 have fin:∀{e:Ending} {X':World},(∃c:Int,e=.returned (.int .i64 c)∧(ko E X0 R0 ps pg rt tgt pages c X'∨(c=4∧Bw E X0 R0 rt ps pg 4200 (Iv d) X')))→(e=.returned (.int .i64 0)∧BI (Iv d) E X0 R0 ps pg rt tgt pages 0 X')∨(e=.returned (.int .i64 4)∧X'.cell? ⟨E.tb,0,none⟩=some (.pointer (some ⟨E.rb,0,none⟩))∧Calls Tryz.prog 91 #[ptr E.rb,.int .i64 ps.length] X' fun e gm=>e=.returned (.tuple #[])∧BI (Iv d) E X0 R0 ps pg rt tgt pages 4 gm):=by
  rintro e X' ⟨c,rfl,h|⟨rfl,R2,M2,ps2,mK,hts,hpre,hl,hlk⟩⟩
  ·have hc:=h.1
   subst hc
   exact .inl ⟨rfl,.inl h⟩
  ·refine .inr ⟨rfl,hts.tree.cell (j:=0) rfl,(G7 hts.rm hpre (by omega) hrm.rep hrm.pos).mono ?_⟩
   rintro e gm ⟨rfl,hr,hb⟩
   exact⟨rfl,.inr ⟨rfl,hlk,R2,M2,hts.uH hr hb⟩⟩
 obtain⟨a,cc,hblk,Rk,xj⟩:=hsw.sp
 have Qu:sp'.length≤4096→(gy sp').length≤70000:=fun h=>by unfold gy;rw[aM];omega
 have iY:(gy sp').length=sp'.length:=by unfold gy;rw[aM]
 rcases hv with⟨rfl,h0,hsp⟩|⟨r,k',c',F',rfl,Kf,hF,hok,hk,hp2,Qy,DC,aaW⟩
 ·have IB:Tr.b8 (k+1) c=(Tr.hd c).page.toList:=by rw[Tr.bp,h0];simp[Tr.dI]
  have Qz:sp'.Perm pages:=by
   grind
  have No:sp'.length≤4096:=aG (eM ((Qz.nodup_iff).2 hn) fun x hx=>cE (ht x ((Qz.mem_iff).1 hx))) NP
  have SB:tgt=[]:=by
   rw[←qB,h0];exact Tr.j8 k
  rw[iY] at hblk Rk
  have hF0:FrP E X0 R0 rt ps pg sb tgt pages 0 a sp'.length 0 X:=⟨R',M',ps,pg,pg,sp',[],[],cc,hss.ts,hss.tF.1,rfl,aC _,by omega,iq.refl pg,by simpa using Qz,.inl ⟨rfl,SB,rfl⟩,⟨rfl,fun x=>by simp,by simp⟩,hblk,fun hpos=>by
   obtain⟨g,o,e,Bv,hg,_⟩:=xj (by intro e;rw[←iY,e] at hpos;cases hpos)
   exact⟨g,o,e,Bv,hg⟩⟩
  refine (DJ hW (hblk.cell (j:=1) rfl) (by omega) Rk hF0).mono ?_
  intro e X' h
  exact fin h
 ·have hall:(Tr.b8 (k'+1) c'++sp').Nodup:=(Qy.nodup_iff).2 ((wQ.nodup_iff).2 hn)
  have htk:∀x∈Tr.b8 (k'+1) c'++sp',(pg.getD x none).isSome=true:=fun x hx=>ht x ((wQ.mem_iff).1 ((Qy.mem_iff).1 hx))
  have AK:(Tr.b8 (k'+1) c').length≤4096:=aG (eM (aL.1 hall).1 fun x hx=>cE (htk x (ah.2 (.inl hx)))) NP
  have Uk:=Tr.zC (k'+1) c'
  have hwr:=sK k' hk hsw Kf hF ⟨[],none,hok⟩ hall htk nP (by omega)
  refine (DK hW (hwr.mono ?_)).mono ?_
  ·rintro e X' ⟨c,rfl,⟨rfl,R2,ps2,mK,M2,t',wX,al,wr⟩|⟨rfl,R2,M2,ps2,mK,h1,h2,h3,h4⟩⟩
   ·left
    obtain⟨page,cy,ot,wP⟩:=wr.st.1
    obtain⟨n',hn',hnp⟩:=wr.at_
    have c2:=(wr.sw.ts.mem.nd r n' hn').c2
    rw[hnp,cy] at c2
    obtain⟨a2,cc2,BD,Up,Qv⟩:=wr.sw.sp
    have Uq:(gy wX).length=wX.length:=by unfold gy;rw[aM]
    rw[Uq] at BD Up
    have QA:(Tr.b8 (k'+1) t'++wX).Perm (pages++al):=wr.b8.trans ((Qy.trans wQ).append_right al)
    have Ur:(Tr.b8 (k'+1) t'++wX).Nodup:=(QA.nodup_iff).2 (aL.2 ⟨hn,wr.pg.nd,fun x hx y hy e=>by
     subst e
     have:=ht x hx
     rw[(wr.pg.free x hy).1] at this;cases this⟩)
    have hl2:wX.length≤4096:=aG (eM (aL.1 Ur).2.1 fun x hx=>by
     have:=(QA.mem_iff (a:=x)).1 (ah.2 (.inr hx))
     rcases ah.1 this with h3|h3
     ·grind
     ·exact (wr.pg.free x h3).2) NP
    have hfw:=wr.few
    refine⟨page,rfl,c2,ot,a2,wX.length,cc2,BD.cell (j:=1) rfl,by omega,Up,R2,M2,ps2,mK,mK,wX,al,Tr.b8 (k'+1) t',cc2,wr.sw.ts,wr.sw.tF.1,rfl,aC _,by omega,wr.pg,QA,.inr ⟨k',t',page,rfl,cy,hk,wr.st,Tr.Sm.ok wr.sm hok, ?_,rfl,(aL.1 Ur).1⟩,⟨rfl,fun x=>by simp,by simp⟩,BD,fun hpos=> ?_⟩
    ·rw[←qB,←hp2]
     exact Tr.Sm.ct wr.sm
    ·obtain⟨g,o,e,Bv,hg,_⟩:=Qv (by intro e;rw[←Uq,e] at hpos;cases hpos)
     exact⟨g,o,e,Bv,hg⟩
   ·right
    exact⟨4,rfl,by decide,.inr ⟨rfl,R2,M2,ps2,mK,h1,h2,by omega,by
     unfold Iv
     split
     ·omega
     ·omega⟩⟩
  ·omega
structure E8 (E:Ev) (X0:World) (R0 R:Nat→Prop) (ps:List (Nat×List UInt8)) (pg:List (Option Wl.Text)) (rt:List Nat) (M:Nat→Option NV) (w:World) (leaf:Nat) (m:NV) (c0:Tr.E 1) (l:List (Tr.Tx×Tr.E 0)) (K:Nat) (T:Tr.E (K+1)) (path:List Nat) (pre post:List (Tr.Tx×Tr.Tx)) (out:List Nat) (pr:Nat):Prop where
 ts:TS E X0 R0 R ps pg rt M w
 above:ia M pg 0 leaf m.lo m.hi c0 K T path pre post out
 kI:M leaf=some m
 wO:m.level=0
 its:m.its=ak 0 l
 page:m.page=xP (Tr.hd c0).page
 was:m.was=Tr.sz 0 (Tr.its c0)
 near:Tr.ig 0 m.lo (iV m.hi) (Tr.mk ⟨(Tr.hd c0).page,true⟩ l)
 new:(Tr.hd c0).page.isSome=true∨(K=0∧l≠[])
 nd:(path++[leaf]).Nodup
 row:a_ cZ w pr 0 (leaf::path).reverse
 VJ:R pr∧¬MB M pr
 pnd:(Tr.b8 (K+1) T).Nodup
 taken:∀x∈Tr.b8 (K+1) T,(pg.getD x none).isSome=true
 Us:K≤15
theorem KF {α:Type} (q p:α) (path:List α):(q::p::path).reverse.take ((p::path).length)=(p::path).reverse:=by
 grind
def QB (E:Ev) (X0:World) (R0:Nat→Prop) (ps:List (Nat×List UInt8)) (pg:List (Option Wl.Text)) (rt:List Nat) (sb K:Nat) (T:Tr.E (K+1)) (tgt:List (Tr.Tx×Tr.Tx)) (pl:List Nat) (pr d i:Nat) (X:World):Prop:=
 ∃(R':Nat→Prop) (M':Nat→Option NV) (sv:Value) (k q:Nat) (lo hi:List UInt8) (c0 c:Tr.E (k+1)) (path:List Nat) (pre post:List (Tr.Tx×Tr.Tx)) (out F sp:List Nat),path.length=i∧Zip E X0 R0 R' ps pg rt M' X sb sv k q lo hi c0 c K T path pre post tgt out F sp d∧d≤1∧(q::path).reverse=pl.take (i+1)∧a_ cZ X pr 0 pl∧R' pr∧¬MB M' pr∧pr≠sb∧sv.ownBlock≠some pr∧
  ((Tr.hd c).page.isSome=true∨(k=0∧Tr.its c≠[]))∧i<pl.length
theorem DW {pl:List Nat} {pr d i:Nat} (h:QB E X0 R0 ps pg rt sb K T tgt pl pr d i X):∀j,j≤i→X.cell? ⟨pr,j,none⟩=some (.pointer (some ⟨pl.getD j 0,0,none⟩)):=by
 obtain⟨R',M',sv,k,q,lo,hi,c0,c,path,pre,post,out,F,sp,hi1,z,wm,dH,Bv,_,_,_,_,_,hil⟩:=h
 intro j hj
 have hjl:j<pl.length:=by omega
 have:=Bv.at j 0 (by decide) hjl (.pointer (some ⟨pl[j],0,none⟩)) rfl
 rw[show 0+(j*cZ.size+0)=j from by show 0+(j*1+0)=j;omega] at this
 rw[bT,aJ hjl]
 exact this
theorem lI {pl:List Nat} {i q:Nat} {path:List Nat} (h:(q::path).reverse=pl.take (i+1)) (hl:path.length=i):pl.getD i 0=q:=by
 have h1:(pl.take (i+1))[i]?=some q:=by
  grind
 rw[List.getElem?_take_of_lt (jF i)] at h1
 rw[bT,h1]
 rfl
theorem QC {pl:List Nat} {pr d:Nat} (dH:E.place<16) (hn:(Tr.b8 (K+1) T).Nodup) (ht:∀x∈Tr.b8 (K+1) T,(pg.getD x none).isSome=true) (hq:ps.length≤60000000):
  Way sb E.tb E.rb pr pl.length ps.length (fun j=>pl.getD j 0) (fun i X=>QB E X0 R0 ps pg rt sb K T tgt pl pr d i X) (fun v X=>∃(k:Nat) (c:Tr.E (k+1)) (sp:List Nat),E2 E X0 R0 ps pg rt sb k c sp v X∧(Tr.b8 (k+1) c++sp).Perm (Tr.b8 (K+1) T)∧Tr.ct k (Tr.its c)=tgt∧Tr.eT (k+1) c≤17∧(d=0→Tr.eT (k+1) c=0∧Tr.sz k (Tr.its c)≤510)) (fun c X=>BI (Iv d) E X0 R0 ps pg rt tgt (Tr.b8 (K+1) T) c X):=by
 refine⟨fun i X h=>DW h, ?_, ?_, ?_, ?_, ?_⟩
 ·rintro i X ⟨R',M',sv,k,q,lo,hi,c0,c,path,pre,post,out,F,sp,hi1,z,wm,CZ,Bv,h1,h2,h3,h4,h5,h6⟩
  have hb:Below X.heap.size X X.drew:=(Below.refl _ X).drew
  exact⟨R',M',sv,k,q,lo,hi,c0,c,path,pre,post,out,F,sp,hi1,⟨z.ss.still hb,z.above,z.xQ,z.kI,z.near,z.page,z.old,z.nd,z.ct,z.b8,z.eT,z.few,z.wO,z.quiet⟩,wm,CZ,Bv.below hb (z.ss.ts.Gg pr h1),h1,h2,h3,h4,h5,h6⟩
 ·rintro i X ⟨R',M',sv,k,q,lo,hi,c0,c,path,pre,post,out,F,sp,hi1,z,wm,CZ,Bv,h1,h2,h3,h4,h5,h6⟩
  cases path with
  |nil=>cases hi1
  |cons p path=>
   have hpi:path.length=i:=by simpa using hi1
   have hq1:pl.getD (i+1) 0=q:=lI CZ hi1
   have htk:(p::path).reverse=pl.take (i+1):=by
    have e:=congrArg (fun x=>x.take (i+1)) CZ
    rw[List.take_take,b_ (jh _)] at e
    rw[←e,←hi1]
    exact (KF q p path).symm
   have hp1:pl.getD i 0=p:=lI htk hpi
   rw[hq1,hp1]
   refine (Kr z).mono ?_
   rintro e X' ⟨rfl,R2,M2,Vu,lo',hi',c0',c',pre',post',out',F',sp',z',st,hps⟩
   have hlt:=z.ss.ts.Gg pr h1
   refine⟨rfl,R2,M2,Vu,k+1,p,lo',hi',c0',c',path,pre',post',out',F',sp',hpi,z',wm,htk,Bv.but st.but ?_,st.sub _ h1,fun hm=> ?_,h3,fun he=> ?_, ?_,by omega⟩
   ·grind
   ·rcases st.mb _ hm with hm|hm
    ·exact h2 hm
    ·omega
   ·rcases st.sp _ he with he|he
    ·exact h4 he
    ·omega
   ·exact .inl hps
 ·rintro X ⟨R',M',sv,k,q,lo,hi,c0,c,path,pre,post,out,F,sp,hi1,z,wm,CZ,Bv,h1,h2,h3,h4,h5,h6⟩
  have hp0:path=[]:=ef.1 hi1
  subst hp0
  have hq1:pl.getD 0 0=q:=lI CZ rfl
  rw[hq1]
  generalize VF:([]:List Nat)=pp at z
  obtain⟨ss,above,xQ,⟨m,kI,was,hlo,hhi⟩,near,page,old,nd,qB,vu,Ny,few,wO,quiet⟩:=z
  cases above with
  |up=>cases VF
  |top=>
   have hnF:=(aL.1 nd).2.1
   rw[dF] at vu
   have aaX:(Tr.b8 (K+1) c).length+sp.length≤4096:=by
    have h7:=vu.length_eq
    rw[aq] at h7
    have h8:=eM hn fun x hx=>cE (ht x hx)
    have h9:=ss.ts.rm.rep.few
    omega
   refine (Bu (m:=m) ss xQ kI hnF near ⟨hlo,hhi⟩ h5 wO (fun hbig=> ?_) (by omega)).mono ?_
   ·rcases dw K 15 with hlt|hge
    ·exact hlt
    ·exfalso
     obtain rfl:K=14+1:=by omega
     have hne:Tr.its c≠[]:=by
      intro e;rw[e] at hbig
      have:Tr.sz (14+1) ([]:List (Tr.Tx×Tr.E (14+1)))=0:=rfl
      omega
     have hb:=(Tr.pz 14 hne near.2).2
     have AK:=Tr.zC (14+2) c
     have hm2:2≤(Tr.its c).length:=by
      rcases dw 1 (Tr.its c).length with h7|h7
      ·exact h7
      ·exfalso
       have h8:=Tr.zE (gY near.2).2.2
       omega
     have Yy:(2:Nat)^14=16384:=by decide
     rw[Yy] at hb
     have aaY:(Tr.b8 (14+2) c).length≤4096:=by
      grind
     have aaZ:Tr.eT (14+2) c≤17:=by
      grind
     omega
   ·rintro e X' ⟨v,rfl,htop⟩
    refine⟨v,rfl,K,c,sp,htop,vu, ?_,by omega,quiet⟩
    rw[←qB]
    simp
 ·rintro v X ⟨k,c,sp,⟨R',M',eC,sp',hss,hv⟩,h2,h3,h4,h5⟩
  exact⟨hss.ts.tree.cell (j:=0) rfl,G6 hss.ts.rm⟩
 ·rintro v X ⟨k,c,sp,h1,h2,h3,h4,h5⟩
  exact Hf h1 h2 h3 h4 h5 hn ht dH hq
end
theorem vE:∀l:List (Tr.Tx×Tr.E 0),Tr.jP 0 l=0
 |[]=>rfl
 |x::l=>by rw[Tr.ew,vE l];rfl
section
variable {E:Ev} {X0 w:World} {R0 R:Nat→Prop} {ps:List (Nat×List UInt8)} {pg:List (Option Wl.Text)} {rt:List Nat} {M:Nat→Option NV} {leaf pr cap:Nat} {m:NV} {c0:Tr.E 1} {l:List (Tr.Tx×Tr.E 0)} {K:Nat} {T:Tr.E (K+1)} {path out:List Nat} {pre post:List (Tr.Tx×Tr.Tx)}
theorem zG (s:E8 E X0 R0 R ps pg rt M w leaf m c0 l K T path pre post out pr) {W:World} (hW:W=(w.setCell ⟨leaf,7,none⟩ (.bool true)).alloc (.cells #[.pointer (some ⟨E.tb,0,none⟩),.slice none 0 0] 169)) {d:Nat} (wm:d≤1) (Uo:d=0→Tr.sz 0 l≤510∧(Tr.hd c0).page.isSome=true):
  QB E X0 R0 ps pg rt w.heap.size K T (pre++Tr.ct 0 l++post) (leaf::path).reverse pr d path.length W:=by
 obtain⟨m',hm'⟩:∃m':NV,m'={m with fresh:=true}:=⟨_,rfl⟩
 obtain⟨W1,jQ⟩:∃W1,W1=w.setCell ⟨leaf,7,none⟩ (.bool true):=⟨_,rfl⟩
 rw[←jQ] at hW
 have bF:aE (fun b=>b=leaf) w W1:=by rw[jQ];exact (aE.refl (fun b=>b=leaf) w).setCell _ _ fun _=>rfl
 have hsz:W1.heap.size=w.heap.size:=by rw[jQ];exact World.size_setCell _ _ _
 have hmb:∀b,MB (upd M leaf m') b→MB M b:=by
  rintro b ⟨r,y,hr,hk⟩
  rcases aI hr with⟨rfl,rfl⟩|⟨_,hr⟩
  ·exact⟨_,m,s.kI,by rw[hm'] at hk;exact hk⟩
  ·exact⟨r,y,hr,hk⟩
 have hmem:Mem W1 (upd M leaf m'):=by
  rw[jQ]
  exact s.ts.mem.cell s.kI m' 7 _ (by rw[hm']) (by rw[hm']) (by rw[hm']) (by rw[hm']) (by rw[hm']) (by rw[hm'];rfl)
 have oy:TS E X0 R0 R ps pg rt (upd M leaf m') W1:=s.ts.own bF (fun b _ e=>by rw[e];exact s.ts.jR leaf ⟨leaf,m,s.kI,.inl rfl⟩) hmem (fun b hb=>s.ts.jR b (hmb b hb)) (fun _ h=>h) (fun _ h=>.inl h)
 have aP:Below W1.heap.size W1 W:=by rw[hW];exact (Below.refl _ W1).alloc (af _) _
 have MF:W.heap.size=w.heap.size+1:=by rw[hW,bk,hsz]
 have vD:TS E X0 R0 (fun b=>R b∨b=w.heap.size) ps pg rt (upd M leaf m') W:=oy.still aP (fun _ h=>.inl h) (fun b hb=>hb.imp_right fun hb=>⟨by omega,by omega⟩)
 have hblk:aS W w.heap.size 169 [ptr E.tb,.slice none 0 0]:=by
  rw[hW,←hsz]
  exact aS.new W1 _ _
 have Yz:=s.ts.Gg pr s.VJ.1
 have hlm:=(s.ts.mem.lt s.kI).1
 have hss:SS E X0 R0 (fun b=>R b∨b=w.heap.size) ps pg rt (upd M leaf m') W w.heap.size (.slice none 0 0) (gy []):=⟨vD,hblk,Own.nil _ _ _ _,⟨.inr rfl,s.ts.but.size,fun hm=>by have:=s.ts.mem.lg (hmb _ hm);omega⟩,fun b hb=>by cases hb⟩
 have hlp:leaf∉path:=fun h=>(aL.1 s.nd).2.2 leaf h leaf aA rfl
 have oS:=s.above.level
 have nP:Tr.b8 1 (Tr.mk ⟨(Tr.hd c0).page,true⟩ l)=Tr.b8 1 c0:=by
  rw[Tr.bp,Tr.bp,qD,qD];rfl
 have YA:¬MB (upd M leaf m') pr:=fun hm=>s.VJ.2 (hmb _ hm)
 refine⟨fun b=>R b∨b=w.heap.size,upd M leaf m',.slice none 0 0,0,leaf,m.lo,m.hi,c0,Tr.mk ⟨(Tr.hd c0).page,true⟩ l,path,pre,post,out,[leaf],[],rfl,⟨hss,s.above.frame fun r hr=>aO fun e=>hlp (by rw[←e];exact hr),⟨m',bz _ _ _,⟨?_, ?_, ?_, ?_,fun e=>(by cases e)⟩,by rw[hm'];exact s.its,rfl⟩,⟨m',bz _ _ _,by rw[hm'];exact s.was,by rw[hm'],by rw[hm']⟩,s.near,rfl,fun hne=>⟨?_,fun _ _=>trivial⟩,s.nd,rfl, ?_, ?_, ?_,s.Us,fun hd=>⟨?_,(Uo hd).1⟩⟩,wm, ?_, ?_,.inl s.VJ.1,YA,by omega,by simp[Value.ownBlock], ?_,by simp⟩
 ·rw[hm'];exact s.wO
 ·rw[hm'];exact s.page
 ·rw[hm'];rfl
 ·rw[hm'];exact s.near
 ·rcases s.new with h|⟨h,_⟩
  ·exact h
  ·grind
 ·rw[bh,nP];exact s.above.b8
 ·rw[Tr.bR,vE]
  split
  ·omega
  ·simp_all;omega
 ·have h1:=eM s.pnd fun x hx=>cE (s.taken x hx)
  have h2:=s.ts.rm.rep.few
  omega
 ·rw[Tr.bR,vE,if_pos (show (Tr.hd (Tr.mk ⟨(Tr.hd c0).page,true⟩ l)).page.isSome=true from (Uo hd).2)]
 ·grind
 ·refine (s.row.but bF fun e=>s.VJ.2 ⟨leaf,m,s.kI,.inl e⟩).below aP (by omega)
 ·exact s.new.imp_right fun h=>⟨rfl,h.2⟩
theorem vF (s:E8 E X0 R0 R ps pg rt M w leaf m c0 l K T path pre post out pr) (hq:ps.length≤60000000) (dH:E.place<16):
  Calls Tryz.prog 57 #[ptr E.tb,.slice (some ⟨pr,0,none⟩) (path.length+1) cap] w fun e w'=>∃c:Int,e=.returned (.int .i64 c)∧Done E X0 R0 ps pg rt (pre++Tr.ct 0 l++post) (Tr.b8 (K+1) T) c w'∧(Tr.sz 0 l≤510→(Tr.hd c0).page.isSome=true→c=0):=by
 obtain⟨d,wm,Uo,hdq⟩:∃d:Nat,d≤1∧(d=0→Tr.sz 0 l≤510∧(Tr.hd c0).page.isSome=true)∧(Tr.sz 0 l≤510→(Tr.hd c0).page.isSome=true→d=0):=by
  by_cases h:Tr.sz 0 l≤510∧(Tr.hd c0).page.isSome=true
  ·simp_all
  ·exact⟨1,af _,fun e=>(by cases e),fun h1 h2=>absurd ⟨h1,h2⟩ h⟩
 have oS:=s.above.level
 have hk:=s.Us
 have hW:=QC (E:=E) (X0:=X0) (R0:=R0) (rt:=rt) (T:=T) (tgt:=pre++Tr.ct 0 l++post) (sb:=w.heap.size) (pl:=(leaf::path).reverse) (pr:=pr) (d:=d) dH s.pnd s.taken hq
 have hlen:(leaf::path).reverse.length=path.length+1:=by simp
 rw[hlen] at hW
 have RN:(leaf::path).reverse.getD path.length 0=leaf:=lI (path:=path) (by rw[bZ (by simp)]) rfl
 have hnd:=s.ts.mem.nd leaf m s.kI
 have hc:w.cell? ⟨pr,path.length,none⟩=some (.pointer (some ⟨(leaf::path).reverse.getD path.length 0,0,none⟩)):=by
  have hjl:path.length<(leaf::path).reverse.length:=by rw[hlen];omega
  have:=s.row.at path.length 0 (by decide) hjl (.pointer (some ⟨(leaf::path).reverse[path.length],0,none⟩)) rfl
  rw[show 0+(path.length*cZ.size+0)=path.length from by show 0+(path.length*1+0)=path.length;omega] at this
  rw[bT,aJ hjl]
  exact this
 refine (BF hW (by omega) hc ?_ ?_ ?_).mono ?_
 ·rw[RN];exact⟨_,hnd.c7⟩
 ·rw[RN];exact hnd.blk.frozen 7
 ·intro W XV
  rw[RN] at XV
  exact zG s XV wm Uo
 ·rintro e w' ⟨c,rfl,hdn⟩
  refine⟨c,rfl, ?_,fun h1 h2=> ?_⟩
  ·rcases hdn with h|⟨h1,h2,h3⟩
   ·exact .inl h
   ·refine .inr ⟨h1, ?_,h3⟩
    unfold Iv at h2
    split at h2<;>omega
  ·rcases hdn with h|⟨_,h4,_⟩
   ·exact h.1
   ·have:=NN pg
    rw[hdq h1 h2] at h4
    unfold Iv at h4
    rw[if_pos rfl] at h4
    omega
end
end
namespace Tr
structure Ord (lo:Tx) (h:Option Tx) (l:List (Tx×Tx)):Prop where
 lE:l.Pairwise fun a b=>lt a.1 b.1=true
 low:∀p∈l,le lo p.1
 high:∀p∈l,su p.1 h
 keys:∀p∈l,p.1.length≤96
 vals:∀p∈l,p.2.length≤56
theorem Ord.glue {lo x:Tx} {h:Option Tx} {a b:List (Tx×Tx)} (h1:Ord lo (some x) a) (h2:Ord x h b) (hx:le lo x) (hh:su x h):Ord lo h (a++b):=by
 refine⟨List.pairwise_append.2 ⟨h1.lE,h2.lE,fun p hp q hq=> ?_⟩,fun p hp=> ?_,fun p hp=> ?_,fun p hp=> ?_,fun p hp=> ?_⟩
 ·exact lt_of_lt_of_le (h1.high p hp) (h2.low q hq)
 ·rcases ah.1 hp with hp|hp
  ·exact h1.low p hp
  ·exact le_trans hx (h2.low p hp)
 ·rcases ah.1 hp with hp|hp
  ·exact ug (le_of_lt (h1.high p hp)) hh
  ·exact h2.high p hp
 ·rcases ah.1 hp with hp|hp
  ·exact h1.keys p hp
  ·exact h2.keys p hp
 ·rcases ah.1 hp with hp|hp
  ·exact h1.vals p hp
  ·exact h2.vals p hp
theorem BJ {h:Option Tx}:∀{l:List (Tx×E 0)} {lo:Tx},cV (Ok 0) (cut 0) h l→(∀p,l.head?=some p→le lo p.1∧p.1.length≤96)→Ord lo h (ct 0 l)
 |[],_,_,_=>⟨.nil,fun _ h=>(by cases h),fun _ h=>(by cases h),fun _ h=>(by cases h),fun _ h=>(by cases h)⟩
 |[a],lo,s,h1=>by
  have s:Ok 0 a.1 h a.2:=s
  have hm:∀p∈ct 0 [a],p=a:=fun p hp=>cH.1 hp
  exact⟨List.pairwise_singleton _ _,fun p hp=>by rw[hm p hp];exact (h1 a rfl).1,fun p hp=>by rw[hm p hp];exact s.2,fun p hp=>by rw[hm p hp];exact (h1 a rfl).2,fun p hp=>by rw[hm p hp];exact s.1⟩
 |a::b::r,lo,s,h1=>by
  have ih:=BJ (l:=b::r) (lo:=b.1) s.2.2 fun p hp=>by cases hp;exact⟨le_refl _,s.2.1.2.1⟩
  have hb:su b.1 h:=ih.high b aA
  have ha:Ord lo (some b.1) [(a.1,(a.2:Tx))]:=by
   have hm:∀p∈[(a.1,(a.2:Tx))],p=a:=fun p hp=>cH.1 hp
   exact⟨List.pairwise_singleton _ _,fun p hp=>by rw[hm p hp];exact (h1 a rfl).1,fun p hp=>by rw[hm p hp];exact s.2.1.1,fun p hp=>by rw[hm p hp];exact (h1 a rfl).2,fun p hp=>by rw[hm p hp];exact s.1.1⟩
  exact ha.glue ih (le_trans (h1 a rfl).1 (le_of_lt s.2.1.1)) hb
theorem tI {k:Nat} {h:Option Tx} (ih:∀{lo:Tx} {u:Option Tx} {n:E (k+1)},Ok (k+1) lo u n→Ord lo u (ct k (its n))):∀{l:List (Tx×E (k+1))} {lo:Tx},cV (Ok (k+1)) (cut (k+1)) h l→(∀p,l.head?=some p→le lo p.1)→Ord lo h (ct (k+1) l)
 |[],_,_,_=>by rw[j8];exact⟨.nil,fun _ h=>(by cases h),fun _ h=>(by cases h),fun _ h=>(by cases h),fun _ h=>(by cases h)⟩
 |[a],lo,s,h1=>by
  rw[dK]
  have o:=ih (show Ok (k+1) a.1 h a.2 from s)
  exact⟨o.lE,fun p hp=>le_trans (h1 a rfl) (o.low p hp),o.high,o.keys,o.vals⟩
 |a::b::r,lo,s,h1=>by
  have i:=tI ih (l:=b::r) (lo:=b.1) s.2.2 fun p hp=>by cases hp;exact le_refl _
  have o:=ih s.1
  have o':Ord lo (some b.1) (ct k (its a.2)):=⟨o.lE,fun p hp=>le_trans (h1 a rfl) (o.low p hp),o.high,o.keys,o.vals⟩
  have hb:su b.1 h:=by
   have s2:=s.2.2
   cases r with
   |nil=>exact Ok.lt (k:=k+1) s2
   |cons c r=>
    have:=cV.behind (A:=[b]) s2
    have h3:∀{l:List (Tx×E (k+1))} {x:Tx×E (k+1)},cV (Ok (k+1)) (cut (k+1)) h (x::l)→su x.1 h:=by
     intro l
     induction l with
     |nil=>intro x hx;exact Ok.lt (k:=k+1) hx
     |cons y l ih=>intro x hx;exact ug (le_of_lt hx.2.1.1) (ih hx.2.2)
    exact h3 s2
  rw[show a::b::r=[a]++(b::r) from rfl,bJ,dK]
  exact o'.glue i (le_trans (h1 a rfl) (le_of_lt s.2.1.1)) hb
theorem rR:∀{k:Nat} {lo:Tx} {h:Option Tx} {n:E (k+1)},Ok (k+1) lo h n→Ord lo h (ct k (its n))
 |0,lo,h,n,o=>by
  obtain⟨_,_,h3,h4⟩:=o
  have e:qT 0 lo (its n)=its n:=by unfold qT;rw[if_pos rfl]
  rw[e] at h4
  refine BJ h4 fun p hp=> ?_
  have:=h3 p hp
  rw[if_pos rfl] at this
  exact this
 |k+1,lo,h,n,o=>by
  obtain⟨h1,_,_,h4⟩:=o
  rw[dr] at h4
  have:=tI (fun o=>rR o) (lo:=lo) h4 fun p hp=>by
   cases hi:its n with
   |nil=>exact absurd hi h1
   |cons a l=>rw[hi] at hp;cases hp;exact le_refl _
  rw[jo] at this
  exact this
theorem rS {k:Nat} {lo:Tx} {h:Option Tx} {A B:List (Tx×E (k+1))} {kc key:Tx} {c:E (k+1)} (o:Rw (k+1) lo h (A++(kc,c)::B)) (h1:le kc key) (h2:∀b B',B=b::B'→lt key b.1=true):(∀p∈ct (k+1) A,lt p.1 key=true)∧∀p∈ct (k+1) B,lt key p.1=true:=by
 obtain⟨_,h4⟩:=o
 rw[dr,lz] at h4
 obtain⟨s1,s2,_⟩:=cV.uN h4
 constructor
 ·intro p hp
  cases A with
  |nil=>rw[j8] at hp;cases hp
  |cons a A=>
   have o1:=tI (fun o=>rR o) (lo:=lo) s1 fun p hp=>by cases hp;exact le_refl _
   rw[jo] at o1
   exact lt_of_lt_of_le (o1.high p hp) h1
 ·intro p hp
  cases B with
  |nil=>rw[j8] at hp;cases hp
  |cons b B=>
   have o2:=tI (fun o=>rR o) (lo:=b.1) (cV.tail s2) fun p hp=>by cases hp;exact le_refl _
   exact lt_of_lt_of_le (h2 b B rfl) (o2.low p hp)
end Tr
section
open Go.RowKit Lib
theorem DX {its:List It} (hs:Jg its) (hne:0<its.length) (h0:(its[0]).key=[]) (key:List UInt8):∃a:Nat,sA its key=(a:Int)∧∃ha:a<its.length,Tr.le (its[a]).key key∧∀j (hj:j<its.length),a<j→Tr.lt key (its[j]).key=true:=by
 obtain⟨p,hp⟩:∃p,p=posOf its key:=⟨_,rfl⟩
 have NQ:=uh its key
 rw[←hp] at NQ
 have hbel:∀t (h:t<its.length),t<p→Tr.lt (its[t]).key key=true:=by
  intro t h ht
  have h1:t<(its.takeWhile fun i=>Tr.lt i.key key).length:=by rw[hp] at ht;exact ht
  have h2:=List.all_eq_true.1 (List.all_takeWhile (p:=fun i:It=>Tr.lt i.key key) (l:=its)) _ (bB h1)
  have h3:(its.takeWhile fun i=>Tr.lt i.key key)[t]=its[t]:=List.IsPrefix.getElem (List.takeWhile_prefix _) h1
  rw[h3] at h2
  exact h2
 have hat:∀h:p<its.length,Tr.lt (its[p]).key key=false:=by
  intro h
  have e:its=its.takeWhile (fun i=>Tr.lt i.key key)++its.dropWhile (fun i=>Tr.lt i.key key):=(List.takeWhile_append_dropWhile).symm
  have hd:its.dropWhile (fun i=>Tr.lt i.key key)≠[]:=by
   intro hd
   have:=congrArg List.length e
   rw[hd,bh] at this
   unfold posOf at hp
   omega
  have h1:=List.head_dropWhile_not (p:=fun i:It=>Tr.lt i.key key) (l:=its) hd
  have h2:(its.dropWhile (fun i=>Tr.lt i.key key)).head hd=its[p]:=by
   have h3:its[p]?=some ((its.dropWhile (fun i=>Tr.lt i.key key)).head hd):=by
    conv=>lhs;rw[e]
    rw[gN (by rw[hp];exact af _),hp]
    unfold posOf
    rw[Nat.sub_self,←List.head?_eq_getElem?,List.head?_eq_some_head hd]
   rw[aJ h] at h3
   exact (Option.some.inj h3).symm
  rw[h2] at h1
  simpa using h1
 have Pb:∀i j (hi:i<its.length) (hj:j<its.length),i<j→Tr.lt (its[i]).key (its[j]).key=true:=fun i j hi hj hij=>gE.1 hs i j hi hj hij
 by_cases ht:ec its key=true
 ·have dH:p<its.length∧∀h:p<its.length,(its[p]).key=key:=by
   grind [ec,dw,aJ,List.getElem?_eq_none]
  refine⟨p,by unfold sA;rw[if_pos ht,hp],dH.1,by rw[dH.2 dH.1];exact Tr.le_refl _,fun j hj TH=> ?_⟩
  have:=Pb p j dH.1 hj TH
  rwa [dH.2 dH.1] at this
 ·have hp1:1≤p:=by
   rcases Nat.eq_zero_or_pos p with h|h
   ·exfalso
    have h1:=hat (by omega)
    subst h
    rw[h0] at h1
    have hk:key=[]:=by
     cases key with
     |nil=>rfl
     |cons _ _=>cases h1
    apply ht
    unfold ec
    rw[←hp,aJ hne]
    exact decide_eq_true (by rw[h0,hk])
   ·exact h
  have ur:∀h:p<its.length,(its[p]).key≠key:=by
   grind [ec,aJ]
  refine⟨p-1,by unfold sA;rw[if_neg ht,←hp];omega,by omega,Tr.le_of_lt (hbel (p-1) (by omega) (by omega)),fun j hj TH=> ?_⟩
  have dH:p<its.length:=by omega
  have h1:Tr.lt key (its[p]).key=true:=by
   cases h:Tr.lt key (its[p]).key with
   |true=>rfl
   |false=>exact absurd (Tr.kU _ _ (hat dH) h) (ur dH)
  rcases dw p j with h2|h2
  ·exact Tr.lt_trans h1 (Pb p j dH hj h2)
  ·grind
section
variable {E:Ev} {X0 X X' V w:World} {R0 R R':Nat→Prop} {ps:List (Nat×List UInt8)} {pg:List (Option Wl.Text)} {rt:List Nat} {M M':Nat→Option NV} {K:Nat} {T:Tr.E (K+1)} {key:List UInt8}
structure gq (E:Ev) (X0:World) (R0:Nat→Prop) (ps:List (Nat×List UInt8)) (pg:List (Option Wl.Text)) (rt:List Nat) (key:List UInt8) (K:Nat) (T:Tr.E (K+1)) (lv q:Nat) (pv:Value) (X:World) (R:Nat→Prop) (M:Nat→Option NV) (m:NV) (c:Tr.E (lv+1)) (path:List Nat) (pre post:List (Tr.Tx×Tr.Tx)) (out:List Nat) (rl:List Nat):Prop where
 ts:TS E X0 R0 R ps pg rt M X
 above:ia M pg lv q m.lo m.hi c K T path pre post out
 kI:M q=some m
 lG:jU pg lv m c
 its:m.its=ak lv (Tr.its c)
 own:m.own=true
 was:m.was=Tr.sz lv (Tr.its c)
 st:cK pg (lv+1) c
 ok:Tr.Ok (lv+1) m.lo (iV m.hi) c
 nd:(path++[q]).Nodup
 row:uM X0.heap.size X pv rl
 zH:∀b,pv.ownBlock=some b→R b∧¬MB M b
 QD:∀p∈pre,Tr.lt p.1 key=true
 QE:∀p∈post,Tr.lt key p.1=true
 wO:K≤15
 NR:Tr.le m.lo key
 NS:Tr.su key (iV m.hi)
def E9 (E:Ev) (X0:World) (R0:Nat→Prop) (ps:List (Nat×List UInt8)) (pg:List (Option Wl.Text)) (rt:List Nat) (key:List UInt8) (K:Nat) (T:Tr.E (K+1)) (lv q:Nat) (pv:Value) (X:World):Prop:=
 ∃R M m c path pre post out,gq E X0 R0 ps pg rt key K T lv q pv X R M m c path pre post out (q::path).reverse
def KG (E:Ev) (X0:World) (R0:Nat→Prop) (ps:List (Nat×List UInt8)) (pg:List (Option Wl.Text)) (rt:List Nat) (key:List UInt8) (K:Nat) (T:Tr.E (K+1)) (lv q:Nat) (pv:Value) (X:World):Prop:=
 ∃R M m c path pre post out,gq E X0 R0 ps pg rt key K T lv q pv X R M m c path pre post out path.reverse
theorem Hg {lv q:Nat} {pw:Value} {R:Nat→Prop} {M:Nat→Option NV} {m:NV} {c:Tr.E (lv+1+1)} {path:List Nat} {pre post:List (Tr.Tx×Tr.Tx)} {out:List Nat} (f:gq E X0 R0 ps pg rt key K T (lv+1) q pw X R M m c path pre post out (q::path).reverse):
  Calls Tryz.prog 78 #[ptr q,.string (bs key)] X fun e X'=>∃a:Nat,e=.returned (.int .i64 a)∧(∃v,X'.cell? ⟨q,6,none⟩=some v)∧X'.frozen? ⟨q,6,none⟩=false∧
   Calls Tryz.prog 79 #[ptr E.tb,ptr q,.int .i64 a] (X'.setCell ⟨q,6,none⟩ (.int .i64 a)) fun e gm=>∃q' lp,e=.returned (.tuple #[ptr q',.int .i64 0])∧lp<lv+1∧KG E X0 R0 ps pg rt key K T lp q' pw gm:=by
 have hnd:=f.ts.mem.nd q m f.kI
 have hkeys:=(gY f.ok.2.2).1
 have hlen:m.its.length=(Tr.its c).length:=by rw[f.its];exact aM _
 have hne:0<(Tr.its c).length:=ej.2 f.ok.1
 have BK:Jg m.its:=uR (by rw[f.its,c9];exact hkeys)
 have QF:∀j (h:j<m.its.length),(m.its[j]).key=((Tr.its c)[j]'(by omega)).1:=fun j h=>by
  have e:m.its[j]?=some ⟨((Tr.its c)[j]'(by omega)).1,dS (lv+1) ((Tr.its c)[j]'(by omega)).2,none⟩:=by
   rw[f.its]
   unfold ak
   rw[cJ,aJ (by omega)]
   rfl
  rw[aJ h] at e
  rw[Option.some.inj e]
 have oh:(m.its[0]'(by omega)).key=[]:=by
  rw[QF 0 (by omega)]
  have:=f.ok.2.2.1 ((Tr.its c)[0]) (by rw[List.head?_eq_getElem?,aJ hne])
  rwa [if_neg (cT lv)] at this
 obtain⟨a,rK,ha,hle,hgt⟩:=DX BK (by omega) oh key
 have hat:a<(Tr.its c).length:=by omega
 refine (um hnd BK key).mono ?_
 rintro e X' ⟨rfl,hb⟩
 have hts:=f.ts.still hb (fun _ h=>h) (fun _ h=>.inl h)
 have nr:=hnd.still hb
 rw[rK]
 refine⟨a,rfl,⟨_,nr.c6⟩,nr.blk.frozen 6, ?_⟩
 obtain⟨n1,hn1⟩:∃n1:NV,n1={m with at_:=(a:Int)}:=⟨_,rfl⟩
 have bF:aE (fun b=>b=q) X' (X'.setCell ⟨q,6,none⟩ (.int .i64 a)):=(aE.refl (fun b=>b=q) X').setCell _ _ fun _=>rfl
 have Ut:∀b,MB (upd M q n1) b→MB M b:=by
  rintro b ⟨r,y,hr,hk⟩
  rcases aI hr with⟨rfl,rfl⟩|⟨_,hr⟩
  ·exact⟨_,m,f.kI,by rw[hn1] at hk;exact hk⟩
  ·exact⟨r,y,hr,hk⟩
 have oy:TS E X0 R0 R ps pg rt (upd M q n1) (X'.setCell ⟨q,6,none⟩ (.int .i64 a)):=hts.own bF (fun b _ e=>by rw[e];exact hts.jR q ⟨q,m,f.kI,.inl rfl⟩) (hts.mem.cell f.kI n1 6 _ (by rw[hn1]) (by rw[hn1]) (by rw[hn1]) (by rw[hn1]) (by rw[hn1]) (by rw[hn1];rfl)) (fun b hb=>hts.jR b (Ut b hb)) (fun _ h=>h) (fun _ h=>.inl h)
 obtain⟨A,kc,c',B,hc,Xe⟩:∃A kc c' B,Tr.its c=A++(kc,c')::B∧A.length=a:=⟨(Tr.its c).take a,((Tr.its c)[a]).1,((Tr.its c)[a]).2,(Tr.its c).drop (a+1),by rw[show (((Tr.its c)[a]).1,((Tr.its c)[a]).2)=(Tr.its c)[a] from rfl,kJ,cL],by rw[aN];omega⟩
 subst Xe
 have Uu:(Tr.its c)[A.length]=(kc,c'):=by
  grind
 have BL:cK pg (lv+1) c':=f.st.2.2 (kc,c') (by rw[hc];exact ah.2 (.inr aA))
 have jI:∀x,x∈A∨x∈B→cK pg (lv+1) x.2:=fun x hx=>f.st.2.2 x (by
  rw[hc]
  rcases hx with hx|hx
  ·grind
  ·exact ah.2 (.inr (aF _ hx)))
 obtain⟨page,cy,ot,-⟩:=BL.1
 have QG:n1.its=ak (lv+1) A++⟨kc,dS (lv+1) c',none⟩::ak (lv+1) B:=by
  rw[hn1]
  show m.its=_
  rw[f.its,hc,dh]
  rfl
 have hAI:(ak (lv+1) A).length=A.length:=aM _
 have hjn:A.length<n1.its.length:=by rw[QG,aq,aW,hAI];omega
 have Pc:n1.its[A.length]=⟨kc,dS (lv+1) c',none⟩:=by
  grind
 have YB:lv≤15:=by
  have:=f.above.level
  have:=f.wO
  omega
 have Ka:n1.its.map It.key=(Tr.its c).map (·.1):=by rw[hn1];show m.its.map It.key=_;rw[f.its,c9]
 have Hh:n1.lo=m.lo∧n1.hi=m.hi:=by rw[hn1];exact⟨rfl,rfl⟩
 have iX:Tr.Ok (lv+1) (eF n1 A.length) (iV (dW n1 A.length)) c':=lB (n:=n1) (t:=c) (key:=kc) (by rw[Hh.1,Hh.2];exact f.ok.near) hc Ka
 have lC:=gL YB BL cy iX
 have hval:n1.its[A.length].val=pv page:=by
  rw[Pc]
  show pv ((Tr.hd c').page.getD 0)=_
  rw[cy];rfl
 refine (rJ oy (bz _ _ _) A.length hjn (by rw[Pc]) page ot hval lv (by rw[hn1];exact f.lG.level) (ak lv (Tr.its c')) lC).mono ?_
 rintro e gm ⟨q',rg,cap,R',rfl,vD,Ni,Nj,jG,hR,Cq⟩
 have ow:n1.its.set A.length {(n1.its.getD A.length ⟨[],[],none⟩) with node:=some q'}=ak (lv+1) A++⟨kc,dS (lv+1) c',some q'⟩::ak (lv+1) B:=by
  grind
 rw[ow] at vD
 dsimp only at vD
 have Su:(X'.setCell ⟨q,6,none⟩ (.int .i64 A.length)).heap.size=X'.heap.size:=World.size_setCell _ _ _
 have EZ:=(oy.mem.lt (p:=q) (n:=n1) (bz _ _ _)).1
 have hqq:q'≠q:=by omega
 obtain⟨n2,hn2⟩:∃n2:NV,n2={n1 with its:=ak (lv+1) A++⟨kc,dS (lv+1) c',some q'⟩::ak (lv+1) B}:=⟨_,rfl⟩
 obtain⟨m',hm'⟩:∃m':NV,m'=NV.got lv (ak lv (Tr.its c')) rg cap page (eF n1 A.length) (dW n1 A.length):=⟨_,rfl⟩
 rw[←hn2,←hm'] at vD
 have Uv:n2.its.map It.key=n1.its.map It.key:=by
  grind
 have hla:eF n2 A.length=eF n1 A.length:=xY Uv (by rw[hn2]) _
 have hha:dW n2 A.length=dW n1 A.length:=xZ Uv (by rw[hn2]) _
 have QH:∀r∈path,upd (upd (upd M q n1) q' m') q n2 r=M r:=fun r hr=>by
  have h1:r≠q:=fun e=>(aL.1 f.nd).2.2 r hr q aA e
  have h2:r≠q':=fun e=>by
   obtain⟨y,hy⟩:=f.above.dom r hr
   have:=(f.ts.mem.lt hy).1
   have:=hb.size
   omega
  rw[aO h1,aO h2,aO h1]
 have hcm:c=Tr.mk (Tr.hd c) (A++(kc,c')::B):=by rw[←hc];exact (Tr.Py c).symm
 have hab:=f.above.frame QH
 have wS:ia (upd (upd (upd M q n1) q' m') q n2) pg lv q' (eF n2 A.length) (dW n2 A.length) c' K T (q::path) (pre++Tr.ct (lv+1) A) (Tr.ct (lv+1) B++post) ((Tr.hd c).page.toList++(Tr.dI (lv+1) A++Tr.dI (lv+1) B)++out):=by
  refine .up (n:=n2) (h:=Tr.hd c) (bz _ _ _) (by rw[hn2]) jI (by rw[hn2,hn1];exact f.own) ?_ (by rw[hn2,hn1]) ?_ ?_ f.st.2.1 ?_
  ·rw[←hcm,hn2,hn1]
   exact⟨f.lG.level,f.lG.page,f.lG.fresh,f.lG.near,f.lG.held⟩
  ·rw[hn2,hn1,←hc];exact f.was
  ·rw[←hc];exact f.ok.2.1
  ·have e1:n2.lo=m.lo:=by rw[hn2,hn1]
   have e2:n2.hi=m.hi:=by rw[hn2,hn1]
   rw[←hcm,e1,e2]
   exact hab
 have Uw:cj (ak lv (Tr.its c'))=Tr.sz lv (Tr.its c'):=gX lv _
 have Pd:=x6 (n:=n1) (A:=A) (B:=B) (key:=kc) (c:=c') (by rw[Hh.1,Hh.2,←hc];exact f.ok.2.2) (by rw[←hc];exact Ka)
 have Ux:Tr.le kc key:=by
  have:=hle
  rw[QF A.length ha,Uu] at this
  exact this
 have hkb:∀b B',B=b::B'→Tr.lt key b.1=true:=fun b B' e=>by
  have hj:A.length+1<m.its.length:=by rw[hlen,hc,e];simp
  have:=hgt (A.length+1) hj (by omega)
  rw[QF _ hj] at this
  have e2:(Tr.its c)[A.length+1]'(by omega)=b:=by
   have e3:(Tr.its c)[A.length+1]?=some b:=by rw[hc,e,gN (by omega),show A.length+1-A.length=1 by omega];rfl
   rw[aJ (by omega)] at e3
   exact Option.some.inj e3
  rwa [e2] at this
 have jK:=Tr.rS (key:=key) (A:=A) (B:=B) (kc:=kc) (c:=c') (by rw[←hc];exact f.ok.2.2) Ux hkb
 have RK:aE (fun b=>MB M b) X gm:=((aE.aH hb (fun b=>MB M b)).trans bF (fun b _ e=>by rw[e];exact⟨q,m,f.kI,.inl rfl⟩)).trans jG (fun b _ e=>⟨q,m,f.kI,.inr (by rw[e,hn1])⟩)
 have Nt:∀b,MB (upd (upd (upd M q n1) q' m') q n2) b→MB M b∨X.heap.size≤b:=by
  have hs:=hb.size
  rintro b ⟨r,y,hr,hk⟩
  rcases aI hr with⟨rfl,rfl⟩|⟨_,hr⟩
  ·exact .inl ⟨_,m,f.kI,by rw[hn2,hn1] at hk;exact hk⟩
  ·rcases aI hr with⟨rfl,rfl⟩|⟨_,hr⟩
   ·right
    rcases hk with rfl|hk
    ·omega
    ·rw[hm'] at hk
     have hk:b=rg:=hk
     omega
   ·exact .inl (Ut b ⟨r,y,hr,hk⟩)
 refine⟨q',lv,rfl,jF lv,R',_,m',c',q::path,pre++Tr.ct (lv+1) A,Tr.ct (lv+1) B++post,(Tr.hd c).page.toList++(Tr.dI (lv+1) A++Tr.dI (lv+1) B)++out,⟨vD, ?_,by rw[aO hqq,bz], ?_,by rw[hm'];rfl,by rw[hm'];rfl,by rw[hm'];show ((cj (ak lv (Tr.its c')):Nat):Int)=_;rw[Uw],BL,by rw[hm'];exact iX, ?_, ?_,fun b aP=> ?_, ?_, ?_,f.wO, ?_, ?_⟩⟩
 ·have:m'.lo=eF n2 A.length∧m'.hi=dW n2 A.length:=by rw[hm',hla,hha];exact⟨rfl,rfl⟩
  rw[this.1,this.2]
  exact wS
 ·rw[hm'];exact oY BL cy iX
 ·refine aL.2 ⟨?_,by simp,fun x hx y hy e=> ?_⟩
  ·have:=f.nd
   exact cD.2 ⟨fun h=>(aL.1 this).2.2 q h q aA rfl,(aL.1 this).1⟩
  ·rw[cH.1 hy] at e
   rcases aQ.1 hx with hx|hx
   ·exact hqq (by rw[←e,hx])
   ·obtain⟨z,hz⟩:=f.above.dom x hx
    have:=(f.ts.mem.lt hz).1
    have:=hb.size
    omega
 ·exact Own.but f.row RK fun b aP hm=>(f.zH b aP).2 hm
 ·refine⟨hR b (f.zH b aP).1,fun hm=> ?_⟩
  rcases Nt b hm with hm|hm
  ·exact (f.zH b aP).2 hm
  ·have:=(Own.block f.row b aP).2;omega
 ·intro p hp
  rcases ah.1 hp with hp|hp
  ·exact f.QD p hp
  ·exact jK.1 p hp
 ·intro p hp
  rcases ah.1 hp with hp|hp
  ·exact jK.2 p hp
  ·exact f.QE p hp
 ·rw[hm']
  show Tr.le (eF n1 A.length) key
  rw[Pd.1]
  split
  ·rw[Hh.1];exact f.NR
  ·exact Ux
 ·rw[hm']
  show Tr.su key (iV (dW n1 A.length))
  rw[Pd.2]
  cases hB:B with
  |nil=>show Tr.su key (iV n1.hi);rw[Hh.2];exact f.NS
  |cons b B'=>exact hkb b B' hB
theorem BM {lv q:Nat} {pw:Value} (h:KG E X0 R0 ps pg rt key K T lv q pw X):∃pl,uM 0 X pw pl∧pl.length≤100∧∀W NT W',W=X.alloc (.cells #[.pointer (some ⟨q,0,none⟩)] 118)→uM 0 W' NT (pl++[q])→W.grownBy W' pw.ownBlock→(NT.ownBlock=pw.ownBlock∨∀k,NT.ownBlock=some k→W.heap.size≤k)→E9 E X0 R0 ps pg rt key K T lv q NT W':=by
 obtain⟨R,M,m,c,path,pre,post,out,f⟩:=h
 have oS:=f.above.level
 have hl:=f.wO
 refine⟨path.reverse,f.row.mono (aC _),by rw[List.length_reverse];omega,fun W NT W' hW ho hg hw=> ?_⟩
 have bF:Below X.heap.size X W:=by rw[hW];exact (Below.refl _ X).alloc (af _) _
 have oy:=f.ts.still bF (R':=R) (fun _ h=>h) (fun _ h=>.inl h)
 have aP:aE (fun b=>pw.ownBlock=some b) W W':=(aE.refl _ W).grown hg fun k e _=>e
 have hx0:∀b,pw.ownBlock=some b→X0.heap.size≤b:=fun b hb=>(Own.block f.row b hb).1
 have hmem:=oy.mem.keep aP fun b hb hs=>(f.zH b hs).2 hb
 have hlt:=Own.block ho
 have hsz:=bF.size
 have hnew:∀b,NT.ownBlock=some b→R b∨W.heap.size≤b:=fun b hb=>by
  rcases hw with e|e
  ·rw[e] at hb;exact .inl (f.zH b hb).1
  ·exact .inr (e b hb)
 have vD:TS E X0 R0 (fun b=>R b∨NT.ownBlock=some b) ps pg rt M W':=oy.own aP (fun b _ hb=>⟨(f.zH b hb).1,hx0 b hb⟩) hmem (fun b hb=>⟨.inl (oy.jR b hb).1,(oy.jR b hb).2⟩) (fun _ h=>.inl h) (fun b hb=>by
  rcases hb with hb|hb
  ·exact .inl hb
  ·exact (hnew b hb).imp_right fun h=>⟨h,(hlt b hb).2⟩)
 have hrow:uM X0.heap.size W' NT (q::path).reverse:=by
  rw[List.reverse_cons]
  refine⟨ho.1, ?_⟩
  rcases ho.2 with h|⟨g,cap,cur,h1,_,h3⟩
  ·exact .inl h
  ·refine .inr ⟨g,cap,cur,h1, ?_,h3⟩
   have hg':NT.ownBlock=some g:=by rw[h1];rfl
   rcases hw with e|e
   ·grind
   ·have:=e g hg'
    have:=f.ts.but.size
    omega
 refine⟨_,M,m,c,path,pre,post,out,⟨vD,f.above,f.kI,f.lG,f.its,f.own,f.was,f.st,f.ok,f.nd,hrow,fun b hb=>⟨.inr hb,fun hm=> ?_⟩,f.QD,f.QE,f.wO,f.NR,f.NS⟩⟩
 rcases hw with e|e
 ·rw[e] at hb;exact (f.zH b hb).2 hm
 ·have:=e b hb
  have:=f.ts.mem.lg hm
  omega
theorem vG (h:TS E X0 R0 R ps pg rt (fun _=>none) w) (hk:E.place<16) {l:List (Tr.Tx×Tr.Tx)} {pages:List Nat} (hm:iz pg (rt.getD E.place 0) l pages) (key:List UInt8):
  Calls Tryz.prog 51 #[ptr E.tb,.string (bs key)] w fun e w'=>(e=.returned (.tuple #[.slice none 0 0,.int .i64 0])∧rt.getD E.place 0=0∧l=[]∧pages=[]∧Below w.heap.size w w')∨
   ∃(K:Nat) (T:Tr.E (K+1)) (q:Nat) (pw:Value),e=.returned (.tuple #[pw,.int .i64 0])∧l=Tr.ct K (Tr.its T)∧pages=Tr.b8 (K+1) T∧pages.Nodup∧E9 E X0 R0 ps pg rt key K T 0 q pw w':=by
 rcases hm with⟨h0,h1,h2⟩|⟨K,T,page,h1,h2,h3,h4,h5,h6,h7,h8⟩
 ·refine (xN (G0:=fun w'=>Below w.heap.size w w') (P:=fun _ _ _ _=>False) (Q:=fun _ _ _ _=>False) ⟨fun _ _ _ _ h=>h.elim,fun _ _ _ _ h=>h.elim⟩ ((ni h hk h0).mono fun e X hh=>.inl hh)).mono ?_
  rintro e w' (⟨rfl,hb⟩|⟨q,pw,_,hf⟩)
  ·grind
  ·exact hf.elim
 ·have lC:=gL (lo:=[]) (hi:=[]) h3 h4 h2 h5
  have dH:page<pg.length:=cE (by rw[lC.page];rfl)
  have hF:ZW E.tb (bs key) (E9 E X0 R0 ps pg rt key K T) (KG E X0 R0 ps pg rt key K T):=by
   refine⟨fun lv q pw X hp=> ?_,fun lv q pw X hq=>BM hq⟩
   obtain⟨R',M,m,c,path,pre,post,out,f⟩:=hp
   have oS:=f.above.level
   have hl:=f.wO
   have c0:=(f.ts.mem.nd q m f.kI).c0
   rw[f.lG.level] at c0
   refine⟨c0,by omega,fun hpos=> ?_⟩
   cases lv with
   |zero=>cases hpos
   |succ lv=>exact Hg f
  refine (xN (G0:=fun _=>False) hF ((nj h hk page K (ak K (Tr.its T)) h1 lC dH).mono ?_)).mono ?_
  ·rintro e X ⟨p,rg,cap,R',rfl,hts,hb,hp,wv,hR,Cq⟩
   right
   refine⟨p,K,rfl,fun W hW=> ?_⟩
   dsimp only at hts
   obtain⟨m,hm⟩:∃m,m=NV.got K (ak K (Tr.its T)) rg cap page [] []:=⟨_,rfl⟩
   rw[←hm] at hts
   have bF:Below X.heap.size X W:=by rw[hW];exact (Below.refl _ X).alloc (af _) _
   have hsz:W.heap.size=X.heap.size+1:=by rw[hW,bk]
   have oy:TS E X0 R0 (fun b=>R' b∨b=X.heap.size) ps pg rt (upd (fun _=>none) p m) W:=hts.still bF (fun _ h=>.inl h) (fun b hb=>hb.imp_right fun e=>⟨by omega,by omega⟩)
   have hbk:aS W X.heap.size 118 [.pointer (some ⟨p,0,none⟩)]:=by rw[hW];exact aS.new X _ _
   have hap:ia (upd (fun _=>none) p m) pg K p m.lo m.hi T K T [] [] [] []:=by
    have e1:m.lo=[]:=by rw[hm];rfl
    have e2:m.hi=[]:=by rw[hm];rfl
    rw[e1,e2]
    exact .top
   refine⟨_,_,m,T,[],[],[],[],⟨oy,hap,bz _ _ _,by rw[hm];exact oY h4 h2 h5,by rw[hm];rfl,by rw[hm];rfl,by rw[hm];show ((cj (ak K (Tr.its T)):Nat):Int)=_;rw[gX],h4,by rw[hm];exact h5,by simp, ?_,fun b hb=> ?_,fun _ h=>(by cases h),fun _ h=>(by cases h),h3,by rw[hm];exact Tr.nil_le _,by rw[hm];trivial⟩⟩
   ·refine⟨rfl,.inr ⟨X.heap.size,1,#[.pointer (some ⟨p,0,none⟩)],rfl,hts.but.size,hbk,af _,by decide,rfl, ?_⟩⟩
    rfl
   ·have e:X.heap.size=b:=Option.some.inj hb
    subst e
    exact⟨.inr rfl,fun hm2=>by have:=hts.mem.lg hm2;omega⟩
  ·rintro e w' (⟨_,hf⟩|⟨q,pw,rfl,hf⟩)
   ·exact hf.elim
   ·exact .inr ⟨K,T,q,pw,rfl,h6,h7,h8,hf⟩
end
def fN {σ:Type} {k:Nat} (v:Tr.E (k+1)→σ→σ×Bool) (hi:Tr.Tx):List (Tr.Tx×Tr.E (k+1))→σ→σ×Bool
 |[],s=>(s,true)
 |p::l,s=>if (!hi.isEmpty&& !Tr.lt p.1 hi)=true then (s,true) else if (v p.2 s).2=true then fN v hi l (v p.2 s).1 else ((v p.2 s).1,false)
def visit {σ:Type} (f:(k:Nat)→Tr.E (k+1)→σ→σ×Bool) (lo hi:Tr.Tx):(k:Nat)→Tr.E (k+1)→σ→σ×Bool
 |0,c,s=>f 0 c s
 |k+1,c,s=>if (f (k+1) c s).2=true then fN (visit f lo hi k) hi ((Tr.its c).drop (sA (ak (k+1) (Tr.its c)) lo).toNat) (f (k+1) c s).1 else ((f (k+1) c s).1,false)
theorem BN {σ:Type} {f:(k:Nat)→Tr.E (k+1)→σ→σ×Bool} {lo hi:Tr.Tx} {k:Nat} {c:Tr.E (k+1)} {s:σ} (h:(f k c s).2=false):visit f lo hi k c s=((f k c s).1,false):=by
 cases k with
 |zero=>rw[←h];rfl
 |succ k=>unfold visit;rw[if_neg (by rw[h];decide)]
def tw:(k:Nat)→Tr.E (k+1)→Nat
 |0,c=>1+(Tr.its c).length
 |k+1,c=>1+(Tr.its c).length+((Tr.its c).map fun p=>tw k p.2).sum
def KH {k:Nat} (l:List (Tr.Tx×Tr.E (k+1))):Nat:=(l.map fun p=>tw k p.2).sum
theorem qG {k:Nat} (p:Tr.Tx×Tr.E (k+1)) (l:List (Tr.Tx×Tr.E (k+1))):KH (p::l)=tw k p.2+KH l:=by unfold KH;rw[bH,jJ]
theorem vH {k:Nat}:∀(l:List (Tr.Tx×Tr.E (k+1))) (a:Nat),KH (l.drop a)≤KH l
 |[],a=>by rw[List.drop_nil];exact af _
 |p::l,0=>af _
 |p::l,a+1=>by
  rw[List.drop_succ_cons,qG]
  have:=vH l a
  omega
theorem yg {σ:Type} {k:Nat} {v:Tr.E (k+1)→σ→σ×Bool} {sz:σ→Nat} (h:∀c s,sz (v c s).1≤sz s+tw k c) (hi:Tr.Tx):∀(l:List (Tr.Tx×Tr.E (k+1))) (s:σ),sz (fN v hi l s).1≤sz s+KH l
 |[],s=>Nat.le_add_right _ _
 |p::l,s=>by
  unfold fN
  rw[qG]
  have h1:=h p.2 s
  have h2:=yg h hi l (v p.2 s).1
  split
  ·grind
  ·grind
theorem BO {σ:Type} {f:(k:Nat)→Tr.E (k+1)→σ→σ×Bool} {sz:σ→Nat} (h:∀k c s,sz (f k c s).1≤sz s+(1+(Tr.its c).length)) (lo hi:Tr.Tx):∀(k:Nat) (c:Tr.E (k+1)) (s:σ),sz (visit f lo hi k c s).1≤sz s+tw k c
 |0,c,s=>h 0 c s
 |k+1,c,s=>by
  have h1:=h (k+1) c s
  have h2:tw (k+1) c=1+(Tr.its c).length+KH (Tr.its c):=rfl
  unfold visit
  split
  ·have h3:=yg (BO h lo hi k) hi ((Tr.its c).drop (sA (ak (k+1) (Tr.its c)) lo).toNat) (f (k+1) c s).1
   have h4:=vH (Tr.its c) (sA (ak (k+1) (Tr.its c)) lo).toNat
   omega
  ·grind
structure Uy (pg:List (Option Wl.Text)) (k:Nat) (m:NV) (c:Tr.E (k+1)):Prop where
 level:m.level=k
 its:m.its=ak k (Tr.its c)
 page:m.page=xP (Tr.hd c).page
 st:cK pg (k+1) c
 ok:Tr.Ok (k+1) m.lo (iV m.hi) c
section
variable {E:Ev} {X0 X X' X1 X2 Y V w:World} {R0 R R' R1 R2:Nat→Prop} {ps:List (Nat×List UInt8)} {pg:List (Option Wl.Text)} {rt:List Nat} {M M' M1 M2:Nat→Option NV} {σ:Type} {s s1 s2:σ} {J:σ→(Nat→Prop)→(Nat→Option NV)→World→Prop} {f:(k:Nat)→Tr.E (k+1)→σ→σ×Bool} {fn:Nat} {caps:Array Value} {sz:σ→Nat} {lo hi:Tr.Tx}
structure Acc (E:Ev) (X0:World) (R0:Nat→Prop) (ps:List (Nat×List UInt8)) (pg:List (Option Wl.Text)) (rt:List Nat) (fn:Nat) (caps:Array Value) (f:(k:Nat)→Tr.E (k+1)→σ→σ×Bool) (sz:σ→Nat) (J:σ→(Nat→Prop)→(Nat→Option NV)→World→Prop):Prop where
 incr:∀k c s,sz (f k c s).1≤sz s+(1+(Tr.its c).length)
 enter:∀(W:World) (args:Array Value),Sem.run Tryz.prog (callFunc fn args) W=.ok (.enter fn args) W
 ts:∀s R M X,J s R M X→TS E X0 R0 R ps pg rt M X
 grow:∀s R M X R' M' X',J s R M X→TS E X0 R0 R' ps pg rt M' X'→Below X.heap.size X X'→(∀b,MB M' b→MB M b∨X.heap.size≤b)→(∀b,R b→R' b)→J s R' M' X'
 see:∀s R M X q k m c,J s R M X→M q=some m→Uy pg k m c→sz s≤100000000→Calls Tryz.prog fn (#[ptr q]++caps) X fun e X'=>e=.returned (.bool (f k c s).2)∧∃R',J (f k c s).1 R' M X'∧aE (fun b=>R b) X X'∧(∀b,R b→R' b)∧∀b,R' b→R b∨X.heap.size≤b
def z7 (J:σ→(Nat→Prop)→(Nat→Option NV)→World→Prop) (R:Nat→Prop) (M:Nat→Option NV) (X:World) (s:σ) (X':World):Prop:=
 ∃R' M',J s R' M' X'∧aE (fun b=>R b) X X'∧(∀b,R b→R' b)∧(∀b,R' b→R b∨X.heap.size≤b)∧∀r y,M r=some y→M' r=some y
theorem z7.of (hj:J s R M X):z7 J R M X s X:=⟨R,M,hj,aE.refl _ _,fun _ h=>h,fun _ h=>.inl h,fun _ _ h=>h⟩
theorem z7.back (h:z7 J R M X1 s X2) (hb:Below X.heap.size X X1):z7 J R M X s X2:=by
 obtain⟨R',M',hj,jG,h1,h2,h3⟩:=h
 exact⟨R',M',hj,(aE.aH hb (fun b=>R b)).trans jG (fun _ _ h=>h),h1,fun b aP=>(h2 b aP).imp_right fun h=>aG hb.size h,h3⟩
theorem Acc.below (A:Acc E X0 R0 ps pg rt fn caps f sz J) (h:z7 J R M X s X1) (hb:Below X1.heap.size X1 X2):z7 J R M X s X2:=by
 obtain⟨R',M',hj,jG,h1,h2,h3⟩:=h
 exact⟨R',M',A.grow _ _ _ _ _ _ _ hj ((A.ts _ _ _ _ hj).still hb (fun _ h=>h) (fun _ h=>.inl h)) hb (fun _ h=>.inl h) (fun _ h=>h),jG.trans (aE.aH hb (fun _=>False)) (fun _ _ f=>f.elim),h1,h2,h3⟩
theorem BP {k:Nat} {m:NV} {c:Tr.E (k+1)} (h:Uy pg k m c):Jg m.its∧m.its.length=(Tr.its c).length∧∀j (hj:j<m.its.length) (hj':j<(Tr.its c).length),m.its[j]=⟨((Tr.its c)[j]).1,dS k ((Tr.its c)[j]).2,none⟩:=by
 refine⟨uR (by rw[h.its,c9];exact (gY h.ok.2.2).1),by rw[h.its];exact aM _,fun j hj hj'=> ?_⟩
 have e:m.its[j]?=some ⟨((Tr.its c)[j]).1,dS k ((Tr.its c)[j]).2,none⟩:=by
  rw[h.its]
  unfold ak
  rw[cJ,aJ hj']
  rfl
 rw[aJ hj] at e
 exact Option.some.inj e
theorem Hi {k q:Nat} {m:NV} {c:Tr.E (k+1+1)} (hts:TS E X0 R0 R ps pg rt M X) (hm:M q=some m) (h:Uy pg (k+1) m c) (hk:k+1≤15) (a:Nat) (ha:a<(Tr.its c).length):
  Calls Tryz.prog 123 #[ptr E.tb,ptr q,.int .i64 a] X fun e X'=>∃q' m' R',e=.returned (.tuple #[ptr q',.int .i64 0])∧TS E X0 R0 R' ps pg rt (upd M q' m') X'∧Below X.heap.size X X'∧X.heap.size≤q'∧X.heap.size≤m'.rg∧Uy pg k m' ((Tr.its c)[a]).2∧(∀b,R b→R' b)∧∀b,R' b→R b∨X.heap.size≤b:=by
 obtain⟨hs,hlen,jf⟩:=BP h
 have MZ:a<m.its.length:=by omega
 have BL:cK pg (k+1) ((Tr.its c)[a]).2:=h.st.2.2 _ (bB ha)
 obtain⟨page,cy,ot,-⟩:=BL.1
 have xj:Tr.Ok (k+1) (eF m a) (iV (dW m a)) ((Tr.its c)[a]).2:=by
  have hc:Tr.its c=(Tr.its c).take a++(((Tr.its c)[a]).1,((Tr.its c)[a]).2)::(Tr.its c).drop (a+1):=by
   grind [kJ,cL]
  have:=lB (n:=m) (t:=c) h.ok.near hc (by rw[h.its,c9])
  rwa [aN,b_ (Nat.le_of_lt ha)] at this
 have lC:=gL (by omega) BL cy xj
 refine (nh hts hm a MZ page ot ?_ k h.level _ lC).mono ?_
 ·rw[jf a MZ ha]
  show pv ((Tr.hd ((Tr.its c)[a]).2).page.getD 0)=_
  rw[cy];rfl
 ·rintro e X' ⟨p,rg,cap,R',rfl,QI,hb,hp,wv,h1,h2⟩
  exact⟨p,_,R',rfl,QI,hb,hp,wv,⟨rfl,rfl,by rw[cy];rfl,BL,xj⟩,h1,h2⟩
theorem KI (A:Acc E X0 R0 ps pg rt fn caps f sz J) (lo hi:Tr.Tx):∀(k:Nat) (c:Tr.E (k+1)) (m:NV) (q:Nat) (s:σ) (R:Nat→Prop) (M:Nat→Option NV) (X:World),k≤15→J s R M X→M q=some m→Uy pg k m c→sz s+tw k c≤100000000→
  Calls Tryz.prog 143 #[ptr E.tb,ptr q,.agg #[.string (bs lo),.string (bs hi)],.func (.func fn) #[] caps] X fun e X'=>e=.returned (.tuple #[.bool (visit f lo hi k c s).2,.int .i64 0])∧z7 J R M X (visit f lo hi k c s).1 X':=by
 intro k
 induction k with
 |zero=>
  intro c m q s R M X hk hj hm hn hB
  refine (xO (lv:=0) (G:=fun b X'=>b=(visit f lo hi 0 c s).2∧z7 J R M X (visit f lo hi 0 c s).1 X') A.enter hk ?_).mono ?_
  ·intro W hW
   have hbW:Below X.heap.size X W:=by rw[hW];exact (Below.refl _ X).alloc (af _) _
   have hts:=A.ts _ _ _ _ hj
   have Uz:=A.grow _ _ _ _ R M W hj (hts.still hbW (fun _ h=>h) (fun _ h=>.inl h)) hbW (fun _ h=>.inl h) (fun _ h=>h)
   have QJ:aS W X.heap.size 125 [.string (bs lo),.string (bs hi)]:=by rw[hW];exact aS.new X _ _
   refine (A.see _ _ _ _ q 0 m c Uz hm hn (by omega)).mono ?_
   rintro e X1 ⟨rfl,R1,QK,bF,h1,h2⟩
   have KJ:z7 J R M X (visit f lo hi 0 c s).1 X1:=⟨R1,M,QK,(aE.aH hbW (fun b=>R b)).trans bF (fun _ _ h=>h),h1,fun b hb=>(h2 b hb).imp_right fun h=>aG hbW.size h,fun _ _ h=>h⟩
   have hq:=((A.ts _ _ _ _ QK).mem.nd q m hm).c0
   rw[hn.level] at hq
   refine⟨_,rfl,fun hf=>⟨hf.symm,KJ⟩,fun ht=>⟨hq,(QJ.but bF fun h=>Nat.lt_irrefl _ (hts.Gg _ h)).cell (j:=0) rfl,fun _=>⟨ht.symm,KJ⟩,fun h=>absurd h (Nat.lt_irrefl 0)⟩⟩
  ·rintro e w' ⟨b,rfl,rfl,h⟩
   exact⟨rfl,h⟩
 |succ k ih=>
  intro c m q s R M X hk hj hm hn hB
  obtain⟨hs,hlen,jf⟩:=BP hn
  refine (xO (lv:=k+1) (G:=fun b X'=>b=(visit f lo hi (k+1) c s).2∧z7 J R M X (visit f lo hi (k+1) c s).1 X') A.enter hk ?_).mono ?_
  ·intro W hW
   have hbW:Below X.heap.size X W:=by rw[hW];exact (Below.refl _ X).alloc (af _) _
   have hts:=A.ts _ _ _ _ hj
   have Uz:=A.grow _ _ _ _ R M W hj (hts.still hbW (fun _ h=>h) (fun _ h=>.inl h)) hbW (fun _ h=>.inl h) (fun _ h=>h)
   have QJ:aS W X.heap.size 125 [.string (bs lo),.string (bs hi)]:=by rw[hW];exact aS.new X _ _
   have hnR:¬R X.heap.size:=fun h=>Nat.lt_irrefl _ (hts.Gg _ h)
   refine (A.see _ _ _ _ q (k+1) m c Uz hm hn (by omega)).mono ?_
   rintro e X1 ⟨rfl,R1,QK,bF,h1,h2⟩
   have KJ:z7 J R M W (f (k+1) c s).1 X1:=⟨R1,M,QK,bF,h1,h2,fun _ _ h=>h⟩
   have hx1:=QJ.but bF hnR
   have mo:=(A.ts _ _ _ _ QK).mem.nd q m hm
   have hq:=mo.c0
   rw[hn.level] at hq
   refine⟨_,rfl,fun hf=> ?_,fun ht=>⟨hq,hx1.cell (j:=0) rfl,fun h=>absurd h (cT k),fun _=> ?_⟩⟩
   ·rw[BN hf];exact⟨rfl,KJ.back hbW⟩
   ·have hne:0<(Tr.its c).length:=ej.2 hn.ok.1
    have oh:(m.its[0]'(by omega)).key=[]:=by
     rw[jf 0 (by omega) hne]
     have:=hn.ok.2.2.1 ((Tr.its c)[0]) (by rw[List.head?_eq_getElem?,aJ hne])
     rwa [if_neg (cT k)] at this
    obtain⟨a,rK,ha,-,-⟩:=DX hs (by omega) oh lo
    have QL:visit f lo hi (k+1) c s=fN (visit f lo hi k) hi ((Tr.its c).drop a) (f (k+1) c s).1:=by
     conv=>lhs;unfold visit
     rw[if_pos ht,←hn.its,rK]
     rfl
    refine (um mo hs lo).mono ?_
    rintro e X2 ⟨rfl,aP⟩
    rw[rK]
    have Ap:=mo.small
    have hl4:m.its.length≤400:=Ap.len
    refine⟨a,rfl,by omega,m.rg,m.ro,m.its.length,m.cap,fun a X'=>∃s',z7 J R M W s' X'∧aS X' X.heap.size 125 [.string (bs lo),.string (bs hi)]∧a≤m.its.length∧fN (visit f lo hi k) hi ((Tr.its c).drop a) s'=visit f lo hi (k+1) c s∧sz s'+KH ((Tr.its c).drop a)≤100000000,hl4,⟨?_⟩,⟨_,A.below KJ aP,hx1.below aP hx1.lt,by omega,QL.symm, ?_⟩⟩
    rotate_left
    ·have h3:=A.incr (k+1) c s
     have h4:=vH (Tr.its c) a
     have h5:tw (k+1) c=1+(Tr.its c).length+KH (Tr.its c):=rfl
     omega
    rintro a X' ⟨s',QM,hx,Vq,P7,p9⟩
    obtain⟨R',M',hj',KL,g1,g2,g3⟩:=QM
    have QM:z7 J R M W s' X':=⟨R',M',hj',KL,g1,g2,g3⟩
    have hnd:=(A.ts _ _ _ _ hj').mem.nd q m (g3 q m hm)
    have hbd:Below X'.heap.size X' X'.drew:=(Below.refl _ _).drew
    refine⟨hx.cell (j:=0) rfl,hx.cell (j:=1) rfl,hnd.c1,Vq,hnd.small.cap.1,fun he=> ?_,fun hlt=> ?_⟩
    ·have:fN (visit f lo hi k) hi ((Tr.its c).drop a) s'=(s',true):=by rw[List.drop_eq_nil_of_le (by omega)];rfl
     rw[←P7,this]
     exact⟨rfl,(A.below QM hbd).back hbW⟩
    ·have hac:a<(Tr.its c).length:=by omega
     have hit:=(aV hnd.row a hlt).1
     have hkey:(m.its[a]).key=((Tr.its c)[a]).1:=by rw[jf a hlt hac]
     have uZ:(Tr.its c).drop a=(Tr.its c)[a]::(Tr.its c).drop (a+1):=cm hac
     rw[uZ,qG] at p9
     refine⟨_,hit,(pY _ lo hi _).mono ?_⟩
     rintro e X3 ⟨rfl,bY⟩
     have JU:Below X'.heap.size X' X3:=hbd.trans (bY.mono (af _))
     have VK:=hx.below JU hx.lt
     have zj:=hnd.still JU
     refine⟨_,rfl,VK.cell (j:=0) rfl,VK.cell (j:=1) rfl,zj.c1,(aV zj.row a hlt).1,fun wy=> ?_,fun Co=> ?_⟩
     ·have:fN (visit f lo hi k) hi ((Tr.its c).drop a) s'=(s',true):=by
       rw[uZ]
       unfold fN
       rw[if_pos (by rw[←hkey];exact wy)]
      rw[←P7,this]
      exact⟨rfl,(A.below QM JU).back hbW⟩
     ·have DS:=(A.ts _ _ _ _ hj').still JU (fun _ h=>h) (fun _ h=>.inl h)
      have hj3:=A.grow _ _ _ _ R' M' X3 hj' DS JU (fun _ h=>.inl h) (fun _ h=>h)
      refine (Hi DS (g3 q m hm) hn hk a hac).mono ?_
      rintro e X4 ⟨q',m',R4,rfl,YC,hb4,hq4,hr4,Jm,h41,h42⟩
      have hmb:∀b,MB (upd M' q' m') b→MB M' b∨X3.heap.size≤b:=by
       rintro b ⟨r,y,hr,hkk⟩
       rcases aI hr with⟨rfl,rfl⟩|⟨_,hr⟩
       ·right
        rcases hkk with rfl|rfl<;>assumption
       ·exact .inl ⟨r,y,hr,hkk⟩
      have hj4:=A.grow _ _ _ _ R4 (upd M' q' m') X4 hj3 YC hb4 hmb h41
      have IC:=VK.below hb4 VK.lt
      refine⟨q',rfl,IC.cell (j:=0) rfl,IC.cell (j:=1) rfl,(ih ((Tr.its c)[a]).2 m' q' s' R4 _ X4 (by omega) hj4 (bz _ _ _) Jm (by omega)).mono ?_⟩
      rintro e X5 ⟨rfl,R5,M5,YD,dX,h51,h52,h53⟩
      have Jy:=JU.size
      have aa0:=hb4.size
      have aa1:=KL.size
      have NU:∀b,R4 b→R b∨W.heap.size≤b:=fun b hb=>by
       rcases h42 b hb with h|h
       ·exact g2 b h
       ·right;omega
      have Pe:z7 J R M W (visit f lo hi k ((Tr.its c)[a]).2 s').1 X5:=by
       refine⟨R5,M5,YD,((KL.trans (aE.aH JU (fun _=>False)) (fun _ _ f=>f.elim)).trans (aE.aH hb4 (fun _=>False)) (fun _ _ f=>f.elim)).trans dX (fun b uL hb=> ?_),fun b hb=>h51 b (h41 b (g1 b hb)),fun b hb=> ?_,fun r y hr=> ?_⟩
       ·rcases NU b hb with h|h
        ·exact h
        ·omega
       ·rcases h52 b hb with h|h
        ·exact NU b h
        ·right;omega
       ·refine h53 r y ?_
        have h6:=g3 r y hr
        rw[aO (fun e=> ?_)]
        ·exact h6
        ·have:=(DS.mem.lt h6).1
         omega
      have Vk:aS X5 X.heap.size 125 [.string (bs lo),.string (bs hi)]:=by
       refine IC.but dX fun h=> ?_
       rcases NU _ h with h|h
       ·exact hnR h
       ·have:=QJ.lt;omega
      have hstep:fN (visit f lo hi k) hi ((Tr.its c).drop a) s'=if (visit f lo hi k ((Tr.its c)[a]).2 s').2=true then fN (visit f lo hi k) hi ((Tr.its c).drop (a+1)) (visit f lo hi k ((Tr.its c)[a]).2 s').1 else ((visit f lo hi k ((Tr.its c)[a]).2 s').1,false):=by
       rw[uZ]
       conv=>lhs;unfold fN
       rw[if_neg (by rw[←hkey,Co];decide)]
      have hvs:=BO A.incr lo hi k ((Tr.its c)[a]).2 s'
      refine⟨_,rfl,fun hvt=>⟨_,Pe,Vk,by omega, ?_,by omega⟩,fun hvf=> ?_⟩
      ·grind
      ·rw[←P7,hstep,if_neg (by rw[hvf];decide)]
       exact⟨rfl,Pe.back hbW⟩
  ·rintro e w' ⟨b,rfl,rfl,h⟩
   exact⟨rfl,h⟩
end
structure YE (key:ByteArray) (L:Nat→Nat→Nat→Nat→World→Prop) (G:Option (List UInt8)→World→Prop):Prop where
 search:∀q pr n cap X,L q pr n cap X→X.cell? ⟨pr,n,none⟩=some (.pointer (some ⟨q,0,none⟩))∧n≤100∧Calls Tryz.prog 52 #[ptr q,.string key] X fun e X'=>
  (∃a:Nat,e=.returned (.tuple #[.int .i64 a,.bool false])∧G none X')∨
  (∃(a g o n' c':Nat) (v0:List UInt8),e=.returned (.tuple #[.int .i64 a,.bool true])∧a<n'∧n'≤400∧X'.cell? ⟨q,1,none⟩=some (.slice (some ⟨g,o,none⟩) n' c')∧X'.cell? ⟨g,o+a*3+1,none⟩=some (.string (bs v0))∧v0.length≤200∧∀gm,Below X'.heap.size X' gm→G (some v0) gm)
structure YF (tb:Nat) (key:ByteArray) (L:Nat→Nat→Nat→Nat→World→Prop) (N:World→Prop) (G:Int→World→Prop):Prop where
 search:∀q pr n cap X,L q pr n cap X→X.cell? ⟨pr,n,none⟩=some (.pointer (some ⟨q,0,none⟩))∧n≤100∧Calls Tryz.prog 52 #[ptr q,.string key] X fun e X'=>
  (∃a:Nat,e=.returned (.tuple #[.int .i64 a,.bool false])∧N X')∨
  (∃(a g n' c':Nat),e=.returned (.tuple #[.int .i64 a,.bool true])∧a<n'∧n'≤400∧X'.cell? ⟨q,1,none⟩=some (.slice (some ⟨g,0,none⟩) n' c')∧
   Calls Tryz.prog 56 #[.slice (some ⟨g,0,none⟩) n' c',.int .i64 a,.int .i64 (a+1:Nat)] X' fun e gm=>∃(VL:Nat) (v:Value),e=.returned v∧v=.slice (some ⟨g,0,none⟩) VL c'∧(∃u,gm.cell? ⟨q,1,none⟩=some u)∧gm.frozen? ⟨q,1,none⟩=false∧
    Calls Tryz.prog 57 #[ptr tb,.slice (some ⟨pr,0,none⟩) (n+1) cap] (gm.setCell ⟨q,1,none⟩ v) fun e w'=>∃c:Int,e=.returned (.int .i64 c)∧G c w')
section
variable {w:World} {tb:Nat}
theorem KM {key:ByteArray} {L:Nat→Nat→Nat→Nat→World→Prop} {G:Option (List UInt8)→World→Prop} (hW:YE key L G)
  (hF:Calls Tryz.prog 51 #[ptr tb,.string key] w fun e X=>(e=.returned (.tuple #[.slice none 0 0,.int .i64 0])∧G none X)∨
   ∃q pr n cap,e=.returned (.tuple #[.slice (some ⟨pr,0,none⟩) (n+1) cap,.int .i64 0])∧L q pr n cap X):
  Calls Tryz.prog 32 #[ptr tb,.string key] w fun e w'=>∃v:Option (List UInt8),e=.returned (.tuple #[.string (bs (v.getD [])),.bool v.isSome,.int .i64 0])∧G v w':=by
 have HW:=aa hW
 have HF:=aa hF
 clear hW hF
 unfold ptr at HW HF ⊢
 go_enter Tryz.func32,Tryz.ntmps32
 go_wp2_with fail
 refine HF.o.mono ?_
 rintro e X (⟨rfl,hG⟩|⟨q,pr,n,cap,rfl,hL⟩)
 ·have HG:=aa hG
  clear hG
  go_wp2_with fail
  go_ret3
  exact⟨none,rfl,HG.o⟩
 ·have HL:=aa hL
  clear hL
  obtain⟨p0,sL,xy⟩:=HW.o.search _ _ _ _ _ HL.o
  have OB:(n:Int)≤100:=by omega
  have GX:=aa xy
  clear xy
  go_wp2_with fail
  clear p0
  refine GX.o.mono ?_
  rintro e X2 (⟨a,rfl,hG⟩|⟨a,g,o,n',c',v0,rfl,UA,Jm,c1,i1,hv0,hG⟩)
  ·have HG:=aa hG
   clear hG
   go_wp2_with fail
   go_ret3
   exact⟨none,rfl,HG.o⟩
  ·have KN:(a:Int)<n':=by omega
   have KO:(n':Int)≤400:=by omega
   have HG:=aa hG
   clear hG
   go_wp2_with fail
   refine (iG (bs v0) X2 (by rw[aK];omega)).mono ?_
   rintro e X3 ⟨rfl,hb⟩
   have HB:=aa hb
   clear hb c1 i1
   go_wp2_with fail
   go_ret3
   exact⟨some v0,rfl,HG.o _ HB.o⟩
theorem KP {key:ByteArray} {L:Nat→Nat→Nat→Nat→World→Prop} {N:World→Prop} {G:Int→World→Prop} (hW:YF tb key L N G)
  (hF:Calls Tryz.prog 51 #[ptr tb,.string key] w fun e X=>(e=.returned (.tuple #[.slice none 0 0,.int .i64 0])∧N X)∨
   ∃q pr n cap,e=.returned (.tuple #[.slice (some ⟨pr,0,none⟩) (n+1) cap,.int .i64 0])∧L q pr n cap X):
  Calls Tryz.prog 36 #[ptr tb,.string key] w fun e w'=>(e=.returned (.tuple #[.bool false,.int .i64 0])∧N w')∨∃c:Int,e=.returned (.tuple #[.bool (decide (c=0)),.int .i64 c])∧G c w':=by
 have HW:=aa hW
 have HF:=aa hF
 clear hW hF
 unfold ptr at HW HF ⊢
 go_enter Tryz.func36,Tryz.ntmps36
 go_wp2_with fail
 refine HF.o.mono ?_
 rintro e X (⟨rfl,hG⟩|⟨q,pr,n,cap,rfl,hL⟩)
 ·have HG:=aa hG
  clear hG
  go_wp2_with fail
  go_ret2
  exact .inl ⟨rfl,HG.o⟩
 ·have HL:=aa hL
  clear hL
  obtain⟨p0,sL,xy⟩:=HW.o.search _ _ _ _ _ HL.o
  have OB:(n:Int)≤100:=by omega
  have GX:=aa xy
  clear xy
  go_wp2_with fail
  clear p0
  refine GX.o.mono ?_
  rintro e X2 (⟨a,rfl,hG⟩|⟨a,g,n',c',rfl,UA,Jm,c1,hD⟩)
  ·have HG:=aa hG
   clear hG
   go_wp2_with fail
   go_ret2
   exact .inl ⟨rfl,HG.o⟩
  ·have KN:(a:Int)<n':=by omega
   have KO:(n':Int)≤400:=by omega
   have HD:=aa hD
   clear hD
   rw[show ((a+1:Nat):Int)=(a:Int)+1 by omega] at HD
   go_wp2_with fail
   refine HD.o.mono ?_
   rintro e X3 ⟨VL,v,rfl,rfl,⟨u,d1⟩,f1,hst⟩
   have jO:=aa hst
   clear hst c1
   go_wp2_with fail
   refine jO.o.mono ?_
   rintro e w9 ⟨c,rfl,hG⟩
   have HG:=aa hG
   clear hG d1 f1
   by_cases hc:c=0
   ·subst hc
    go_wp2_with fail
    go_ret2
    exact .inr ⟨0,rfl,HG.o⟩
   ·go_wp2_with fail
    go_ret2
    exact .inr ⟨c,by rw[decide_eq_false hc];rfl,HG.o⟩
end
end
namespace Tr
abbrev eZ:=List (Tx×Tx)
def put (l:eZ) (key v:Tx):eZ:=l.filter (fun p=>lt p.1 key)++(key,v)::l.filter (fun p=>lt key p.1)
def del (l:eZ) (key:Tx):eZ:=l.filter (fun p=>p.1 !=key)
def got (l:eZ) (key:Tx):Option Tx:=(l.find? fun p=>p.1==key).map (·.2)
abbrev ck (l:eZ):Prop:=l.Pairwise fun a b=>lt a.1 b.1=true
theorem filter_all {l:eZ} {f:Tx×Tx→Bool} (h:∀p∈l,f p=true):l.filter f=l:=List.filter_eq_self.2 h
theorem jw {l:eZ} {f:Tx×Tx→Bool} (h:∀p∈l,f p=false):l.filter f=[]:=List.filter_eq_nil_iff.2 fun p hp=>by rw[h p hp];decide
section
variable {pre lf post:eZ} {key v:Tx}
theorem NW (h1:∀p∈pre,lt p.1 key=true) (h2:∀p∈post,lt key p.1=true):put (pre++lf++post) key v=pre++put lf key v++post:=by
 unfold put
 rw[ny,ny,ny,ny,filter_all h1,jw (l:=post) (f:=fun p=>lt p.1 key) fun p hp=>lt_asymm (h2 p hp),jw (l:=pre) (f:=fun p=>lt key p.1) fun p hp=>lt_asymm (h1 p hp),filter_all h2]
 simp
theorem NY (h1:∀p∈pre,lt p.1 key=true) (h2:∀p∈post,lt key p.1=true):del (pre++lf++post) key=pre++del lf key++post:=by
 grind [del,filter_all,ne_of_lt]
theorem BQ {l:eZ} (h:∀p∈l,p.1≠key):got l key=none:=by
 grind [got]
theorem vI {a b:eZ} (h:∀p∈a,p.1≠key):got (a++b) key=got b key:=by
 grind [got]
theorem Hj {a b:eZ} (h:∀p∈b,p.1≠key):got (a++b) key=got a key:=by
 grind [got]
theorem E_ (h1:∀p∈pre,lt p.1 key=true) (h2:∀p∈post,lt key p.1=true):got (pre++lf++post) key=got lf key:=by
 grind [Hj,ne_of_lt,vI]
theorem DY (h:ck lf):lf.takeWhile (fun p=>lt p.1 key)=lf.filter (fun p=>lt p.1 key)∧lf.dropWhile (fun p=>lt p.1 key)=lf.filter (fun p=> !lt p.1 key):=by
 induction lf with
 |nil=>exact⟨rfl,rfl⟩
 |cons a l ih=>
  obtain⟨ha,hl⟩:=cw.1 h
  cases e:lt a.1 key with
  |true=>
   have:=ih hl
   rw[List.takeWhile_cons,List.dropWhile_cons,cS,cS]
   simp only[e,if_true,Bool.not_true,jL,if_false]
   exact⟨by rw[this.1],this.2⟩
  |false=>
   have hno:∀p∈l,lt p.1 key=false:=fun p hp=>by
    cases e2:lt p.1 key with
    |false=>rfl
    |true=>have:=lt_trans (ha p hp) e2;rw[e] at this;cases this
   rw[List.takeWhile_cons,List.dropWhile_cons,cS,cS]
   simp only[e,if_false,Bool.not_false,if_true,jL]
   refine⟨(jw hno).symm, ?_⟩
   rw[filter_all (l:=l) fun p hp=>by rw[hno p hp];rfl]
theorem jx (h:ck lf) {p:Nat} (hp:p=(lf.takeWhile fun x=>lt x.1 key).length):lf.take p=lf.filter (fun x=>lt x.1 key)∧lf.drop p=lf.filter (fun x=> !lt x.1 key):=by
 obtain⟨h1,h2⟩:=DY (key:=key) h
 have e:lf=lf.takeWhile (fun x=>lt x.1 key)++lf.dropWhile (fun x=>lt x.1 key):=(List.takeWhile_append_dropWhile).symm
 have hg:∀A B:eZ,lf=A++B→lf.take A.length=A∧lf.drop A.length=B:=by
  grind
 obtain⟨g1,g2⟩:=hg _ _ e
 rw[←hp] at g1 g2
 exact⟨g1.trans h1,g2.trans h2⟩
theorem KQ (h:ck lf) {p:Nat} (hp:p=(lf.takeWhile fun x=>lt x.1 key).length) (hn:∀x∈lf,x.1≠key):lf.take p++(key,v)::lf.drop p=put lf key v:=by
 obtain⟨h1,h2⟩:=jx h hp
 unfold put
 rw[h1,h2]
 congr 2
 refine List.filter_congr fun x hx=> ?_
 cases e:lt key x.1 with
 |true=>rw[lt_asymm e];rfl
 |false=>
  cases e2:lt x.1 key with
  |true=>rfl
  |false=>exact absurd (kU _ _ e2 e) (hn x hx)
theorem vJ (h:ck lf) {p:Nat} (hp:p=(lf.takeWhile fun x=>lt x.1 key).length) (hl:p<lf.length) (hk:(lf[p]).1=key):lf.drop (p+1)=lf.filter (fun x=>lt key x.1)∧lf.drop p=lf[p]::lf.drop (p+1):=by
 obtain⟨h1,h2⟩:=jx h hp
 have hd:lf.drop p=lf[p]::lf.drop (p+1):=cm hl
 refine⟨?_,hd⟩
 have hr:(lf.drop p).Pairwise fun a b=>lt a.1 b.1=true:=h.sublist (List.drop_sublist _ _)
 rw[hd] at hr
 have h3:=(cw.1 hr).1
 have e:lf=lf.take p++lf[p]::lf.drop (p+1):=by rw[←hd,cL]
 conv=>rhs;rw[e]
 rw[ny,cS,h1,jw (l:=lf.filter _) (f:=fun x=>lt key x.1) fun x hx=>lt_asymm (by simpa using (dy.1 hx).2),hk,lt_irrefl]
 simp only[jL,if_false,dF]
 exact (filter_all fun x hx=>by rw[←hk];exact h3 x hx).symm
theorem KR (h:ck lf) {p:Nat} (hp:p=(lf.takeWhile fun x=>lt x.1 key).length) (hl:p<lf.length) (hk:(lf[p]).1=key):lf.set p (key,v)=put lf key v:=by
 obtain⟨h1,h2⟩:=vJ h hp hl hk
 unfold put
 rw[←h1,←(jx h hp).1,List.set_eq_take_append_cons_drop,if_pos hl]
theorem KS (h:ck lf) {p:Nat} (hp:p=(lf.takeWhile fun x=>lt x.1 key).length) (hl:p<lf.length) (hk:(lf[p]).1=key):lf.take p++lf.drop (p+1)=del lf key:=by
 obtain⟨h1,h2⟩:=vJ h hp hl hk
 have h3:=(jx h hp).1
 unfold del
 have e:lf=lf.take p++lf[p]::lf.drop (p+1):=by rw[←h2,cL]
 conv=>rhs;rw[e]
 rw[ny,cS,hk]
 simp only[bne_self_eq_false,jL,if_false]
 rw[filter_all (l:=lf.take p) fun x hx=>bne_iff_ne.2 (ne_of_lt (by rw[h3] at hx;simpa using (dy.1 hx).2)),filter_all (l:=lf.drop (p+1)) fun x hx=>bne_iff_ne.2 (ne_of_lt (by rw[h1] at hx;simpa using (dy.1 hx).2)).symm]
theorem BR (h:ck lf) {p:Nat} (hp:p=(lf.takeWhile fun x=>lt x.1 key).length) (hl:p<lf.length) (hk:(lf[p]).1=key):got lf key=some (lf[p]).2:=by
 obtain⟨_,h2⟩:=vJ h hp hl hk
 have h3:=(jx h hp).1
 have e:lf=lf.take p++lf[p]::lf.drop (p+1):=by rw[←h2,cL]
 have e2:got lf key=got (lf.take p++lf[p]::lf.drop (p+1)) key:=by rw[←e]
 rw[e2,vI fun x hx=>ne_of_lt (by rw[h3] at hx;simpa using (dy.1 hx).2)]
 unfold got
 rw[List.find?_cons,show (lf[p].1==key)=true from by rw[hk];simp]
 rfl
theorem KT {l:eZ} (h:ck l) (hm:(key,v)∈l):put l key v=l:=by
 obtain⟨a,b,rfl⟩:=List.append_of_mem hm
 have h1:=List.pairwise_append.1 h
 have h2:=cw.1 h1.2.1
 unfold put
 rw[ny,ny,cS,cS]
 simp only[lt_irrefl,jL,if_false]
 rw[filter_all (l:=a) fun p hp=>h1.2.2 p hp (key,v) aA,jw (l:=b) (f:=fun p=>lt p.1 key) fun p hp=>lt_asymm (h2.1 p hp),jw (l:=a) (f:=fun p=>lt key p.1) fun p hp=>lt_asymm (h1.2.2 p hp (key,v) aA),filter_all h2.1]
 simp
theorem Ord.put {lo:Tx} {h:Option Tx} {l:eZ} (o:Ord lo h l) (h1:le lo key) (h2:su key h) (h3:key.length≤96) (h4:v.length≤56):Ord lo h (put l key v):=by
 have hm:∀p∈Tr.put l key v,p∈l∨p=(key,v):=fun p hp=>by
  unfold Tr.put at hp
  rcases ah.1 hp with hp|hp
  ·grind
  ·grind
 refine⟨?_,fun p hp=> ?_,fun p hp=> ?_,fun p hp=> ?_,fun p hp=> ?_⟩
 ·unfold Tr.put
  refine List.pairwise_append.2 ⟨o.lE.sublist pE,cw.2 ⟨fun p hp=>by simpa using (dy.1 hp).2,o.lE.sublist pE⟩,fun p hp q hq=> ?_⟩
  have e1:lt p.1 key=true:=by simpa using (dy.1 hp).2
  rcases aQ.1 hq with rfl|hq
  ·exact e1
  ·grind [lt_trans]
 ·rcases hm p hp with hp|rfl
  ·exact o.low p hp
  ·exact h1
 ·rcases hm p hp with hp|rfl
  ·exact o.high p hp
  ·exact h2
 ·rcases hm p hp with hp|rfl
  ·exact o.keys p hp
  ·exact h3
 ·rcases hm p hp with hp|rfl
  ·exact o.vals p hp
  ·exact h4
theorem Ord.del {lo:Tx} {h:Option Tx} {l:eZ} (o:Ord lo h l):Ord lo h (del l key):=
 ⟨o.lE.sublist pE,fun p hp=>o.low p (dy.1 hp).1,fun p hp=>o.high p (dy.1 hp).1,fun p hp=>o.keys p (dy.1 hp).1,fun p hp=>o.vals p (dy.1 hp).1⟩
theorem Fa {h:Option Tx}:∀{l:eZ} {lo:Tx},Ord lo h l→cV (Ok 0) (cut 0) h (l:List (Tx×E 0))
 |[],_,_=>trivial
 |[a],_,o=>⟨o.vals a aA,o.high a aA⟩
 |a::b::r,lo,o=>by
  have h1:=cw.1 o.lE
  have o':Ord lo h (b::r):=⟨h1.2,fun p hp=>o.low p (aF _ hp),fun p hp=>o.high p (aF _ hp),fun p hp=>o.keys p (aF _ hp),fun p hp=>o.vals p (aF _ hp)⟩
  exact⟨⟨o.vals a aA,h1.1 b aA⟩,⟨h1.1 b aA,o.keys b (aF _ aA),trivial⟩,Fa o'⟩
theorem KU {lo:Tx} {h:Option Tx} {l:eZ} (o:Ord lo h l):Rw 0 lo h (l:List (Tx×E 0)):=by
 refine⟨fun p hp=> ?_, ?_⟩
 ·rw[if_pos rfl]
  exact⟨o.low p (List.mem_of_mem_head? hp),o.keys p (List.mem_of_mem_head? hp)⟩
 ·grind [cV,Ok,cut,qT,Fa]
theorem rT (f:Tx×Tx→Bool):∀l:eZ,sz 0 ((l.filter f:eZ):List (Tx×E 0))≤sz 0 (l:List (Tx×E 0))
 |[]=>af _
 |a::l=>by
  have ih:=rT f l
  rw[cS]
  split
  ·simp_all[iQ,sz]
  ·show _≤iQ 0 a+sz 0 _
   omega
theorem KV (f g:Tx×Tx→Bool) (h:∀p,¬(f p=true∧g p=true)):∀l:eZ,sz 0 ((l.filter f:eZ):List (Tx×E 0))+sz 0 ((l.filter g:eZ):List (Tx×E 0))≤sz 0 (l:List (Tx×E 0))
 |[]=>af _
 |a::l=>by
  have ih:=KV f g h l
  have hl:sz 0 ((a::l:eZ):List (Tx×E 0))=iQ 0 a+sz 0 (l:List (Tx×E 0)):=rfl
  rw[cS,cS,hl]
  have hc:∀r:eZ,sz 0 ((a::r:eZ):List (Tx×E 0))=iQ 0 a+sz 0 (r:List (Tx×E 0)):=fun _=>rfl
  cases e1:f a<;>cases e2:g a
  ·grind
  ·simp only[jL,if_false,if_true,hc];omega
  ·simp only[jL,if_false,if_true,hc];omega
  ·grind
theorem KW (l:eZ):sz 0 (put l key v:List (Tx×E 0))≤sz 0 (l:List (Tx×E 0))+(2+key.length+v.length):=by
 have h1:=KV (fun p=>lt p.1 key) (fun p=>lt key p.1) (fun p h=>by have:=lt_asymm h.1;rw[h.2] at this;cases this) l
 have h2:sz 0 (put l key v:List (Tx×E 0))=sz 0 ((l.filter (fun p=>lt p.1 key):eZ):List (Tx×E 0))+((2+key.length+v.length)+sz 0 ((l.filter (fun p=>lt key p.1):eZ):List (Tx×E 0))):=by
  exact dV 0 (l.filter (fun p=>lt p.1 key):eZ) ((key,v)::l.filter (fun p=>lt key p.1):eZ)
 omega
end
end Tr
end Go.Proofs.YtebbahjombdalaaGreatDoor
