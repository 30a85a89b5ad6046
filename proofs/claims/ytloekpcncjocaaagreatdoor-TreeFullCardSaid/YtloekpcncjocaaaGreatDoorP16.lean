/- Elder texts, cut down and merged (16). -/
import Derived.Test.YtloekpcncjocaaaGreatDoorP15
import Derived.Test.YtloekpcncjocaaaGreatDoorP14
import Derived.Test.YtloekpcncjocaaaGreatDoorP9
import Derived.Test.YtloekpcncjocaaaGreatDoorP7
import Derived.Test.YtloekpcncjocaaaGreatDoorP6
import Derived.Test.YtloekpcncjocaaaGreatDoorPTk
set_option maxRecDepth 100000
set_option maxHeartbeats 8000000
namespace Go.Proofs.YtloekpcncjocaaaGreatDoor
open Go.RowKit Lib
section
variable {E:Ev} {X0 X X' V w:World} {R0 R R':Nat→Prop} {ps:List (Nat×List UInt8)} {pg:List (Option Wl.Text)} {rt:List Nat} {M M':Nat→Option NV} {k q sb:Nat} {sv:Value} {tgt:List (Tr.Tx×Tr.Tx)} {pages sp:List Nat} {K:Nat} {T:Tr.E (K+1)}
def Done (E:Ev) (X0:World) (R0:Nat→Prop) (ps:List (Nat×List UInt8)) (pg:List (Option Wl.Text)) (rt:List Nat) (tgt:List (Tr.Tx×Tr.Tx)) (pages:List Nat) (c:Int) (X':World):Prop:=
 iR E X0 R0 ps pg rt tgt pages c X'∨(c=4∧pg.length<Rm.used pg+20∧∃R' M',TS E X0 R0 R' ps pg rt M' X')
def Al (B:Nat) (E:Ev) (X0:World) (R0:Nat→Prop) (ps:List (Nat×List UInt8)) (pg:List (Option Wl.Text)) (rt:List Nat) (tgt:List (Tr.Tx×Tr.Tx)) (pages:List Nat) (c:Int) (X':World):Prop:=
 iR E X0 R0 ps pg rt tgt pages c X'∨(c=4∧pg.length<Rm.used pg+B∧∃R' M',TS E X0 R0 R' ps pg rt M' X')
theorem gO:∀pg:List (Option Wl.Text),Rm.used pg≤pg.length:=fun pg=>by unfold Rm.used;exact List.length_filter_le _ _
def Fw (d:Nat):Nat:=if d=0 then 0 else 20
theorem E6 {v:Value} {c:Tr.E (k+1)} (hN:Dc E X0 R0 ps pg rt sb k c sp v X) (rJ:(Tr.bg (k+1) c++sp).Perm pages) (oY:Tr.bE k (Tr.its c)=tgt) {d:Nat} (hnw:Tr.dr (k+1) c≤17) (MH:d=0→Tr.dr (k+1) c=0∧Tr.sz k (Tr.its c)≤510) (hn:pages.Nodup) (ht:∀x∈pages,(pg.getD x none).isSome=true) (bY:E.place<16) (hq:ps.length≤60000000):
  Calls Tryz.prog 68 #[ptr sb,v] X fun e X'=>(e=.returned (.int .i64 0)∧Al (Fw d) E X0 R0 ps pg rt tgt pages 0 X')∨(e=.returned (.int .i64 4)∧X'.cell? ⟨E.tb,0,none⟩=some (.pointer (some ⟨E.rb,0,none⟩))∧Calls Tryz.prog 69 #[ptr E.rb,.int .i64 ps.length] X' fun e eu=>e=.returned (.tuple #[])∧Al (Fw d) E X0 R0 ps pg rt tgt pages 4 eu):=by
 obtain⟨R',M',cM,sp',hss,hv⟩:=hN
 have hrm:=hss.ts.rm
 have K_:pg.length≤4096:=hrm.rep.few
 have ku:pg.length≤65536:=Nat.le_trans hrm.rep.few (by decide)
 have hsw:=hss.sw
 have hG:∀c X,iR E X0 R0 ps pg rt tgt pages c X→(fun (c:Int) X=>iR E X0 R0 ps pg rt tgt pages c X∨(c=4∧Ad E X0 R0 rt ps pg 4200 (Fw d) X)) c X:=fun _ _ h=>.inl h
 have hW:=K9 (sb:=sb) (tgt:=tgt) bY hn ht hrm.rep.pQ (by omega) K_ hG
 have fin:∀{e:Ending} {X':World},(∃c:Int,e=.returned (.int .i64 c)∧(iR E X0 R0 ps pg rt tgt pages c X'∨(c=4∧Ad E X0 R0 rt ps pg 4200 (Fw d) X')))→(e=.returned (.int .i64 0)∧Al (Fw d) E X0 R0 ps pg rt tgt pages 0 X')∨(e=.returned (.int .i64 4)∧X'.cell? ⟨E.tb,0,none⟩=some (.pointer (some ⟨E.rb,0,none⟩))∧Calls Tryz.prog 69 #[ptr E.rb,.int .i64 ps.length] X' fun e eu=>e=.returned (.tuple #[])∧Al (Fw d) E X0 R0 ps pg rt tgt pages 4 eu):=by
  rintro e X' ⟨c,rfl,h|⟨rfl,R2,M2,ps2,kE,hts,hpre,hl,hlk⟩⟩
  ·have hc:=h.1
   subst hc
   exact .inl ⟨rfl,.inl h⟩
  ·refine .inr ⟨rfl,hts.tree.cell (j:=0) rfl,(E0 hts.rm hpre (by omega) hrm.rep hrm.pos).mono ?_⟩
   rintro e eu ⟨rfl,hr,hb⟩
   exact⟨rfl,.inr ⟨rfl,hlk,R2,M2,hts.sP hr hb⟩⟩
 obtain⟨a,cc,hblk,Ju,q_⟩:=hsw.sp
 have N9:sp'.length≤4096→(ew sp').length≤70000:=fun h=>by unfold ew;rw[List.length_map];omega
 have gz:(ew sp').length=sp'.length:=by unfold ew;rw[List.length_map]
 rcases hv with⟨rfl,h0,hsp⟩|⟨r,k',c',F',rfl,Hw,hF,hok,hk,hp2,Ob,B6,Wb⟩
 ·have GI:Tr.bg (k+1) c=(Tr.hd c).page.toList:=by rw[Tr.aK,h0];simp[Tr.b_]
  have Oc:sp'.Perm pages:=by
   refine List.Perm.trans ?_ rJ
   rw[hsp,GI]
   exact List.perm_append_comm
  have Yg:sp'.length≤4096:=Nat.le_trans (cT ((Oc.nodup_iff).2 hn) fun x hx=>aY (ht x ((Oc.mem_iff).1 hx))) K_
  have L6:tgt=[]:=by
   rw[←oY,h0];exact Tr.iH k
  rw[gz] at hblk Ju
  have hF0:YQ E X0 R0 rt ps pg sb tgt pages 0 a sp'.length 0 X:=⟨R',M',ps,pg,pg,sp',[],[],cc,hss.ts,hss.rK.1,rfl,Nat.zero_le _,by omega,fL.refl pg,by simpa using Oc,.inl ⟨rfl,L6,rfl⟩,⟨rfl,fun x=>by simp,by simp⟩,hblk,fun hpos=>by
   obtain⟨g,o,e,Ac,hg,_⟩:=q_ (by intro e;rw[←gz,e] at hpos;cases hpos)
   exact⟨g,o,e,Ac,hg⟩⟩
  refine (Cc hW (hblk.cell (j:=1) rfl) (by omega) Ju hF0).mono ?_
  intro e X' h
  exact fin h
 ·have hall:(Tr.bg (k'+1) c'++sp').Nodup:=(Ob.nodup_iff).2 ((rJ.nodup_iff).2 hn)
  have htk:∀x∈Tr.bg (k'+1) c'++sp',(pg.getD x none).isSome=true:=fun x hx=>ht x ((rJ.mem_iff).1 ((Ob.mem_iff).1 hx))
  have yW:(Tr.bg (k'+1) c').length≤4096:=Nat.le_trans (cT (List.nodup_append.1 hall).1 fun x hx=>aY (htk x (List.mem_append.2 (.inl hx)))) K_
  have Ir:=Tr.x_ (k'+1) c'
  have hwr:=qK k' hk hsw Hw hF ⟨[],none,hok⟩ hall htk ku (by omega)
  refine (Cd hW (hwr.mono ?_)).mono ?_
  ·rintro e X' ⟨c,rfl,⟨rfl,R2,ps2,kE,M2,t',uV,al,wr⟩|⟨rfl,R2,M2,ps2,kE,h1,h2,h3,h4⟩⟩
   ·left
    obtain⟨page,bD,mB,uQ⟩:=wr.st.1
    obtain⟨n',hn',hnp⟩:=wr.at_
    have c2:=(wr.sw.ts.mem.nd r n' hn').c2
    rw[hnp,bD] at c2
    obtain⟨a2,YT,Ai,Ru,N_⟩:=wr.sw.sp
    have Rv:(ew uV).length=uV.length:=by unfold ew;rw[List.length_map]
    rw[Rv] at Ai Ru
    have Od:(Tr.bg (k'+1) t'++uV).Perm (pages++al):=wr.bg.trans ((Ob.trans rJ).append_right al)
    have Rx:(Tr.bg (k'+1) t'++uV).Nodup:=(Od.nodup_iff).2 (List.nodup_append.2 ⟨hn,wr.pg.nd,fun x hx y hy e=>by
     subst e
     have:=ht x hx
     rw[(wr.pg.free x hy).1] at this;cases this⟩)
    have hl2:uV.length≤4096:=Nat.le_trans (cT (List.nodup_append.1 Rx).2.1 fun x hx=>by
     have:=(Od.mem_iff (a:=x)).1 (List.mem_append.2 (.inr hx))
     rcases List.mem_append.1 this with h3|h3
     ·exact aY (ht x h3)
     ·exact (wr.pg.free x h3).2) K_
    have hfw:=wr.few
    refine⟨page,rfl,c2,mB,a2,uV.length,YT,Ai.cell (j:=1) rfl,by omega,Ru,R2,M2,ps2,kE,kE,uV,al,Tr.bg (k'+1) t',YT,wr.sw.ts,wr.sw.rK.1,rfl,Nat.zero_le _,by omega,wr.pg,Od,.inr ⟨k',t',page,rfl,bD,hk,wr.st,Tr.Sm.ok wr.sm hok, ?_,rfl,(List.nodup_append.1 Rx).1⟩,⟨rfl,fun x=>by simp,by simp⟩,Ai,fun hpos=> ?_⟩
    ·rw[←oY,←hp2]
     exact Tr.Sm.bE wr.sm
    ·obtain⟨g,o,e,Ac,hg,_⟩:=N_ (by intro e;rw[←Rv,e] at hpos;cases hpos)
     exact⟨g,o,e,Ac,hg⟩
   ·right
    exact⟨4,rfl,by decide,.inr ⟨rfl,R2,M2,ps2,kE,h1,h2,by omega,by
     unfold Fw
     split
     ·rename_i hd
      have:=Wb (MH hd).2
      have:=(MH hd).1
      omega
     ·omega⟩⟩
  ·intro e X' h
   exact fin h
structure Dj (E:Ev) (X0:World) (R0 R:Nat→Prop) (ps:List (Nat×List UInt8)) (pg:List (Option Wl.Text)) (rt:List Nat) (M:Nat→Option NV) (w:World) (leaf:Nat) (m:NV) (c0:Tr.E 1) (l:List (Tr.Tx×Tr.E 0)) (K:Nat) (T:Tr.E (K+1)) (path:List Nat) (pre post:List (Tr.Tx×Tr.Tx)) (out:List Nat) (pr:Nat):Prop where
 ts:TS E X0 R0 R ps pg rt M w
 above:fH M pg 0 leaf m.lo m.hi c0 K T path pre post out
 i_:M leaf=some m
 uP:m.level=0
 its:m.its=af 0 l
 page:m.page=oQ (Tr.hd c0).page
 was:m.was=Tr.sz 0 (Tr.its c0)
 near:Tr.fJ 0 m.lo (gD m.hi) (Tr.mk ⟨(Tr.hd c0).page,true⟩ l)
 new:(Tr.hd c0).page.isSome=true∨(K=0∧l≠[])
 nd:(path++[leaf]).Nodup
 row:aJ bU w pr 0 (leaf::path).reverse
 S_:R pr∧¬MB M pr
 YU:(Tr.bg (K+1) T).Nodup
 taken:∀x∈Tr.bg (K+1) T,(pg.getD x none).isSome=true
 Ry:K≤15
theorem Iz {α:Type} (q p:α) (path:List α):(q::p::path).reverse.take ((p::path).length)=(p::path).reverse:=by
 rw[List.reverse_cons,List.take_left' (by simp)]
def Oe (E:Ev) (X0:World) (R0:Nat→Prop) (ps:List (Nat×List UInt8)) (pg:List (Option Wl.Text)) (rt:List Nat) (sb K:Nat) (T:Tr.E (K+1)) (tgt:List (Tr.Tx×Tr.Tx)) (pl:List Nat) (pr d i:Nat) (X:World):Prop:=
 ∃(R':Nat→Prop) (M':Nat→Option NV) (sv:Value) (k q:Nat) (lo hi:List UInt8) (c0 c:Tr.E (k+1)) (path:List Nat) (pre post:List (Tr.Tx×Tr.Tx)) (out F sp:List Nat),path.length=i∧Zip E X0 R0 R' ps pg rt M' X sb sv k q lo hi c0 c K T path pre post tgt out F sp d∧d≤1∧(q::path).reverse=pl.take (i+1)∧aJ bU X pr 0 pl∧R' pr∧¬MB M' pr∧pr≠sb∧sv.ownBlock≠some pr∧
  ((Tr.hd c).page.isSome=true∨(k=0∧Tr.its c≠[]))∧i<pl.length
theorem Co {pl:List Nat} {pr d i:Nat} (h:Oe E X0 R0 ps pg rt sb K T tgt pl pr d i X):∀j,j≤i→X.cell? ⟨pr,j,none⟩=some (.pointer (some ⟨pl.getD j 0,0,none⟩)):=by
 obtain⟨R',M',sv,k,q,lo,hi,c0,c,path,pre,post,out,F,sp,hi1,z,ux,bY,Ac,_,_,_,_,_,hil⟩:=h
 intro j hj
 have hjl:j<pl.length:=by omega
 have:=Ac.at j 0 (by decide) hjl (.pointer (some ⟨pl[j],0,none⟩)) rfl
 rw[show 0+(j*bU.size+0)=j from by show 0+(j*1+0)=j;omega] at this
 rw[List.getD_eq_getElem?_getD,List.getElem?_eq_getElem hjl]
 exact this
theorem jC {pl:List Nat} {i q:Nat} {path:List Nat} (h:(q::path).reverse=pl.take (i+1)) (hl:path.length=i):pl.getD i 0=q:=by
 have h1:(pl.take (i+1))[i]?=some q:=by
  rw[←h,List.reverse_cons,List.getElem?_append_right (by simp[hl])]
  simp[hl]
 rw[List.getElem?_take_of_lt (Nat.lt_succ_self i)] at h1
 rw[List.getD_eq_getElem?_getD,h1]
 rfl
theorem Of {pl:List Nat} {pr d:Nat} (bY:E.place<16) (hn:(Tr.bg (K+1) T).Nodup) (ht:∀x∈Tr.bg (K+1) T,(pg.getD x none).isSome=true) (hq:ps.length≤60000000):
  Way sb E.tb E.rb pr pl.length ps.length (fun j=>pl.getD j 0) (fun i X=>Oe E X0 R0 ps pg rt sb K T tgt pl pr d i X) (fun v X=>∃(k:Nat) (c:Tr.E (k+1)) (sp:List Nat),Dc E X0 R0 ps pg rt sb k c sp v X∧(Tr.bg (k+1) c++sp).Perm (Tr.bg (K+1) T)∧Tr.bE k (Tr.its c)=tgt∧Tr.dr (k+1) c≤17∧(d=0→Tr.dr (k+1) c=0∧Tr.sz k (Tr.its c)≤510)) (fun c X=>Al (Fw d) E X0 R0 ps pg rt tgt (Tr.bg (K+1) T) c X):=by
 refine⟨fun i X h=>Co h, ?_, ?_, ?_, ?_, ?_⟩
 ·rintro i X ⟨R',M',sv,k,q,lo,hi,c0,c,path,pre,post,out,F,sp,hi1,z,ux,xf,Ac,h1,h2,h3,h4,h5,h6⟩
  have hb:Below X.heap.size X X.drew:=(Below.refl _ X).drew
  exact⟨R',M',sv,k,q,lo,hi,c0,c,path,pre,post,out,F,sp,hi1,⟨z.ss.still hb,z.above,z.vS,z.i_,z.near,z.page,z.old,z.nd,z.bE,z.bg,z.dr,z.few,z.uP,z.quiet⟩,ux,xf,Ac.below hb (z.ss.ts.Eh pr h1),h1,h2,h3,h4,h5,h6⟩
 ·rintro i X ⟨R',M',sv,k,q,lo,hi,c0,c,path,pre,post,out,F,sp,hi1,z,ux,xf,Ac,h1,h2,h3,h4,h5,h6⟩
  cases path with
  |nil=>cases hi1
  |cons p path=>
   have hpi:path.length=i:=by simpa using hi1
   have hq1:pl.getD (i+1) 0=q:=jC xf hi1
   have htk:(p::path).reverse=pl.take (i+1):=by
    have e:=congrArg (fun x=>x.take (i+1)) xf
    rw[List.take_take,Nat.min_eq_left (Nat.le_succ _)] at e
    rw[←e,←hi1]
    exact (Iz q p path).symm
   have hp1:pl.getD i 0=p:=jC htk hpi
   rw[hq1,hp1]
   refine (Ij z).mono ?_
   rintro e X' ⟨rfl,R2,M2,SV,lo',hi',c0',c',pre',post',out',F',sp',z',st,hps⟩
   have hlt:=z.ss.ts.Eh pr h1
   refine⟨rfl,R2,M2,SV,k+1,p,lo',hi',c0',c',path,pre',post',out',F',sp',hpi,z',ux,htk,Ac.but st.but ?_,st.sub _ h1,fun hm=> ?_,h3,fun he=> ?_, ?_,by omega⟩
   ·rintro (h|h|h)
    ·exact h3 h
    ·exact h4 h
    ·exact h2 h
   ·rcases st.mb _ hm with hm|hm
    ·exact h2 hm
    ·omega
   ·rcases st.sp _ he with he|he
    ·exact h4 he
    ·omega
   ·exact .inl hps
 ·rintro X ⟨R',M',sv,k,q,lo,hi,c0,c,path,pre,post,out,F,sp,hi1,z,ux,xf,Ac,h1,h2,h3,h4,h5,h6⟩
  have hp0:path=[]:=List.length_eq_zero_iff.1 hi1
  subst hp0
  have hq1:pl.getD 0 0=q:=jC xf rfl
  rw[hq1]
  generalize S8:([]:List Nat)=pp at z
  obtain⟨ss,above,vS,⟨m,i_,was,hlo,hhi⟩,near,page,old,nd,oY,tM,KZ,few,uP,quiet⟩:=z
  cases above with
  |up=>cases S8
  |top=>
   have hnF:=(List.nodup_append.1 nd).2.1
   rw[List.nil_append] at tM
   have aaE:(Tr.bg (K+1) c).length+sp.length≤4096:=by
    have h7:=tM.length_eq
    rw[List.length_append] at h7
    have h8:=cT hn fun x hx=>aY (ht x hx)
    have h9:=ss.ts.rm.rep.few
    omega
   refine (Aa (m:=m) ss vS i_ hnF near ⟨hlo,hhi⟩ h5 uP (fun kI=> ?_) (by omega)).mono ?_
   ·rcases Nat.lt_or_ge K 15 with hlt|hge
    ·exact hlt
    ·exfalso
     obtain rfl:K=14+1:=by omega
     have hne:Tr.its c≠[]:=by
      intro e;rw[e] at kI
      have:Tr.sz (14+1) ([]:List (Tr.Tx×Tr.E (14+1)))=0:=rfl
      omega
     have hb:=(Tr.nJ 14 hne near.2).2
     have yW:=Tr.x_ (14+2) c
     have hm2:2≤(Tr.its c).length:=by
      rcases Nat.lt_or_ge 1 (Tr.its c).length with h7|h7
      ·exact h7
      ·exfalso
       have h8:=Tr.yc (fD near.2).2.2
       omega
     have Wa:(2:Nat)^14=16384:=by decide
     rw[Wa] at hb
     have aaF:(Tr.bg (14+2) c).length≤4096:=by
      have:(Tr.bg (14+1+1) c).length=(Tr.bg (14+2) c).length:=rfl
      omega
     have aaG:Tr.dr (14+2) c≤17:=by
      have:Tr.dr (14+1+1) c=Tr.dr (14+2) c:=rfl
      omega
     omega
   ·rintro e X' ⟨v,rfl,htop⟩
    refine⟨v,rfl,K,c,sp,htop,tM, ?_,by omega,quiet⟩
    rw[←oY]
    simp
 ·rintro v X ⟨k,c,sp,⟨R',M',cM,sp',hss,hv⟩,h2,h3,h4,h5⟩
  exact⟨hss.ts.tree.cell (j:=0) rfl,EZ hss.ts.rm⟩
 ·rintro v X ⟨k,c,sp,h1,h2,h3,h4,h5⟩
  exact E6 h1 h2 h3 h4 h5 hn ht bY hq
end
theorem tU:∀l:List (Tr.Tx×Tr.E 0),Tr.iA 0 l=0
 |[]=>rfl
 |x::l=>by rw[Tr.cV,tU l];rfl
section
variable {E:Ev} {X0 w:World} {R0 R:Nat→Prop} {ps:List (Nat×List UInt8)} {pg:List (Option Wl.Text)} {rt:List Nat} {M:Nat→Option NV} {leaf pr cap:Nat} {m:NV} {c0:Tr.E 1} {l:List (Tr.Tx×Tr.E 0)} {K:Nat} {T:Tr.E (K+1)} {path out:List Nat} {pre post:List (Tr.Tx×Tr.Tx)}
theorem yf (s:Dj E X0 R0 R ps pg rt M w leaf m c0 l K T path pre post out pr) {W:World} (hW:W=(w.setCell ⟨leaf,7,none⟩ (.bool true)).alloc (.cells #[.pointer (some ⟨E.tb,0,none⟩),.slice none 0 0] 132)) {d:Nat} (ux:d≤1) (MH:d=0→Tr.sz 0 l≤510∧(Tr.hd c0).page.isSome=true):
  Oe E X0 R0 ps pg rt w.heap.size K T (pre++Tr.bE 0 l++post) (leaf::path).reverse pr d path.length W:=by
 obtain⟨m',hm'⟩:∃m':NV,m'={m with fresh:=true}:=⟨_,rfl⟩
 obtain⟨W1,gP⟩:∃W1,W1=w.setCell ⟨leaf,7,none⟩ (.bool true):=⟨_,rfl⟩
 rw[←gP] at hW
 have aQ:aj (fun b=>b=leaf) w W1:=by rw[gP];exact (aj.refl (fun b=>b=leaf) w).setCell _ _ fun _=>rfl
 have hsz:W1.heap.size=w.heap.size:=by rw[gP];exact World.size_setCell _ _ _
 have hmb:∀b,MB (upd M leaf m') b→MB M b:=by
  rintro b ⟨r,y,hr,hk⟩
  rcases ak hr with⟨rfl,rfl⟩|⟨_,hr⟩
  ·exact⟨_,m,s.i_,by rw[hm'] at hk;exact hk⟩
  ·exact⟨r,y,hr,hk⟩
 have hmem:Mem W1 (upd M leaf m'):=by
  rw[gP]
  exact s.ts.mem.cell s.i_ m' 7 _ (by rw[hm']) (by rw[hm']) (by rw[hm']) (by rw[hm']) (by rw[hm']) (by rw[hm'];rfl)
 have mE:TS E X0 R0 R ps pg rt (upd M leaf m') W1:=s.ts.own aQ (fun b _ e=>by rw[e];exact s.ts.gM leaf ⟨leaf,m,s.i_,.inl rfl⟩) hmem (fun b hb=>s.ts.gM b (hmb b hb)) (fun _ h=>h) (fun _ h=>.inl h)
 have aC:Below W1.heap.size W1 W:=by rw[hW];exact (Below.refl _ W1).alloc (Nat.le_refl _) _
 have Kk:W.heap.size=w.heap.size+1:=by rw[hW,World.size_alloc,hsz]
 have tT:TS E X0 R0 (fun b=>R b∨b=w.heap.size) ps pg rt (upd M leaf m') W:=mE.still aC (fun _ h=>.inl h) (fun b hb=>hb.imp_right fun hb=>⟨by omega,by omega⟩)
 have hblk:aG W w.heap.size 132 [ptr E.tb,.slice none 0 0]:=by
  rw[hW,←hsz]
  exact aG.new W1 _ _
 have Wd:=s.ts.Eh pr s.S_.1
 have hlm:=(s.ts.mem.lt s.i_).1
 have hss:SS E X0 R0 (fun b=>R b∨b=w.heap.size) ps pg rt (upd M leaf m') W w.heap.size (.slice none 0 0) (ew []):=⟨tT,hblk,Own.nil _ _ _ _,⟨.inr rfl,s.ts.but.size,fun hm=>by have:=s.ts.mem.iN (hmb _ hm);omega⟩,fun b hb=>by cases hb⟩
 have hlp:leaf∉path:=fun h=>(List.nodup_append.1 s.nd).2.2 leaf h leaf List.mem_cons_self rfl
 have ni:=s.above.level
 have ku:Tr.bg 1 (Tr.mk ⟨(Tr.hd c0).page,true⟩ l)=Tr.bg 1 c0:=by
  rw[Tr.aK,Tr.aK,oZ,oZ];rfl
 have We:¬MB (upd M leaf m') pr:=fun hm=>s.S_.2 (hmb _ hm)
 refine⟨fun b=>R b∨b=w.heap.size,upd M leaf m',.slice none 0 0,0,leaf,m.lo,m.hi,c0,Tr.mk ⟨(Tr.hd c0).page,true⟩ l,path,pre,post,out,[leaf],[],rfl,⟨hss,s.above.frame fun r hr=>aA fun e=>hlp (by rw[←e];exact hr),⟨m',aM _ _ _,⟨?_, ?_, ?_, ?_,fun e=>(by cases e)⟩,by rw[hm'];exact s.its,rfl⟩,⟨m',aM _ _ _,by rw[hm'];exact s.was,by rw[hm'],by rw[hm']⟩,s.near,rfl,fun hne=>⟨?_,fun _ _=>trivial⟩,s.nd,rfl, ?_, ?_, ?_,s.Ry,fun hd=>⟨?_,(MH hd).1⟩⟩,ux, ?_, ?_,.inl s.S_.1,We,by omega,by simp[Value.ownBlock], ?_,by simp⟩
 ·rw[hm'];exact s.uP
 ·rw[hm'];exact s.page
 ·rw[hm'];rfl
 ·rw[hm'];exact s.near
 ·rcases s.new with h|⟨h,_⟩
  ·exact h
  ·exact absurd (List.length_eq_zero_iff.1 (show path.length=0 by omega)) hne
 ·rw[List.append_nil,ku];exact s.above.bg
 ·rw[Tr.aV,tU]
  split
  ·omega
  ·rename_i hnp
   have:d≠0:=fun hd=>hnp (MH hd).2
   omega
 ·have h1:=cT s.YU fun x hx=>aY (s.taken x hx)
  have h2:=s.ts.rm.rep.few
  omega
 ·rw[Tr.aV,tU,if_pos (show (Tr.hd (Tr.mk ⟨(Tr.hd c0).page,true⟩ l)).page.isSome=true from (MH hd).2)]
 ·rw[List.take_of_length_le (by simp)]
 ·refine (s.row.but aQ fun e=>s.S_.2 ⟨leaf,m,s.i_,.inl e⟩).below aC (by omega)
 ·exact s.new.imp_right fun h=>⟨rfl,h.2⟩
theorem tV (s:Dj E X0 R0 R ps pg rt M w leaf m c0 l K T path pre post out pr) (hq:ps.length≤60000000) (bY:E.place<16):
  Calls Tryz.prog 35 #[ptr E.tb,.slice (some ⟨pr,0,none⟩) (path.length+1) cap] w fun e w'=>∃c:Int,e=.returned (.int .i64 c)∧Done E X0 R0 ps pg rt (pre++Tr.bE 0 l++post) (Tr.bg (K+1) T) c w'∧(Tr.sz 0 l≤510→(Tr.hd c0).page.isSome=true→c=0):=by
 obtain⟨d,ux,MH,hdq⟩:∃d:Nat,d≤1∧(d=0→Tr.sz 0 l≤510∧(Tr.hd c0).page.isSome=true)∧(Tr.sz 0 l≤510→(Tr.hd c0).page.isSome=true→d=0):=by
  by_cases h:Tr.sz 0 l≤510∧(Tr.hd c0).page.isSome=true
  ·exact⟨0,Nat.zero_le _,fun _=>h,fun _ _=>rfl⟩
  ·exact⟨1,Nat.le_refl _,fun e=>(by cases e),fun h1 h2=>absurd ⟨h1,h2⟩ h⟩
 have ni:=s.above.level
 have hk:=s.Ry
 have hW:=Of (E:=E) (X0:=X0) (R0:=R0) (rt:=rt) (T:=T) (tgt:=pre++Tr.bE 0 l++post) (sb:=w.heap.size) (pl:=(leaf::path).reverse) (pr:=pr) (d:=d) bY s.YU s.taken hq
 have hlen:(leaf::path).reverse.length=path.length+1:=by simp
 rw[hlen] at hW
 have Pc:(leaf::path).reverse.getD path.length 0=leaf:=jC (path:=path) (by rw[List.take_of_length_le (by simp)]) rfl
 have hnd:=s.ts.mem.nd leaf m s.i_
 have hc:w.cell? ⟨pr,path.length,none⟩=some (.pointer (some ⟨(leaf::path).reverse.getD path.length 0,0,none⟩)):=by
  have hjl:path.length<(leaf::path).reverse.length:=by rw[hlen];omega
  have:=s.row.at path.length 0 (by decide) hjl (.pointer (some ⟨(leaf::path).reverse[path.length],0,none⟩)) rfl
  rw[show 0+(path.length*bU.size+0)=path.length from by show 0+(path.length*1+0)=path.length;omega] at this
  rw[List.getD_eq_getElem?_getD,List.getElem?_eq_getElem hjl]
  exact this
 refine (Aj hW (by omega) hc ?_ ?_ ?_).mono ?_
 ·rw[Pc];exact⟨_,hnd.c7⟩
 ·rw[Pc];exact hnd.blk.frozen 7
 ·intro W S7
  rw[Pc] at S7
  exact yf s S7 ux MH
 ·rintro e w' ⟨c,rfl,hdn⟩
  refine⟨c,rfl, ?_,fun h1 h2=> ?_⟩
  ·rcases hdn with h|⟨h1,h2,h3⟩
   ·exact .inl h
   ·refine .inr ⟨h1, ?_,h3⟩
    unfold Fw at h2
    split at h2<;>omega
  ·rcases hdn with h|⟨_,h4,_⟩
   ·exact h.1
   ·have:=gO pg
    rw[hdq h1 h2] at h4
    unfold Fw at h4
    rw[if_pos rfl] at h4
    omega
end
end Go.Proofs.YtloekpcncjocaaaGreatDoor
namespace Go.Proofs.YtloekpcncjocaaaGreatDoor
namespace Tr
structure Ord (lo:Tx) (h:Option Tx) (l:List (Tx×Tx)):Prop where
 iZ:l.Pairwise fun a b=>lt a.1 b.1=true
 low:∀p∈l,le lo p.1
 high:∀p∈l,qB p.1 h
 keys:∀p∈l,p.1.length≤96
 vals:∀p∈l,p.2.length≤56
theorem Ord.glue {lo x:Tx} {h:Option Tx} {a b:List (Tx×Tx)} (h1:Ord lo (some x) a) (h2:Ord x h b) (hx:le lo x) (hh:qB x h):Ord lo h (a++b):=by
 refine⟨List.pairwise_append.2 ⟨h1.iZ,h2.iZ,fun p hp q hq=> ?_⟩,fun p hp=> ?_,fun p hp=> ?_,fun p hp=> ?_,fun p hp=> ?_⟩
 ·exact lt_of_lt_of_le (h1.high p hp) (h2.low q hq)
 ·rcases List.mem_append.1 hp with hp|hp
  ·exact h1.low p hp
  ·exact le_trans hx (h2.low p hp)
 ·rcases List.mem_append.1 hp with hp|hp
  ·exact sr (le_of_lt (h1.high p hp)) hh
  ·exact h2.high p hp
 ·rcases List.mem_append.1 hp with hp|hp
  ·exact h1.keys p hp
  ·exact h2.keys p hp
 ·rcases List.mem_append.1 hp with hp|hp
  ·exact h1.vals p hp
  ·exact h2.vals p hp
theorem Am {h:Option Tx}:∀{l:List (Tx×E 0)} {lo:Tx},bT (Ok 0) (cut 0) h l→(∀p,l.head?=some p→le lo p.1∧p.1.length≤96)→Ord lo h (bE 0 l)
 |[],_,_,_=>⟨.nil,fun _ h=>(by cases h),fun _ h=>(by cases h),fun _ h=>(by cases h),fun _ h=>(by cases h)⟩
 |[a],lo,s,h1=>by
  have s:Ok 0 a.1 h a.2:=s
  have hm:∀p∈bE 0 [a],p=a:=fun p hp=>List.mem_singleton.1 hp
  exact⟨List.pairwise_singleton _ _,fun p hp=>by rw[hm p hp];exact (h1 a rfl).1,fun p hp=>by rw[hm p hp];exact s.2,fun p hp=>by rw[hm p hp];exact (h1 a rfl).2,fun p hp=>by rw[hm p hp];exact s.1⟩
 |a::b::r,lo,s,h1=>by
  have ih:=Am (l:=b::r) (lo:=b.1) s.2.2 fun p hp=>by cases hp;exact⟨le_refl _,s.2.1.2.1⟩
  have hb:qB b.1 h:=ih.high b List.mem_cons_self
  have ha:Ord lo (some b.1) [(a.1,(a.2:Tx))]:=by
   have hm:∀p∈[(a.1,(a.2:Tx))],p=a:=fun p hp=>List.mem_singleton.1 hp
   exact⟨List.pairwise_singleton _ _,fun p hp=>by rw[hm p hp];exact (h1 a rfl).1,fun p hp=>by rw[hm p hp];exact s.2.1.1,fun p hp=>by rw[hm p hp];exact (h1 a rfl).2,fun p hp=>by rw[hm p hp];exact s.1.1⟩
  exact ha.glue ih (le_trans (h1 a rfl).1 (le_of_lt s.2.1.1)) hb
theorem rM {k:Nat} {h:Option Tx} (ih:∀{lo:Tx} {u:Option Tx} {n:E (k+1)},Ok (k+1) lo u n→Ord lo u (bE k (its n))):∀{l:List (Tx×E (k+1))} {lo:Tx},bT (Ok (k+1)) (cut (k+1)) h l→(∀p,l.head?=some p→le lo p.1)→Ord lo h (bE (k+1) l)
 |[],_,_,_=>by rw[iH];exact⟨.nil,fun _ h=>(by cases h),fun _ h=>(by cases h),fun _ h=>(by cases h),fun _ h=>(by cases h)⟩
 |[a],lo,s,h1=>by
  rw[cD]
  have o:=ih (show Ok (k+1) a.1 h a.2 from s)
  exact⟨o.iZ,fun p hp=>le_trans (h1 a rfl) (o.low p hp),o.high,o.keys,o.vals⟩
 |a::b::r,lo,s,h1=>by
  have i:=rM ih (l:=b::r) (lo:=b.1) s.2.2 fun p hp=>by cases hp;exact le_refl _
  have o:=ih s.1
  have o':Ord lo (some b.1) (bE k (its a.2)):=⟨o.iZ,fun p hp=>le_trans (h1 a rfl) (o.low p hp),o.high,o.keys,o.vals⟩
  have hb:qB b.1 h:=by
   have s2:=s.2.2
   cases r with
   |nil=>exact Ok.lt (k:=k+1) s2
   |cons c r=>
    have:=bT.behind (A:=[b]) s2
    have h3:∀{l:List (Tx×E (k+1))} {x:Tx×E (k+1)},bT (Ok (k+1)) (cut (k+1)) h (x::l)→qB x.1 h:=by
     intro l
     induction l with
     |nil=>intro x hx;exact Ok.lt (k:=k+1) hx
     |cons y l ih=>intro x hx;exact sr (le_of_lt hx.2.1.1) (ih hx.2.2)
    exact h3 s2
  rw[show a::b::r=[a]++(b::r) from rfl,aS,cD]
  exact o'.glue i (le_trans (h1 a rfl) (le_of_lt s.2.1.1)) hb
theorem nK:∀{k:Nat} {lo:Tx} {h:Option Tx} {n:E (k+1)},Ok (k+1) lo h n→Ord lo h (bE k (its n))
 |0,lo,h,n,o=>by
  obtain⟨_,_,h3,h4⟩:=o
  have e:pI 0 lo (its n)=its n:=by unfold pI;rw[if_pos rfl]
  rw[e] at h4
  refine Am h4 fun p hp=> ?_
  have:=h3 p hp
  rw[if_pos rfl] at this
  exact this
 |k+1,lo,h,n,o=>by
  obtain⟨h1,_,_,h4⟩:=o
  rw[b7] at h4
  have:=rM (fun o=>nK o) (lo:=lo) h4 fun p hp=>by
   cases hi:its n with
   |nil=>exact absurd hi h1
   |cons a l=>rw[hi] at hp;cases hp;exact le_refl _
  rw[gR] at this
  exact this
theorem qd {k:Nat} {lo:Tx} {h:Option Tx} {A B:List (Tx×E (k+1))} {kc key:Tx} {c:E (k+1)} (o:Rw (k+1) lo h (A++(kc,c)::B)) (h1:le kc key) (h2:∀b B',B=b::B'→lt key b.1=true):(∀p∈bE (k+1) A,lt p.1 key=true)∧∀p∈bE (k+1) B,lt key p.1=true:=by
 obtain⟨_,h4⟩:=o
 rw[b7,ju] at h4
 obtain⟨s1,s2,_⟩:=bT.sV h4
 constructor
 ·intro p hp
  cases A with
  |nil=>rw[iH] at hp;cases hp
  |cons a A=>
   have o1:=rM (fun o=>nK o) (lo:=lo) s1 fun p hp=>by cases hp;exact le_refl _
   rw[gR] at o1
   exact lt_of_lt_of_le (o1.high p hp) h1
 ·intro p hp
  cases B with
  |nil=>rw[iH] at hp;cases hp
  |cons b B=>
   have o2:=rM (fun o=>nK o) (lo:=b.1) (bT.tail s2) fun p hp=>by cases hp;exact le_refl _
   exact lt_of_lt_of_le (h2 b B rfl) (o2.low p hp)
end Tr
end Go.Proofs.YtloekpcncjocaaaGreatDoor
namespace Go.Proofs.YtloekpcncjocaaaGreatDoor
open Go.RowKit Lib
theorem Cq {its:List It} (hs:Gf its) (hne:0<its.length) (h0:(its[0]).key=[]) (key:List UInt8):∃a:Nat,mN its key=(a:Int)∧∃ha:a<its.length,Tr.le (its[a]).key key∧∀j (hj:j<its.length),a<j→Tr.lt key (its[j]).key=true:=by
 obtain⟨p,hp⟩:∃p,p=posOf its key:=⟨_,rfl⟩
 have La:=su its key
 rw[←hp] at La
 have hbel:∀t (h:t<its.length),t<p→Tr.lt (its[t]).key key=true:=by
  intro t h ht
  have h1:t<(its.takeWhile fun i=>Tr.lt i.key key).length:=by rw[hp] at ht;exact ht
  have h2:=List.all_eq_true.1 (List.all_takeWhile (p:=fun i:It=>Tr.lt i.key key) (l:=its)) _ (List.getElem_mem h1)
  have h3:(its.takeWhile fun i=>Tr.lt i.key key)[t]=its[t]:=List.IsPrefix.getElem (List.takeWhile_prefix _) h1
  rw[h3] at h2
  exact h2
 have hat:∀h:p<its.length,Tr.lt (its[p]).key key=false:=by
  intro h
  have e:its=its.takeWhile (fun i=>Tr.lt i.key key)++its.dropWhile (fun i=>Tr.lt i.key key):=(List.takeWhile_append_dropWhile).symm
  have hd:its.dropWhile (fun i=>Tr.lt i.key key)≠[]:=by
   intro hd
   have:=congrArg List.length e
   rw[hd,List.append_nil] at this
   unfold posOf at hp
   omega
  have h1:=List.head_dropWhile_not (p:=fun i:It=>Tr.lt i.key key) (l:=its) hd
  have h2:(its.dropWhile (fun i=>Tr.lt i.key key)).head hd=its[p]:=by
   have h3:its[p]?=some ((its.dropWhile (fun i=>Tr.lt i.key key)).head hd):=by
    conv=>lhs;rw[e]
    rw[List.getElem?_append_right (by rw[hp];exact Nat.le_refl _),hp]
    unfold posOf
    rw[Nat.sub_self,←List.head?_eq_getElem?,List.head?_eq_some_head hd]
   rw[List.getElem?_eq_getElem h] at h3
   exact (Option.some.inj h3).symm
  rw[h2] at h1
  simpa using h1
 have MI:∀i j (hi:i<its.length) (hj:j<its.length),i<j→Tr.lt (its[i]).key (its[j]).key=true:=fun i j hi hj hij=>List.pairwise_iff_getElem.1 hs i j hi hj hij
 by_cases ht:cE its key=true
 ·have bY:p<its.length∧∀h:p<its.length,(its[p]).key=key:=by
   unfold cE at ht
   rw[←hp] at ht
   rcases Nat.lt_or_ge p its.length with h|h
   ·rw[List.getElem?_eq_getElem h] at ht
    exact⟨h,fun _=>of_decide_eq_true ht⟩
   ·rw[List.getElem?_eq_none h] at ht;cases ht
  refine⟨p,by unfold mN;rw[if_pos ht,hp],bY.1,by rw[bY.2 bY.1];exact Tr.le_refl _,fun j hj QN=> ?_⟩
  have:=MI p j bY.1 hj QN
  rwa [bY.2 bY.1] at this
 ·have hp1:1≤p:=by
   rcases Nat.eq_zero_or_pos p with h|h
   ·exfalso
    have h1:=hat (by omega)
    subst h
    rw[h0] at h1
    have hk:key=[]:=by
     cases key with
     |nil=>rfl
     |cons _ _=>cases h1
    apply ht
    unfold cE
    rw[←hp,List.getElem?_eq_getElem hne]
    exact decide_eq_true (by rw[h0,hk])
   ·exact h
  have qW:∀h:p<its.length,(its[p]).key≠key:=by
   intro h e
   apply ht
   unfold cE
   rw[←hp,List.getElem?_eq_getElem h]
   exact decide_eq_true e
  refine⟨p-1,by unfold mN;rw[if_neg ht,←hp];omega,by omega,Tr.le_of_lt (hbel (p-1) (by omega) (by omega)),fun j hj QN=> ?_⟩
  have bY:p<its.length:=by omega
  have h1:Tr.lt key (its[p]).key=true:=by
   cases h:Tr.lt key (its[p]).key with
   |true=>rfl
   |false=>exact absurd (Tr.ff _ _ (hat bY) h) (qW bY)
  rcases Nat.lt_or_ge p j with h2|h2
  ·exact Tr.lt_trans h1 (MI p j bY hj h2)
  ·obtain rfl:j=p:=by omega
   exact h1
section
variable {E:Ev} {X0 X X' V w:World} {R0 R R':Nat→Prop} {ps:List (Nat×List UInt8)} {pg:List (Option Wl.Text)} {rt:List Nat} {M M':Nat→Option NV} {K:Nat} {T:Tr.E (K+1)} {key:List UInt8}
structure ep (E:Ev) (X0:World) (R0:Nat→Prop) (ps:List (Nat×List UInt8)) (pg:List (Option Wl.Text)) (rt:List Nat) (key:List UInt8) (K:Nat) (T:Tr.E (K+1)) (lv q:Nat) (pv:Value) (X:World) (R:Nat→Prop) (M:Nat→Option NV) (m:NV) (c:Tr.E (lv+1)) (path:List Nat) (pre post:List (Tr.Tx×Tr.Tx)) (out:List Nat) (rl:List Nat):Prop where
 ts:TS E X0 R0 R ps pg rt M X
 above:fH M pg lv q m.lo m.hi c K T path pre post out
 i_:M q=some m
 jA:iC pg lv m c
 its:m.its=af lv (Tr.its c)
 own:m.own=true
 was:m.was=Tr.sz lv (Tr.its c)
 st:bM pg (lv+1) c
 ok:Tr.Ok (lv+1) m.lo (gD m.hi) c
 nd:(path++[q]).Nodup
 row:sU X0.heap.size X pv rl
 yg:∀b,pv.ownBlock=some b→R b∧¬MB M b
 Og:∀p∈pre,Tr.lt p.1 key=true
 Oh:∀p∈post,Tr.lt key p.1=true
 uP:K≤15
 Lb:Tr.le m.lo key
 Lc:Tr.qB key (gD m.hi)
def Dl (E:Ev) (X0:World) (R0:Nat→Prop) (ps:List (Nat×List UInt8)) (pg:List (Option Wl.Text)) (rt:List Nat) (key:List UInt8) (K:Nat) (T:Tr.E (K+1)) (lv q:Nat) (pv:Value) (X:World):Prop:=
 ∃R M m c path pre post out,ep E X0 R0 ps pg rt key K T lv q pv X R M m c path pre post out (q::path).reverse
def IA (E:Ev) (X0:World) (R0:Nat→Prop) (ps:List (Nat×List UInt8)) (pg:List (Option Wl.Text)) (rt:List Nat) (key:List UInt8) (K:Nat) (T:Tr.E (K+1)) (lv q:Nat) (pv:Value) (X:World):Prop:=
 ∃R M m c path pre post out,ep E X0 R0 ps pg rt key K T lv q pv X R M m c path pre post out path.reverse
theorem E7 {lv q:Nat} {pw:Value} {R:Nat→Prop} {M:Nat→Option NV} {m:NV} {c:Tr.E (lv+1+1)} {path:List Nat} {pre post:List (Tr.Tx×Tr.Tx)} {out:List Nat} (f:ep E X0 R0 ps pg rt key K T (lv+1) q pw X R M m c path pre post out (q::path).reverse):
  Calls Tryz.prog 58 #[ptr q,.string (bs key)] X fun e X'=>∃a:Nat,e=.returned (.int .i64 a)∧(∃v,X'.cell? ⟨q,6,none⟩=some v)∧X'.frozen? ⟨q,6,none⟩=false∧
   Calls Tryz.prog 59 #[ptr E.tb,ptr q,.int .i64 a] (X'.setCell ⟨q,6,none⟩ (.int .i64 a)) fun e eu=>∃q' jr,e=.returned (.tuple #[ptr q',.int .i64 0])∧jr<lv+1∧IA E X0 R0 ps pg rt key K T jr q' pw eu:=by
 have hnd:=f.ts.mem.nd q m f.i_
 have hkeys:=(fD f.ok.2.2).1
 have hlen:m.its.length=(Tr.its c).length:=by rw[f.its];exact List.length_map _
 have hne:0<(Tr.its c).length:=List.length_pos_iff.2 f.ok.1
 have Ao:Gf m.its:=sZ (by rw[f.its,bV];exact hkeys)
 have Oi:∀j (h:j<m.its.length),(m.its[j]).key=((Tr.its c)[j]'(by omega)).1:=fun j h=>by
  have e:m.its[j]?=some ⟨((Tr.its c)[j]'(by omega)).1,cg (lv+1) ((Tr.its c)[j]'(by omega)).2,none⟩:=by
   rw[f.its]
   unfold af
   rw[List.getElem?_map,List.getElem?_eq_getElem (by omega)]
   rfl
  rw[List.getElem?_eq_getElem h] at e
  rw[Option.some.inj e]
 have mK:(m.its[0]'(by omega)).key=[]:=by
  rw[Oi 0 (by omega)]
  have:=f.ok.2.2.1 ((Tr.its c)[0]) (by rw[List.head?_eq_getElem?,List.getElem?_eq_getElem hne])
  rwa [if_neg (Nat.succ_ne_zero lv)] at this
 obtain⟨a,oP,ha,hle,hgt⟩:=Cq Ao (by omega) mK key
 have hat:a<(Tr.its c).length:=by omega
 refine (sA hnd Ao key).mono ?_
 rintro e X' ⟨rfl,hb⟩
 have hts:=f.ts.still hb (fun _ h=>h) (fun _ h=>.inl h)
 have lC:=hnd.still hb
 rw[oP]
 refine⟨a,rfl,⟨_,lC.c6⟩,lC.blk.frozen 6, ?_⟩
 obtain⟨n1,hn1⟩:∃n1:NV,n1={m with at_:=(a:Int)}:=⟨_,rfl⟩
 have aQ:aj (fun b=>b=q) X' (X'.setCell ⟨q,6,none⟩ (.int .i64 a)):=(aj.refl (fun b=>b=q) X').setCell _ _ fun _=>rfl
 have Rz:∀b,MB (upd M q n1) b→MB M b:=by
  rintro b ⟨r,y,hr,hk⟩
  rcases ak hr with⟨rfl,rfl⟩|⟨_,hr⟩
  ·exact⟨_,m,f.i_,by rw[hn1] at hk;exact hk⟩
  ·exact⟨r,y,hr,hk⟩
 have mE:TS E X0 R0 R ps pg rt (upd M q n1) (X'.setCell ⟨q,6,none⟩ (.int .i64 a)):=hts.own aQ (fun b _ e=>by rw[e];exact hts.gM q ⟨q,m,f.i_,.inl rfl⟩) (hts.mem.cell f.i_ n1 6 _ (by rw[hn1]) (by rw[hn1]) (by rw[hn1]) (by rw[hn1]) (by rw[hn1]) (by rw[hn1];rfl)) (fun b hb=>hts.gM b (Rz b hb)) (fun _ h=>h) (fun _ h=>.inl h)
 obtain⟨A,kc,c',B,hc,Uy⟩:∃A kc c' B,Tr.its c=A++(kc,c')::B∧A.length=a:=⟨(Tr.its c).take a,((Tr.its c)[a]).1,((Tr.its c)[a]).2,(Tr.its c).drop (a+1),by rw[show (((Tr.its c)[a]).1,((Tr.its c)[a]).2)=(Tr.its c)[a] from rfl,List.getElem_cons_drop,List.take_append_drop],by rw[List.length_take];omega⟩
 subst Uy
 have RA:(Tr.its c)[A.length]=(kc,c'):=by
  have e:(Tr.its c)[A.length]?=some (kc,c'):=by rw[hc,List.getElem?_append_right (Nat.le_refl _),Nat.sub_self];rfl
  rw[List.getElem?_eq_getElem hat] at e
  exact Option.some.inj e
 have Ap:bM pg (lv+1) c':=f.st.2.2 (kc,c') (by rw[hc];exact List.mem_append.2 (.inr List.mem_cons_self))
 have fZ:∀x,x∈A∨x∈B→bM pg (lv+1) x.2:=fun x hx=>f.st.2.2 x (by
  rw[hc]
  rcases hx with hx|hx
  ·exact List.mem_append.2 (.inl hx)
  ·exact List.mem_append.2 (.inr (List.mem_cons_of_mem _ hx)))
 obtain⟨page,bD,mB,-⟩:=Ap.1
 have yh:n1.its=af (lv+1) A++⟨kc,cg (lv+1) c',none⟩::af (lv+1) B:=by
  rw[hn1]
  show m.its=_
  rw[f.its,hc,bW]
  rfl
 have Wf:(af (lv+1) A).length=A.length:=List.length_map _
 have hjn:A.length<n1.its.length:=by rw[yh,List.length_append,List.length_cons,Wf];omega
 have IB:n1.its[A.length]=⟨kc,cg (lv+1) c',none⟩:=by
  have e:n1.its[A.length]?=some ⟨kc,cg (lv+1) c',none⟩:=by rw[yh,List.getElem?_append_right (by omega),Wf,Nat.sub_self];rfl
  rw[List.getElem?_eq_getElem hjn] at e
  exact Option.some.inj e
 have Wg:lv≤15:=by
  have:=f.above.level
  have:=f.uP
  omega
 have Hr:n1.its.map It.key=(Tr.its c).map (·.1):=by rw[hn1];show m.its.map It.key=_;rw[f.its,bV]
 have E8:n1.lo=m.lo∧n1.hi=m.hi:=by rw[hn1];exact⟨rfl,rfl⟩
 have gF:Tr.Ok (lv+1) (cZ n1 A.length) (gD (cL n1 A.length)) c':=jw (n:=n1) (t:=c) (key:=kc) (by rw[E8.1,E8.2];exact f.ok.near) hc Hr
 have jx:=eP Wg Ap bD gF
 have hval:n1.its[A.length].val=pv page:=by
  rw[IB]
  show pv ((Tr.hd c').page.getD 0)=_
  rw[bD];rfl
 refine (p7 mE (aM _ _ _) A.length hjn (by rw[IB]) page mB hval lv (by rw[hn1];exact f.jA.level) (af lv (Tr.its c')) jx).mono ?_
 rintro e eu ⟨q',rg,cap,R',rfl,tT,KO,KP,ig,hR,vI⟩
 have mC:n1.its.set A.length {(n1.its.getD A.length ⟨[],[],none⟩) with node:=some q'}=af (lv+1) A++⟨kc,cg (lv+1) c',some q'⟩::af (lv+1) B:=by
  have hg:n1.its.getD A.length ⟨[],[],none⟩=⟨kc,cg (lv+1) c',none⟩:=by rw[List.getD_eq_getElem?_getD,List.getElem?_eq_getElem hjn];exact IB
  rw[hg,yh,List.set_append_right _ _ (by omega),Wf,Nat.sub_self]
  rfl
 rw[mC] at tT
 dsimp only at tT
 have PE:(X'.setCell ⟨q,6,none⟩ (.int .i64 A.length)).heap.size=X'.heap.size:=World.size_setCell _ _ _
 have Da:=(mE.mem.lt (p:=q) (n:=n1) (aM _ _ _)).1
 have YV:q'≠q:=by omega
 obtain⟨n2,hn2⟩:∃n2:NV,n2={n1 with its:=af (lv+1) A++⟨kc,cg (lv+1) c',some q'⟩::af (lv+1) B}:=⟨_,rfl⟩
 obtain⟨m',hm'⟩:∃m':NV,m'=NV.got lv (af lv (Tr.its c')) rg cap page (cZ n1 A.length) (cL n1 A.length):=⟨_,rfl⟩
 rw[←hn2,←hm'] at tT
 have RB:n2.its.map It.key=n1.its.map It.key:=by
  rw[hn2,yh]
  show (af (lv+1) A++⟨kc,cg (lv+1) c',some q'⟩::af (lv+1) B).map It.key=_
  rw[List.map_append,List.map_cons,List.map_append,List.map_cons]
 have hla:cZ n2 A.length=cZ n1 A.length:=v_ RB (by rw[hn2]) _
 have hha:cL n2 A.length=cL n1 A.length:=we RB (by rw[hn2]) _
 have Oj:∀r∈path,upd (upd (upd M q n1) q' m') q n2 r=M r:=fun r hr=>by
  have h1:r≠q:=fun e=>(List.nodup_append.1 f.nd).2.2 r hr q List.mem_cons_self e
  have h2:r≠q':=fun e=>by
   obtain⟨y,hy⟩:=f.above.dom r hr
   have:=(f.ts.mem.lt hy).1
   have:=hb.size
   omega
  rw[aA h1,aA h2,aA h1]
 have hcm:c=Tr.mk (Tr.hd c) (A++(kc,c')::B):=by rw[←hc];exact (Tr.M_ c).symm
 have hab:=f.above.frame Oj
 have uB:fH (upd (upd (upd M q n1) q' m') q n2) pg lv q' (cZ n2 A.length) (cL n2 A.length) c' K T (q::path) (pre++Tr.bE (lv+1) A) (Tr.bE (lv+1) B++post) ((Tr.hd c).page.toList++(Tr.b_ (lv+1) A++Tr.b_ (lv+1) B)++out):=by
  refine .up (n:=n2) (h:=Tr.hd c) (aM _ _ _) (by rw[hn2]) fZ (by rw[hn2,hn1];exact f.own) ?_ (by rw[hn2,hn1]) ?_ ?_ f.st.2.1 ?_
  ·rw[←hcm,hn2,hn1]
   exact⟨f.jA.level,f.jA.page,f.jA.fresh,f.jA.near,f.jA.held⟩
  ·rw[hn2,hn1,←hc];exact f.was
  ·rw[←hc];exact f.ok.2.1
  ·have e1:n2.lo=m.lo:=by rw[hn2,hn1]
   have e2:n2.hi=m.hi:=by rw[hn2,hn1]
   rw[←hcm,e1,e2]
   exact hab
 have RC:bz (af lv (Tr.its c'))=Tr.sz lv (Tr.its c'):=fB lv _
 have MJ:=wh (n:=n1) (A:=A) (B:=B) (key:=kc) (c:=c') (by rw[E8.1,E8.2,←hc];exact f.ok.2.2) (by rw[←hc];exact Hr)
 have RD:Tr.le kc key:=by
  have:=hle
  rw[Oi A.length ha,RA] at this
  exact this
 have hkb:∀b B',B=b::B'→Tr.lt key b.1=true:=fun b B' e=>by
  have hj:A.length+1<m.its.length:=by rw[hlen,hc,e];simp
  have:=hgt (A.length+1) hj (by omega)
  rw[Oi _ hj] at this
  have e2:(Tr.its c)[A.length+1]'(by omega)=b:=by
   have e3:(Tr.its c)[A.length+1]?=some b:=by rw[hc,e,List.getElem?_append_right (by omega),show A.length+1-A.length=1 by omega];rfl
   rw[List.getElem?_eq_getElem (by omega)] at e3
   exact Option.some.inj e3
  rwa [e2] at this
 have iq:=Tr.qd (key:=key) (A:=A) (B:=B) (kc:=kc) (c:=c') (by rw[←hc];exact f.ok.2.2) RD hkb
 have Pb:aj (fun b=>MB M b) X eu:=((aj.aq hb (fun b=>MB M b)).trans aQ (fun b _ e=>by rw[e];exact⟨q,m,f.i_,.inl rfl⟩)).trans ig (fun b _ e=>⟨q,m,f.i_,.inr (by rw[e,hn1])⟩)
 have KU:∀b,MB (upd (upd (upd M q n1) q' m') q n2) b→MB M b∨X.heap.size≤b:=by
  have hs:=hb.size
  rintro b ⟨r,y,hr,hk⟩
  rcases ak hr with⟨rfl,rfl⟩|⟨_,hr⟩
  ·exact .inl ⟨_,m,f.i_,by rw[hn2,hn1] at hk;exact hk⟩
  ·rcases ak hr with⟨rfl,rfl⟩|⟨_,hr⟩
   ·right
    rcases hk with rfl|hk
    ·omega
    ·rw[hm'] at hk
     have hk:b=rg:=hk
     omega
   ·exact .inl (Rz b ⟨r,y,hr,hk⟩)
 refine⟨q',lv,rfl,Nat.lt_succ_self lv,R',_,m',c',q::path,pre++Tr.bE (lv+1) A,Tr.bE (lv+1) B++post,(Tr.hd c).page.toList++(Tr.b_ (lv+1) A++Tr.b_ (lv+1) B)++out,⟨tT, ?_,by rw[aA YV,aM], ?_,by rw[hm'];rfl,by rw[hm'];rfl,by rw[hm'];show ((bz (af lv (Tr.its c')):Nat):Int)=_;rw[RC],Ap,by rw[hm'];exact gF, ?_, ?_,fun b aC=> ?_, ?_, ?_,f.uP, ?_, ?_⟩⟩
 ·have:m'.lo=cZ n2 A.length∧m'.hi=cL n2 A.length:=by rw[hm',hla,hha];exact⟨rfl,rfl⟩
  rw[this.1,this.2]
  exact uB
 ·rw[hm'];exact nB Ap bD gF
 ·refine List.nodup_append.2 ⟨?_,by simp,fun x hx y hy e=> ?_⟩
  ·have:=f.nd
   exact List.nodup_cons.2 ⟨fun h=>(List.nodup_append.1 this).2.2 q h q List.mem_cons_self rfl,(List.nodup_append.1 this).1⟩
  ·rw[List.mem_singleton.1 hy] at e
   rcases List.mem_cons.1 hx with hx|hx
   ·exact YV (by rw[←e,hx])
   ·obtain⟨z,hz⟩:=f.above.dom x hx
    have:=(f.ts.mem.lt hz).1
    have:=hb.size
    omega
 ·exact Own.but f.row Pb fun b aC hm=>(f.yg b aC).2 hm
 ·refine⟨hR b (f.yg b aC).1,fun hm=> ?_⟩
  rcases KU b hm with hm|hm
  ·exact (f.yg b aC).2 hm
  ·have:=(Own.block f.row b aC).2;omega
 ·intro p hp
  rcases List.mem_append.1 hp with hp|hp
  ·exact f.Og p hp
  ·exact iq.1 p hp
 ·intro p hp
  rcases List.mem_append.1 hp with hp|hp
  ·exact iq.2 p hp
  ·exact f.Oh p hp
 ·rw[hm']
  show Tr.le (cZ n1 A.length) key
  rw[MJ.1]
  split
  ·rw[E8.1];exact f.Lb
  ·exact RD
 ·rw[hm']
  show Tr.qB key (gD (cL n1 A.length))
  rw[MJ.2]
  cases hB:B with
  |nil=>show Tr.qB key (gD n1.hi);rw[E8.2];exact f.Lc
  |cons b B'=>exact hkb b B' hB
theorem Aq {lv q:Nat} {pw:Value} (h:IA E X0 R0 ps pg rt key K T lv q pw X):∃pl,sU 0 X pw pl∧pl.length≤100∧∀W Ld W',W=X.alloc (.cells #[.pointer (some ⟨q,0,none⟩)] 85)→sU 0 W' Ld (pl++[q])→W.grownBy W' pw.ownBlock→(Ld.ownBlock=pw.ownBlock∨∀k,Ld.ownBlock=some k→W.heap.size≤k)→Dl E X0 R0 ps pg rt key K T lv q Ld W':=by
 obtain⟨R,M,m,c,path,pre,post,out,f⟩:=h
 have ni:=f.above.level
 have hl:=f.uP
 refine⟨path.reverse,f.row.mono (Nat.zero_le _),by rw[List.length_reverse];omega,fun W Ld W' hW ho hg hw=> ?_⟩
 have aQ:Below X.heap.size X W:=by rw[hW];exact (Below.refl _ X).alloc (Nat.le_refl _) _
 have mE:=f.ts.still aQ (R':=R) (fun _ h=>h) (fun _ h=>.inl h)
 have aC:aj (fun b=>pw.ownBlock=some b) W W':=(aj.refl _ W).grown hg fun k e _=>e
 have hx0:∀b,pw.ownBlock=some b→X0.heap.size≤b:=fun b hb=>(Own.block f.row b hb).1
 have hmem:=mE.mem.keep aC fun b hb hs=>(f.yg b hs).2 hb
 have hlt:=Own.block ho
 have hsz:=aQ.size
 have hnew:∀b,Ld.ownBlock=some b→R b∨W.heap.size≤b:=fun b hb=>by
  rcases hw with e|e
  ·rw[e] at hb;exact .inl (f.yg b hb).1
  ·exact .inr (e b hb)
 have tT:TS E X0 R0 (fun b=>R b∨Ld.ownBlock=some b) ps pg rt M W':=mE.own aC (fun b _ hb=>⟨(f.yg b hb).1,hx0 b hb⟩) hmem (fun b hb=>⟨.inl (mE.gM b hb).1,(mE.gM b hb).2⟩) (fun _ h=>.inl h) (fun b hb=>by
  rcases hb with hb|hb
  ·exact .inl hb
  ·exact (hnew b hb).imp_right fun h=>⟨h,(hlt b hb).2⟩)
 have hrow:sU X0.heap.size W' Ld (q::path).reverse:=by
  rw[List.reverse_cons]
  refine⟨ho.1, ?_⟩
  rcases ho.2 with h|⟨g,cap,cur,h1,_,h3⟩
  ·exact .inl h
  ·refine .inr ⟨g,cap,cur,h1, ?_,h3⟩
   have hg':Ld.ownBlock=some g:=by rw[h1];rfl
   rcases hw with e|e
   ·exact hx0 g (by rw[←e];exact hg')
   ·have:=e g hg'
    have:=f.ts.but.size
    omega
 refine⟨_,M,m,c,path,pre,post,out,⟨tT,f.above,f.i_,f.jA,f.its,f.own,f.was,f.st,f.ok,f.nd,hrow,fun b hb=>⟨.inr hb,fun hm=> ?_⟩,f.Og,f.Oh,f.uP,f.Lb,f.Lc⟩⟩
 rcases hw with e|e
 ·rw[e] at hb;exact (f.yg b hb).2 hm
 ·have:=e b hb
  have:=f.ts.mem.iN hm
  omega
theorem o9 (h:TS E X0 R0 R ps pg rt (fun _=>none) w) (hk:E.place<16) {l:List (Tr.Tx×Tr.Tx)} {pages:List Nat} (hm:eC pg (rt.getD E.place 0) l pages) (key:List UInt8):
  Calls Tryz.prog 32 #[ptr E.tb,.string (bs key)] w fun e w'=>(e=.returned (.tuple #[.slice none 0 0,.int .i64 0])∧rt.getD E.place 0=0∧l=[]∧pages=[]∧Below w.heap.size w w')∨
   ∃(K:Nat) (T:Tr.E (K+1)) (q:Nat) (pw:Value),e=.returned (.tuple #[pw,.int .i64 0])∧l=Tr.bE K (Tr.its T)∧pages=Tr.bg (K+1) T∧pages.Nodup∧Dl E X0 R0 ps pg rt key K T 0 q pw w':=by
 rcases hm with⟨h0,h1,h2⟩|⟨K,T,page,h1,h2,h3,h4,h5,h6,h7,h8⟩
 ·refine (vQ (G0:=fun w'=>Below w.heap.size w w') (P:=fun _ _ _ _=>False) (Q:=fun _ _ _ _=>False) ⟨fun _ _ _ _ h=>h.elim,fun _ _ _ _ h=>h.elim⟩ ((lq h hk h0).mono fun e X hh=>.inl hh)).mono ?_
  rintro e w' (⟨rfl,hb⟩|⟨q,pw,_,hf⟩)
  ·exact .inl ⟨rfl,h0,h1,h2,hb⟩
  ·exact hf.elim
 ·have jx:=eP (lo:=[]) (hi:=[]) h3 h4 h2 h5
  have bY:page<pg.length:=aY (by rw[jx.page];rfl)
  have hF:XT E.tb (bs key) (Dl E X0 R0 ps pg rt key K T) (IA E X0 R0 ps pg rt key K T):=by
   refine⟨fun lv q pw X hp=> ?_,fun lv q pw X hq=>Aq hq⟩
   obtain⟨R',M,m,c,path,pre,post,out,f⟩:=hp
   have ni:=f.above.level
   have hl:=f.uP
   have c0:=(f.ts.mem.nd q m f.i_).c0
   rw[f.jA.level] at c0
   refine⟨c0,by omega,fun hpos=> ?_⟩
   cases lv with
   |zero=>cases hpos
   |succ lv=>exact E7 f
  refine (vQ (G0:=fun _=>False) hF ((lz h hk page K (af K (Tr.its T)) h1 jx bY).mono ?_)).mono ?_
  ·rintro e X ⟨p,rg,cap,R',rfl,hts,hb,hp,uy,hR,vI⟩
   right
   refine⟨p,K,rfl,fun W hW=> ?_⟩
   dsimp only at hts
   obtain⟨m,hm⟩:∃m,m=NV.got K (af K (Tr.its T)) rg cap page [] []:=⟨_,rfl⟩
   rw[←hm] at hts
   have aQ:Below X.heap.size X W:=by rw[hW];exact (Below.refl _ X).alloc (Nat.le_refl _) _
   have hsz:W.heap.size=X.heap.size+1:=by rw[hW,World.size_alloc]
   have mE:TS E X0 R0 (fun b=>R' b∨b=X.heap.size) ps pg rt (upd (fun _=>none) p m) W:=hts.still aQ (fun _ h=>.inl h) (fun b hb=>hb.imp_right fun e=>⟨by omega,by omega⟩)
   have hbk:aG W X.heap.size 85 [.pointer (some ⟨p,0,none⟩)]:=by rw[hW];exact aG.new X _ _
   have hap:fH (upd (fun _=>none) p m) pg K p m.lo m.hi T K T [] [] [] []:=by
    have e1:m.lo=[]:=by rw[hm];rfl
    have e2:m.hi=[]:=by rw[hm];rfl
    rw[e1,e2]
    exact .top
   refine⟨_,_,m,T,[],[],[],[],⟨mE,hap,aM _ _ _,by rw[hm];exact nB h4 h2 h5,by rw[hm];rfl,by rw[hm];rfl,by rw[hm];show ((bz (af K (Tr.its T)):Nat):Int)=_;rw[fB],h4,by rw[hm];exact h5,by simp, ?_,fun b hb=> ?_,fun _ h=>(by cases h),fun _ h=>(by cases h),h3,by rw[hm];exact Tr.nil_le _,by rw[hm];trivial⟩⟩
   ·refine⟨rfl,.inr ⟨X.heap.size,1,#[.pointer (some ⟨p,0,none⟩)],rfl,hts.but.size,hbk,Nat.le_refl _,by decide,rfl, ?_⟩⟩
    rfl
   ·have e:X.heap.size=b:=Option.some.inj hb
    subst e
    exact⟨.inr rfl,fun hm2=>by have:=hts.mem.iN hm2;omega⟩
  ·rintro e w' (⟨_,hf⟩|⟨q,pw,rfl,hf⟩)
   ·exact hf.elim
   ·exact .inr ⟨K,T,q,pw,rfl,h6,h7,h8,hf⟩
end
def dA {σ:Type} {k:Nat} (v:Tr.E (k+1)→σ→σ×Bool) (hi:Tr.Tx):List (Tr.Tx×Tr.E (k+1))→σ→σ×Bool
 |[],s=>(s,true)
 |p::l,s=>if (!hi.isEmpty&& !Tr.lt p.1 hi)=true then (s,true) else if (v p.2 s).2=true then dA v hi l (v p.2 s).1 else ((v p.2 s).1,false)
def visit {σ:Type} (f:(k:Nat)→Tr.E (k+1)→σ→σ×Bool) (lo hi:Tr.Tx):(k:Nat)→Tr.E (k+1)→σ→σ×Bool
 |0,c,s=>f 0 c s
 |k+1,c,s=>if (f (k+1) c s).2=true then dA (visit f lo hi k) hi ((Tr.its c).drop (mN (af (k+1) (Tr.its c)) lo).toNat) (f (k+1) c s).1 else ((f (k+1) c s).1,false)
theorem Ar {σ:Type} {f:(k:Nat)→Tr.E (k+1)→σ→σ×Bool} {lo hi:Tr.Tx} {k:Nat} {c:Tr.E (k+1)} {s:σ} (h:(f k c s).2=false):visit f lo hi k c s=((f k c s).1,false):=by
 cases k with
 |zero=>rw[←h];rfl
 |succ k=>unfold visit;rw[if_neg (by rw[h];decide)]
def tw:(k:Nat)→Tr.E (k+1)→Nat
 |0,c=>1+(Tr.its c).length
 |k+1,c=>1+(Tr.its c).length+((Tr.its c).map fun p=>tw k p.2).sum
def IC {k:Nat} (l:List (Tr.Tx×Tr.E (k+1))):Nat:=(l.map fun p=>tw k p.2).sum
theorem o_ {k:Nat} (p:Tr.Tx×Tr.E (k+1)) (l:List (Tr.Tx×Tr.E (k+1))):IC (p::l)=tw k p.2+IC l:=by unfold IC;rw[List.map_cons,List.sum_cons]
theorem tX {k:Nat}:∀(l:List (Tr.Tx×Tr.E (k+1))) (a:Nat),IC (l.drop a)≤IC l
 |[],a=>by rw[List.drop_nil];exact Nat.le_refl _
 |p::l,0=>Nat.le_refl _
 |p::l,a+1=>by
  rw[List.drop_succ_cons,o_]
  have:=tX l a
  omega
theorem wB {σ:Type} {k:Nat} {v:Tr.E (k+1)→σ→σ×Bool} {sz:σ→Nat} (h:∀c s,sz (v c s).1≤sz s+tw k c) (hi:Tr.Tx):∀(l:List (Tr.Tx×Tr.E (k+1))) (s:σ),sz (dA v hi l s).1≤sz s+IC l
 |[],s=>Nat.le_add_right _ _
 |p::l,s=>by
  unfold dA
  rw[o_]
  have h1:=h p.2 s
  have h2:=wB h hi l (v p.2 s).1
  split
  ·exact Nat.le_add_right _ _
  ·split
   ·omega
   ·show sz (v p.2 s).1≤_;omega
theorem As {σ:Type} {f:(k:Nat)→Tr.E (k+1)→σ→σ×Bool} {sz:σ→Nat} (h:∀k c s,sz (f k c s).1≤sz s+(1+(Tr.its c).length)) (lo hi:Tr.Tx):∀(k:Nat) (c:Tr.E (k+1)) (s:σ),sz (visit f lo hi k c s).1≤sz s+tw k c
 |0,c,s=>h 0 c s
 |k+1,c,s=>by
  have h1:=h (k+1) c s
  have h2:tw (k+1) c=1+(Tr.its c).length+IC (Tr.its c):=rfl
  unfold visit
  split
  ·have h3:=wB (As h lo hi k) hi ((Tr.its c).drop (mN (af (k+1) (Tr.its c)) lo).toNat) (f (k+1) c s).1
   have h4:=tX (Tr.its c) (mN (af (k+1) (Tr.its c)) lo).toNat
   omega
  ·show sz (f (k+1) c s).1≤_;omega
structure RE (pg:List (Option Wl.Text)) (k:Nat) (m:NV) (c:Tr.E (k+1)):Prop where
 level:m.level=k
 its:m.its=af k (Tr.its c)
 page:m.page=oQ (Tr.hd c).page
 st:bM pg (k+1) c
 ok:Tr.Ok (k+1) m.lo (gD m.hi) c
section
variable {E:Ev} {X0 X X' X1 X2 Y V w:World} {R0 R R' R1 R2:Nat→Prop} {ps:List (Nat×List UInt8)} {pg:List (Option Wl.Text)} {rt:List Nat} {M M' M1 M2:Nat→Option NV} {σ:Type} {s s1 s2:σ} {J:σ→(Nat→Prop)→(Nat→Option NV)→World→Prop} {f:(k:Nat)→Tr.E (k+1)→σ→σ×Bool} {fn:Nat} {caps:Array Value} {sz:σ→Nat} {lo hi:Tr.Tx}
structure Acc (E:Ev) (X0:World) (R0:Nat→Prop) (ps:List (Nat×List UInt8)) (pg:List (Option Wl.Text)) (rt:List Nat) (fn:Nat) (caps:Array Value) (f:(k:Nat)→Tr.E (k+1)→σ→σ×Bool) (sz:σ→Nat) (J:σ→(Nat→Prop)→(Nat→Option NV)→World→Prop):Prop where
 incr:∀k c s,sz (f k c s).1≤sz s+(1+(Tr.its c).length)
 enter:∀(W:World) (args:Array Value),Sem.run Tryz.prog (callFunc fn args) W=.ok (.enter fn args) W
 ts:∀s R M X,J s R M X→TS E X0 R0 R ps pg rt M X
 grow:∀s R M X R' M' X',J s R M X→TS E X0 R0 R' ps pg rt M' X'→Below X.heap.size X X'→(∀b,MB M' b→MB M b∨X.heap.size≤b)→(∀b,R b→R' b)→J s R' M' X'
 YW:∀s R M X q k m c,J s R M X→M q=some m→RE pg k m c→sz s≤100000000→Calls Tryz.prog fn (#[ptr q]++caps) X fun e X'=>e=.returned (.bool (f k c s).2)∧∃R',J (f k c s).1 R' M X'∧aj (fun b=>R b) X X'∧(∀b,R b→R' b)∧∀b,R' b→R b∨X.heap.size≤b
def yH (J:σ→(Nat→Prop)→(Nat→Option NV)→World→Prop) (R:Nat→Prop) (M:Nat→Option NV) (X:World) (s:σ) (X':World):Prop:=
 ∃R' M',J s R' M' X'∧aj (fun b=>R b) X X'∧(∀b,R b→R' b)∧(∀b,R' b→R b∨X.heap.size≤b)∧∀r y,M r=some y→M' r=some y
theorem yH.of (hj:J s R M X):yH J R M X s X:=⟨R,M,hj,aj.refl _ _,fun _ h=>h,fun _ h=>.inl h,fun _ _ h=>h⟩
theorem yH.back (h:yH J R M X1 s X2) (hb:Below X.heap.size X X1):yH J R M X s X2:=by
 obtain⟨R',M',hj,ig,h1,h2,h3⟩:=h
 exact⟨R',M',hj,(aj.aq hb (fun b=>R b)).trans ig (fun _ _ h=>h),h1,fun b aC=>(h2 b aC).imp_right fun h=>Nat.le_trans hb.size h,h3⟩
theorem Acc.below (A:Acc E X0 R0 ps pg rt fn caps f sz J) (h:yH J R M X s X1) (hb:Below X1.heap.size X1 X2):yH J R M X s X2:=by
 obtain⟨R',M',hj,ig,h1,h2,h3⟩:=h
 exact⟨R',M',A.grow _ _ _ _ _ _ _ hj ((A.ts _ _ _ _ hj).still hb (fun _ h=>h) (fun _ h=>.inl h)) hb (fun _ h=>.inl h) (fun _ h=>h),ig.trans (aj.aq hb (fun _=>False)) (fun _ _ f=>f.elim),h1,h2,h3⟩
theorem tY {k:Nat} {m:NV} {c:Tr.E (k+1)} (h:RE pg k m c):Gf m.its∧m.its.length=(Tr.its c).length∧∀j (hj:j<m.its.length) (hj':j<(Tr.its c).length),m.its[j]=⟨((Tr.its c)[j]).1,cg k ((Tr.its c)[j]).2,none⟩:=by
 refine⟨sZ (by rw[h.its,bV];exact (fD h.ok.2.2).1),by rw[h.its];exact List.length_map _,fun j hj hj'=> ?_⟩
 have e:m.its[j]?=some ⟨((Tr.its c)[j]).1,cg k ((Tr.its c)[j]).2,none⟩:=by
  rw[h.its]
  unfold af
  rw[List.getElem?_map,List.getElem?_eq_getElem hj']
  rfl
 rw[List.getElem?_eq_getElem hj] at e
 exact Option.some.inj e
theorem E9 {k q:Nat} {m:NV} {c:Tr.E (k+1+1)} (hts:TS E X0 R0 R ps pg rt M X) (hm:M q=some m) (h:RE pg (k+1) m c) (hk:k+1≤15) (a:Nat) (ha:a<(Tr.its c).length):
  Calls Tryz.prog 92 #[ptr E.tb,ptr q,.int .i64 a] X fun e X'=>∃q' m' R',e=.returned (.tuple #[ptr q',.int .i64 0])∧TS E X0 R0 R' ps pg rt (upd M q' m') X'∧Below X.heap.size X X'∧X.heap.size≤q'∧X.heap.size≤m'.rg∧RE pg k m' ((Tr.its c)[a]).2∧(∀b,R b→R' b)∧∀b,R' b→R b∨X.heap.size≤b:=by
 obtain⟨hs,hlen,fV⟩:=tY h
 have Jt:a<m.its.length:=by omega
 have Ap:bM pg (k+1) ((Tr.its c)[a]).2:=h.st.2.2 _ (List.getElem_mem ha)
 obtain⟨page,bD,mB,-⟩:=Ap.1
 have q_:Tr.Ok (k+1) (cZ m a) (gD (cL m a)) ((Tr.its c)[a]).2:=by
  have hc:Tr.its c=(Tr.its c).take a++(((Tr.its c)[a]).1,((Tr.its c)[a]).2)::(Tr.its c).drop (a+1):=by
   rw[show (((Tr.its c)[a]).1,((Tr.its c)[a]).2)=(Tr.its c)[a] from rfl,List.getElem_cons_drop,List.take_append_drop]
  have:=jw (n:=m) (t:=c) h.ok.near hc (by rw[h.its,bV])
  rwa [List.length_take,Nat.min_eq_left (Nat.le_of_lt ha)] at this
 have jx:=eP (by omega) Ap bD q_
 refine (lp hts hm a Jt page mB ?_ k h.level _ jx).mono ?_
 ·rw[fV a Jt ha]
  show pv ((Tr.hd ((Tr.its c)[a]).2).page.getD 0)=_
  rw[bD];rfl
 ·rintro e X' ⟨p,rg,cap,R',rfl,Ol,hb,hp,uy,h1,h2⟩
  exact⟨p,_,R',rfl,Ol,hb,hp,uy,⟨rfl,rfl,by rw[bD];rfl,Ap,q_⟩,h1,h2⟩
theorem ID (A:Acc E X0 R0 ps pg rt fn caps f sz J) (lo hi:Tr.Tx):∀(k:Nat) (c:Tr.E (k+1)) (m:NV) (q:Nat) (s:σ) (R:Nat→Prop) (M:Nat→Option NV) (X:World),k≤15→J s R M X→M q=some m→RE pg k m c→sz s+tw k c≤100000000→
  Calls Tryz.prog 71 #[ptr E.tb,ptr q,.agg #[.string (bs lo),.string (bs hi)],.func (.func fn) #[] caps] X fun e X'=>e=.returned (.tuple #[.bool (visit f lo hi k c s).2,.int .i64 0])∧yH J R M X (visit f lo hi k c s).1 X':=by
 intro k
 induction k with
 |zero=>
  intro c m q s R M X hk hj hm hn hB
  refine (vR (lv:=0) (G:=fun b X'=>b=(visit f lo hi 0 c s).2∧yH J R M X (visit f lo hi 0 c s).1 X') A.enter hk ?_).mono ?_
  ·intro W hW
   have hbW:Below X.heap.size X W:=by rw[hW];exact (Below.refl _ X).alloc (Nat.le_refl _) _
   have hts:=A.ts _ _ _ _ hj
   have RF:=A.grow _ _ _ _ R M W hj (hts.still hbW (fun _ h=>h) (fun _ h=>.inl h)) hbW (fun _ h=>.inl h) (fun _ h=>h)
   have Om:aG W X.heap.size 88 [.string (bs lo),.string (bs hi)]:=by rw[hW];exact aG.new X _ _
   refine (A.YW _ _ _ _ q 0 m c RF hm hn (by omega)).mono ?_
   rintro e X1 ⟨rfl,R1,On,aQ,h1,h2⟩
   have IE:yH J R M X (visit f lo hi 0 c s).1 X1:=⟨R1,M,On,(aj.aq hbW (fun b=>R b)).trans aQ (fun _ _ h=>h),h1,fun b hb=>(h2 b hb).imp_right fun h=>Nat.le_trans hbW.size h,fun _ _ h=>h⟩
   have hq:=((A.ts _ _ _ _ On).mem.nd q m hm).c0
   rw[hn.level] at hq
   refine⟨_,rfl,fun hf=>⟨hf.symm,IE⟩,fun ht=>⟨hq,(Om.but aQ fun h=>Nat.lt_irrefl _ (hts.Eh _ h)).cell (j:=0) rfl,fun _=>⟨ht.symm,IE⟩,fun h=>absurd h (Nat.lt_irrefl 0)⟩⟩
  ·rintro e w' ⟨b,rfl,rfl,h⟩
   exact⟨rfl,h⟩
 |succ k ih=>
  intro c m q s R M X hk hj hm hn hB
  obtain⟨hs,hlen,fV⟩:=tY hn
  refine (vR (lv:=k+1) (G:=fun b X'=>b=(visit f lo hi (k+1) c s).2∧yH J R M X (visit f lo hi (k+1) c s).1 X') A.enter hk ?_).mono ?_
  ·intro W hW
   have hbW:Below X.heap.size X W:=by rw[hW];exact (Below.refl _ X).alloc (Nat.le_refl _) _
   have hts:=A.ts _ _ _ _ hj
   have RF:=A.grow _ _ _ _ R M W hj (hts.still hbW (fun _ h=>h) (fun _ h=>.inl h)) hbW (fun _ h=>.inl h) (fun _ h=>h)
   have Om:aG W X.heap.size 88 [.string (bs lo),.string (bs hi)]:=by rw[hW];exact aG.new X _ _
   have YX:¬R X.heap.size:=fun h=>Nat.lt_irrefl _ (hts.Eh _ h)
   refine (A.YW _ _ _ _ q (k+1) m c RF hm hn (by omega)).mono ?_
   rintro e X1 ⟨rfl,R1,On,aQ,h1,h2⟩
   have IE:yH J R M W (f (k+1) c s).1 X1:=⟨R1,M,On,aQ,h1,h2,fun _ _ h=>h⟩
   have hx1:=Om.but aQ YX
   have jW:=(A.ts _ _ _ _ On).mem.nd q m hm
   have hq:=jW.c0
   rw[hn.level] at hq
   refine⟨_,rfl,fun hf=> ?_,fun ht=>⟨hq,hx1.cell (j:=0) rfl,fun h=>absurd h (Nat.succ_ne_zero k),fun _=> ?_⟩⟩
   ·rw[Ar hf];exact⟨rfl,IE.back hbW⟩
   ·have hne:0<(Tr.its c).length:=List.length_pos_iff.2 hn.ok.1
    have mK:(m.its[0]'(by omega)).key=[]:=by
     rw[fV 0 (by omega) hne]
     have:=hn.ok.2.2.1 ((Tr.its c)[0]) (by rw[List.head?_eq_getElem?,List.getElem?_eq_getElem hne])
     rwa [if_neg (Nat.succ_ne_zero k)] at this
    obtain⟨a,oP,ha,-,-⟩:=Cq hs (by omega) mK lo
    have Oo:visit f lo hi (k+1) c s=dA (visit f lo hi k) hi ((Tr.its c).drop a) (f (k+1) c s).1:=by
     conv=>lhs;unfold visit
     rw[if_pos ht,←hn.its,oP]
     rfl
    refine (sA jW hs lo).mono ?_
    rintro e X2 ⟨rfl,aC⟩
    rw[oP]
    have qU:=jW.small
    have Ta:m.its.length≤400:=qU.len
    refine⟨a,rfl,by omega,m.rg,m.ro,m.its.length,m.cap,fun a X'=>∃s',yH J R M W s' X'∧aG X' X.heap.size 88 [.string (bs lo),.string (bs hi)]∧a≤m.its.length∧dA (visit f lo hi k) hi ((Tr.its c).drop a) s'=visit f lo hi (k+1) c s∧sz s'+IC ((Tr.its c).drop a)≤100000000,Ta,⟨?_⟩,⟨_,A.below IE aC,hx1.below aC hx1.lt,by omega,Oo.symm, ?_⟩⟩
    rotate_left
    ·have h3:=A.incr (k+1) c s
     have h4:=tX (Tr.its c) a
     have h5:tw (k+1) c=1+(Tr.its c).length+IC (Tr.its c):=rfl
     omega
    rintro a X' ⟨s',Tb,hx,SP,Mo,Bv⟩
    obtain⟨R',M',hj',IF,g1,g2,g3⟩:=Tb
    have Tb:yH J R M W s' X':=⟨R',M',hj',IF,g1,g2,g3⟩
    have hnd:=(A.ts _ _ _ _ hj').mem.nd q m (g3 q m hm)
    have hbd:Below X'.heap.size X' X'.drew:=(Below.refl _ _).drew
    refine⟨hx.cell (j:=0) rfl,hx.cell (j:=1) rfl,hnd.c1,SP,hnd.small.cap.1,fun he=> ?_,fun hlt=> ?_⟩
    ·have:dA (visit f lo hi k) hi ((Tr.its c).drop a) s'=(s',true):=by rw[List.drop_eq_nil_of_le (by omega)];rfl
     rw[←Mo,this]
     exact⟨rfl,(A.below Tb hbd).back hbW⟩
    ·have hac:a<(Tr.its c).length:=by omega
     have hit:=(aH hnd.row a hlt).1
     have hkey:(m.its[a]).key=((Tr.its c)[a]).1:=by rw[fV a hlt hac]
     have tC:(Tr.its c).drop a=(Tr.its c)[a]::(Tr.its c).drop (a+1):=List.drop_eq_getElem_cons hac
     rw[tC,o_] at Bv
     refine⟨_,hit,(oq _ lo hi _).mono ?_⟩
     rintro e X3 ⟨rfl,cC⟩
     have GY:Below X'.heap.size X' X3:=hbd.trans (cC.mono (Nat.le_refl _))
     have Tc:=hx.below GY hx.lt
     have xM:=hnd.still GY
     refine⟨_,rfl,Tc.cell (j:=0) rfl,Tc.cell (j:=1) rfl,xM.c1,(aH xM.row a hlt).1,fun uA=> ?_,fun AR=> ?_⟩
     ·have:dA (visit f lo hi k) hi ((Tr.its c).drop a) s'=(s',true):=by
       rw[tC]
       unfold dA
       rw[if_pos (by rw[←hkey];exact uA)]
      rw[←Mo,this]
      exact⟨rfl,(A.below Tb GY).back hbW⟩
     ·have Ck:=(A.ts _ _ _ _ hj').still GY (fun _ h=>h) (fun _ h=>.inl h)
      have hj3:=A.grow _ _ _ _ R' M' X3 hj' Ck GY (fun _ h=>.inl h) (fun _ h=>h)
      refine (E9 Ck (g3 q m hm) hn hk a hac).mono ?_
      rintro e X4 ⟨q',m',R4,rfl,Wh,hb4,hq4,hr4,Be,h41,h42⟩
      have hmb:∀b,MB (upd M' q' m') b→MB M' b∨X3.heap.size≤b:=by
       rintro b ⟨r,y,hr,hkk⟩
       rcases ak hr with⟨rfl,rfl⟩|⟨_,hr⟩
       ·right
        rcases hkk with rfl|rfl<;>assumption
       ·exact .inl ⟨r,y,hr,hkk⟩
      have hj4:=A.grow _ _ _ _ R4 (upd M' q' m') X4 hj3 Wh hb4 hmb h41
      have Fy:=Tc.below hb4 Tc.lt
      refine⟨q',rfl,Fy.cell (j:=0) rfl,Fy.cell (j:=1) rfl,(ih ((Tr.its c)[a]).2 m' q' s' R4 _ X4 (by omega) hj4 (aM _ _ _) Be (by omega)).mono ?_⟩
      rintro e X5 ⟨rfl,R5,M5,Wi,cH,h51,h52,h53⟩
      have Ng:=GY.size
      have aaH:=hb4.size
      have aaI:=IF.size
      have Wj:∀b,R4 b→R b∨W.heap.size≤b:=fun b hb=>by
       rcases h42 b hb with h|h
       ·exact g2 b h
       ·right;omega
      have MK:yH J R M W (visit f lo hi k ((Tr.its c)[a]).2 s').1 X5:=by
       refine⟨R5,M5,Wi,((IF.trans (aj.aq GY (fun _=>False)) (fun _ _ f=>f.elim)).trans (aj.aq hb4 (fun _=>False)) (fun _ _ f=>f.elim)).trans cH (fun b El hb=> ?_),fun b hb=>h51 b (h41 b (g1 b hb)),fun b hb=> ?_,fun r y hr=> ?_⟩
       ·rcases Wj b hb with h|h
        ·exact h
        ·omega
       ·rcases h52 b hb with h|h
        ·exact Wj b h
        ·right;omega
       ·refine h53 r y ?_
        have h6:=g3 r y hr
        rw[aA (fun e=> ?_)]
        ·exact h6
        ·have:=(Ck.mem.lt h6).1
         omega
      have SH:aG X5 X.heap.size 88 [.string (bs lo),.string (bs hi)]:=by
       refine Fy.but cH fun h=> ?_
       rcases Wj _ h with h|h
       ·exact YX h
       ·have:=Om.lt;omega
      have hstep:dA (visit f lo hi k) hi ((Tr.its c).drop a) s'=if (visit f lo hi k ((Tr.its c)[a]).2 s').2=true then dA (visit f lo hi k) hi ((Tr.its c).drop (a+1)) (visit f lo hi k ((Tr.its c)[a]).2 s').1 else ((visit f lo hi k ((Tr.its c)[a]).2 s').1,false):=by
       rw[tC]
       conv=>lhs;unfold dA
       rw[if_neg (by rw[←hkey,AR];decide)]
      have hvs:=As A.incr lo hi k ((Tr.its c)[a]).2 s'
      refine⟨_,rfl,fun hvt=>⟨_,MK,SH,by omega, ?_,by omega⟩,fun hvf=> ?_⟩
      ·rw[←Mo,hstep,if_pos hvt]
      ·rw[←Mo,hstep,if_neg (by rw[hvf];decide)]
       exact⟨rfl,MK.back hbW⟩
  ·rintro e w' ⟨b,rfl,rfl,h⟩
   exact⟨rfl,h⟩
end
def IG (w:World) (cb:Nat) (sv:Value) (l:List Int) (e:Ending) (w':World):Prop:=
 e=.returned (.bool true)∧∃cM,aG w' cb 56 [cM]∧eo 0 w' cM l∧aj (fun k=>k=cb∨sv.ownBlock=some k) w w'∧(cM.ownBlock=sv.ownBlock∨∀k,cM.ownBlock=some k→w.heap.size≤k)
theorem E_ (w:World) (cb q:Nat) (sv:Value) (l:List Int) (n:NV) (hs:aG w cb 56 [sv]) (ho:eo 0 w sv l) (hn:Nd w q n) (hl:l.length≤100000000):
  Calls Tryz.prog 42 #[ptr q,ptr cb] w fun e w'=>IG w cb sv (l++[n.page]) e w':=by
 obtain⟨sa,sc,rfl,hsc⟩:=Own.slice ho
 obtain⟨sn,Ei⟩:∃sn,sn=l.length:=⟨_,rfl⟩
 rw[←Ei] at hs ho ⊢
 have c0:=hs.cell (j:=0) rfl
 have f0:=hs.frozen 0
 have q2:=hn.c2
 have q_:=hs.lt
 have bY:=hn.blk.lt
 have HO:=aa (And.intro ho (And.intro hs (And.intro hn hl)))
 clear hs ho hn hsc Ei hl
 go_enter Tryz.func42,Tryz.ntmps42
 unfold ptr
 go_wp2_with (refine wp_region_any (by kernel_rfl) ?_;refine Hid.out ?_)
 refine aa ?_
 try (change wpAny _ _ _ _ _ _ _ (World.drew _))
 refine tk 1 ?_
 refine tk 2 ?_
 refine tk 3 ?_
 try simp only[Act.put,List.setIfInBounds_toArray,List.set_cons_succ,List.set_cons_zero]
 refine rd [0,4] (AllReady.cons rfl (fun K hK=> ?_) (rn fun K hK=> ?_))
 focus
  go_simp
  refine hK _ _ ?_;clear hK K
  refine rd [4] (rn fun K hK=> ?_)
  go_simp
  refine hK _ _ ?_;clear hK K
  refine rd [5] (rn fun K hK=> ?_)
  go_simp
  refine hK _ _ ?_;clear hK K
 rotate_left
 focus
  go_simp
  refine hK _ _ ?_;clear hK K
  refine rd [0,5] (AllReady.cons rfl (fun K hK=> ?_) (rn fun K hK=> ?_))
  focus
   go_simp
   refine hK _ _ ?_;clear hK K
   refine rd [5] (rn fun K hK=> ?_)
   go_simp
   refine hK _ _ ?_;clear hK K
  rotate_left
  focus
   go_simp
   refine hK _ _ ?_;clear hK K
   refine rd [0] (rn fun K hK=> ?_)
   go_simp
   refine hK _ _ ?_;clear hK K
 all_goals
  try simp only[Act.put,List.setIfInBounds_toArray,List.set_cons_succ,List.set_cons_zero]
  have L8:eo 0 (w.drew.alloc (.cells #[.int .i64 n.page] 3)) (.slice sa sn sc) l:=Own.alloc (show eo 0 w.drew (.slice sa sn sc) l from HO.out.1) _
  have CR:aJ (cO .i64) (w.drew.alloc (.cells #[.int .i64 n.page] 3)) w.drew.heap.size 0 [n.page]:=aJ.dI (aG.new w.drew _ _) rfl
  have L5:aG (w.drew.alloc (.cells #[.int .i64 n.page] 3)) cb 56 [.slice sa sn sc]:=aG.alloc (show aG w.drew cb _ _ from HO.out.2.1) _
  have H3:=aa (And.intro L8 (And.intro CR L5))
  clear L8 CR L5
  refine rd [6] (rn fun K hK=> ?_)
  refine dN (K:=cO .i64) BP _ _ rfl rfl H3.out.1 (Nat.zero_le _) w.drew.heap.size 0 1 1 [n.page] rfl rfl H3.out.2.1 (show l.length+1≤1000000000 by have:=HO.out.2.2.2;omega) ?_;intro v5 w5 iB eN vL
  refine hK _ _ ?_;clear hK K
  have xg:World.grownBy _ w5 (Value.slice sa sn sc).ownBlock:=eN
  have GZ:v5.ownBlock=(Value.slice sa sn sc).ownBlock∨∀k,v5.ownBlock=some k→w.heap.size≤k:=vL.imp_right fun h k hk=>by have:=h k hk;simp only[World.size_drew,World.size_alloc] at this;omega
  have KC:aj (fun k=>(Value.slice sa sn sc).ownBlock=some k) w (w.drew.alloc (.cells #[.int .i64 n.page] 3)):=((aj.refl _ w).drew).alloc _
  have cH:=KC.grown xg fun k e _=>e
  have hne:=Own.bK HO.out.1 HO.out.2.1 (by decide)
  have hs5:=HO.out.2.1.but cH hne
  obtain⟨a5,jR,qX,qY⟩:=Own.slice iB
  have y_:=Own.bK iB hs5 (by decide)
  generalize (l++[n.page]).length=N5 at qX qY
  subst qX
  have c5:=hs5.cell (j:=0) rfl
  have f5:=hs5.frozen 0
  have HE:=aa (show IG w cb (.slice sa sn sc) (l++[n.page]) (.returned (.bool true)) (w5.setCell ⟨cb,0,none⟩ (.slice a5 N5 jR)) from
   ⟨rfl,_,hs5.set 0 _,Own.but iB ((aj.refl (fun k=>k=cb) w5).setCell _ _ fun _=>rfl) (fun k hk e=>y_ (by rw[hk,e])),(cH.mono (fun k _ e=>.inr e)).setCell _ _ (fun _=>.inl rfl),GZ⟩)
  clear iB eN xg vL GZ KC cH hne hs5 y_
  try simp only[Act.put,List.setIfInBounds_toArray]
  refine rd [7] (rn fun K hK=> ?_)
  go_simp
  refine hK _ _ ?_;clear hK K
  refine wpAny_done (by kernel_rfl) ?_ _
  go_wp2
  go_ret
  exact HE.out
theorem Fa (w:World) (cb q x:Nat) (n:NV) (hs:aG w cb 3 [.int .i64 x]) (hn:Nd w q n) (hx:x≤100000000) (_:n.level=0∨0<n.level):
  Calls Tryz.prog 50 #[ptr q,ptr cb] w fun e w'=>e=.returned (.bool true)∧aG w' cb 3 [.int .i64 (x+(if n.level=0 then n.its.length else 0):Nat)]∧aj (fun b=>b=cb) w w':=by
 have c0:=hs.cell (j:=0) rfl
 have f0:=hs.frozen 0
 have Ta:=hn.small.len
 have HN:=aa (And.intro hn Ta)
 have HC:=aa hs
 have hxI:(x:Int)≤100000000:=by omega
 have gz:(n.its.length:Int)≤400:=by omega
 clear hs hn hx Ta
 go_enter Tryz.func50,Tryz.ntmps50
 unfold ptr
 by_cases h0:n.level=0
 ·simp only[h0,if_pos]
  have Wk:((x+n.its.length:Nat):Int)=(x:Int)+n.its.length:=by omega
  have hwr:IntKind.i64.wrap ((x:Int)+n.its.length)=(x:Int)+n.its.length:=by rw[IntKind.wrap_i64];omega
  go_wp2_with (refine wp_region_any (by kernel_rfl) ?_;refine Hid.out ?_)
  refine aa ?_
  try (change wpAny _ _ _ _ _ _ _ (World.drew _))
  refine tk 1 ?_
  try simp only[Act.put,List.setIfInBounds_toArray,List.set_cons_succ,List.set_cons_zero]
  refine rd [0,2] (AllReady.cons rfl (fun K hK=> ?_) (rn fun K hK=> ?_))
  focus
   go_simp
   refine hK _ _ ?_;clear hK K
   refine rd [2] (rn fun K hK=> ?_)
   go_simp
   refine (g9 (show Nd w.drew q n from HN.out.1.drew)).mono ?_
   rintro e w' ⟨he,rfl⟩
   first|rw[if_pos h0] at he|rw[if_neg h0] at he
   subst he
   refine hK _ _ ?_;clear hK K
   refine rd [3] (rn fun K hK=> ?_)
   go_simp
   refine hK _ _ ?_;clear hK K
  rotate_left
  focus
   go_simp
   refine (g9 (show Nd w.drew q n from HN.out.1.drew)).mono ?_
   rintro e w' ⟨he,rfl⟩
   first|rw[if_pos h0] at he|rw[if_neg h0] at he
   subst he
   refine hK _ _ ?_;clear hK K
   refine rd [0,3] (AllReady.cons rfl (fun K hK=> ?_) (rn fun K hK=> ?_))
   focus
    go_simp
    refine hK _ _ ?_;clear hK K
    refine rd [3] (rn fun K hK=> ?_)
    go_simp
    refine hK _ _ ?_;clear hK K
   rotate_left
   focus
    go_simp
    refine hK _ _ ?_;clear hK K
    refine rd [0] (rn fun K hK=> ?_)
    go_simp
    refine hK _ _ ?_;clear hK K
  all_goals
   try simp only[Act.put,List.setIfInBounds_toArray,List.set_cons_succ,List.set_cons_zero]
   refine tk 4 ?_
   try simp only[Act.put,List.setIfInBounds_toArray,List.set_cons_succ,List.set_cons_zero]
   refine rd [5] (rn fun K hK=> ?_)
   go_simp
   refine hK _ _ ?_;clear hK K
   refine wpAny_done (by kernel_rfl) ?_ _
   go_wp2
   go_ret
   rw[Wk]
   exact⟨rfl,(HC.out.set 0 _).drew,((aj.refl (fun b=>b=cb) w).setCell _ _ fun _=>rfl).drew⟩
 ·simp only[h0,if_false]
  have Wk:((x+0:Nat):Int)=(x:Int):=by omega
  have hwr:IntKind.i64.wrap (x:Int)=(x:Int):=by rw[IntKind.wrap_i64];omega
  go_wp2_with (refine wp_region_any (by kernel_rfl) ?_;refine Hid.out ?_)
  refine aa ?_
  try (change wpAny _ _ _ _ _ _ _ (World.drew _))
  refine tk 1 ?_
  try simp only[Act.put,List.setIfInBounds_toArray,List.set_cons_succ,List.set_cons_zero]
  refine rd [0,2] (AllReady.cons rfl (fun K hK=> ?_) (rn fun K hK=> ?_))
  focus
   go_simp
   refine hK _ _ ?_;clear hK K
   refine rd [2] (rn fun K hK=> ?_)
   go_simp
   refine (g9 (show Nd w.drew q n from HN.out.1.drew)).mono ?_
   rintro e w' ⟨he,rfl⟩
   first|rw[if_pos h0] at he|rw[if_neg h0] at he
   subst he
   refine hK _ _ ?_;clear hK K
   refine rd [3] (rn fun K hK=> ?_)
   go_simp
   refine hK _ _ ?_;clear hK K
  rotate_left
  focus
   go_simp
   refine (g9 (show Nd w.drew q n from HN.out.1.drew)).mono ?_
   rintro e w' ⟨he,rfl⟩
   first|rw[if_pos h0] at he|rw[if_neg h0] at he
   subst he
   refine hK _ _ ?_;clear hK K
   refine rd [0,3] (AllReady.cons rfl (fun K hK=> ?_) (rn fun K hK=> ?_))
   focus
    go_simp
    refine hK _ _ ?_;clear hK K
    refine rd [3] (rn fun K hK=> ?_)
    go_simp
    refine hK _ _ ?_;clear hK K
   rotate_left
   focus
    go_simp
    refine hK _ _ ?_;clear hK K
    refine rd [0] (rn fun K hK=> ?_)
    go_simp
    refine hK _ _ ?_;clear hK K
  all_goals
   try simp only[Act.put,List.setIfInBounds_toArray,List.set_cons_succ,List.set_cons_zero]
   refine tk 4 ?_
   try simp only[Act.put,List.setIfInBounds_toArray,List.set_cons_succ,List.set_cons_zero]
   refine rd [5] (rn fun K hK=> ?_)
   go_simp
   refine hK _ _ ?_;clear hK K
   refine wpAny_done (by kernel_rfl) ?_ _
   go_wp2
   go_ret
   rw[Wk]
   exact⟨rfl,(HC.out.set 0 _).drew,((aj.refl (fun b=>b=cb) w).setCell _ _ fun _=>rfl).drew⟩
structure Wm (key:ByteArray) (L:Nat→Nat→Nat→Nat→World→Prop) (G:Option (List UInt8)→World→Prop):Prop where
 search:∀q pr n cap X,L q pr n cap X→X.cell? ⟨pr,n,none⟩=some (.pointer (some ⟨q,0,none⟩))∧n≤100∧Calls Tryz.prog 33 #[ptr q,.string key] X fun e X'=>
  (∃a:Nat,e=.returned (.tuple #[.int .i64 a,.bool false])∧G none X')∨
  (∃(a g o n' c':Nat) (v0:List UInt8),e=.returned (.tuple #[.int .i64 a,.bool true])∧a<n'∧n'≤400∧X'.cell? ⟨q,1,none⟩=some (.slice (some ⟨g,o,none⟩) n' c')∧X'.cell? ⟨g,o+a*3+1,none⟩=some (.string (bs v0))∧v0.length≤200∧∀eu,Below X'.heap.size X' eu→G (some v0) eu)
structure Wn (tb:Nat) (key:ByteArray) (L:Nat→Nat→Nat→Nat→World→Prop) (N:World→Prop) (G:Int→World→Prop):Prop where
 search:∀q pr n cap X,L q pr n cap X→X.cell? ⟨pr,n,none⟩=some (.pointer (some ⟨q,0,none⟩))∧n≤100∧Calls Tryz.prog 33 #[ptr q,.string key] X fun e X'=>
  (∃a:Nat,e=.returned (.tuple #[.int .i64 a,.bool false])∧N X')∨
  (∃(a g n' c':Nat),e=.returned (.tuple #[.int .i64 a,.bool true])∧a<n'∧n'≤400∧X'.cell? ⟨q,1,none⟩=some (.slice (some ⟨g,0,none⟩) n' c')∧
   Calls Tryz.prog 36 #[.slice (some ⟨g,0,none⟩) n' c',.int .i64 a,.int .i64 (a+1:Nat)] X' fun e eu=>∃(Td:Nat) (v:Value),e=.returned v∧v=.slice (some ⟨g,0,none⟩) Td c'∧(∃u,eu.cell? ⟨q,1,none⟩=some u)∧eu.frozen? ⟨q,1,none⟩=false∧
    Calls Tryz.prog 35 #[ptr tb,.slice (some ⟨pr,0,none⟩) (n+1) cap] (eu.setCell ⟨q,1,none⟩ v) fun e w'=>∃c:Int,e=.returned (.int .i64 c)∧G c w')
section
variable {w:World} {tb:Nat}
theorem II {key:ByteArray} {L:Nat→Nat→Nat→Nat→World→Prop} {G:Option (List UInt8)→World→Prop} (hW:Wm key L G)
  (hF:Calls Tryz.prog 32 #[ptr tb,.string key] w fun e X=>(e=.returned (.tuple #[.slice none 0 0,.int .i64 0])∧G none X)∨
   ∃q pr n cap,e=.returned (.tuple #[.slice (some ⟨pr,0,none⟩) (n+1) cap,.int .i64 0])∧L q pr n cap X):
  Calls Tryz.prog 18 #[ptr tb,.string key] w fun e w'=>∃v:Option (List UInt8),e=.returned (.tuple #[.string (bs (v.getD [])),.bool v.isSome,.int .i64 0])∧G v w':=by
 have HW:=aa hW
 have HF:=aa hF
 clear hW hF
 unfold ptr at HW HF ⊢
 go_enter Tryz.func18,Tryz.ntmps18
 go_wp2_with fail
 refine HF.out.mono ?_
 rintro e X (⟨rfl,hG⟩|⟨q,pr,n,cap,rfl,hL⟩)
 ·have HG:=aa hG
  clear hG
  go_wp2_with fail
  go_ret3
  exact⟨none,rfl,HG.out⟩
 ·have HL:=aa hL
  clear hL
  obtain⟨p0,Dm,vA⟩:=HW.out.search _ _ _ _ _ HL.out
  have LX:(n:Int)≤100:=by omega
  have ES:=aa vA
  clear vA
  go_wp2_with fail
  clear p0
  refine ES.out.mono ?_
  rintro e X2 (⟨a,rfl,hG⟩|⟨a,g,o,n',c',v0,rfl,RG,Be,c1,i1,RH,hG⟩)
  ·have HG:=aa hG
   clear hG
   go_wp2_with fail
   go_ret3
   exact⟨none,rfl,HG.out⟩
  ·have IJ:(a:Int)<n':=by omega
   have IK:(n':Int)≤400:=by omega
   have HG:=aa hG
   clear hG
   go_wp2_with fail
   refine (fT (bs v0) X2 (by rw[aB];omega)).mono ?_
   rintro e X3 ⟨rfl,hb⟩
   have HB:=aa hb
   clear hb c1 i1
   go_wp2_with fail
   go_ret3
   exact⟨some v0,rfl,HG.out _ HB.out⟩
theorem IL {key:ByteArray} {L:Nat→Nat→Nat→Nat→World→Prop} {N:World→Prop} {G:Int→World→Prop} (hW:Wn tb key L N G)
  (hF:Calls Tryz.prog 32 #[ptr tb,.string key] w fun e X=>(e=.returned (.tuple #[.slice none 0 0,.int .i64 0])∧N X)∨
   ∃q pr n cap,e=.returned (.tuple #[.slice (some ⟨pr,0,none⟩) (n+1) cap,.int .i64 0])∧L q pr n cap X):
  Calls Tryz.prog 16 #[ptr tb,.string key] w fun e w'=>(e=.returned (.tuple #[.bool false,.int .i64 0])∧N w')∨∃c:Int,e=.returned (.tuple #[.bool (decide (c=0)),.int .i64 c])∧G c w':=by
 have HW:=aa hW
 have HF:=aa hF
 clear hW hF
 unfold ptr at HW HF ⊢
 go_enter Tryz.func16,Tryz.ntmps16
 go_wp2_with fail
 refine HF.out.mono ?_
 rintro e X (⟨rfl,hG⟩|⟨q,pr,n,cap,rfl,hL⟩)
 ·have HG:=aa hG
  clear hG
  go_wp2_with fail
  go_ret2
  exact .inl ⟨rfl,HG.out⟩
 ·have HL:=aa hL
  clear hL
  obtain⟨p0,Dm,vA⟩:=HW.out.search _ _ _ _ _ HL.out
  have LX:(n:Int)≤100:=by omega
  have ES:=aa vA
  clear vA
  go_wp2_with fail
  clear p0
  refine ES.out.mono ?_
  rintro e X2 (⟨a,rfl,hG⟩|⟨a,g,n',c',rfl,RG,Be,c1,hD⟩)
  ·have HG:=aa hG
   clear hG
   go_wp2_with fail
   go_ret2
   exact .inl ⟨rfl,HG.out⟩
  ·have IJ:(a:Int)<n':=by omega
   have IK:(n':Int)≤400:=by omega
   have HD:=aa hD
   clear hD
   rw[show ((a+1:Nat):Int)=(a:Int)+1 by omega] at HD
   go_wp2_with fail
   refine HD.out.mono ?_
   rintro e X3 ⟨Td,v,rfl,rfl,⟨u,d1⟩,f1,hst⟩
   have nU:=aa hst
   clear hst c1
   go_wp2_with fail
   refine nU.out.mono ?_
   rintro e w9 ⟨c,rfl,hG⟩
   have HG:=aa hG
   clear hG d1 f1
   by_cases hc:c=0
   ·subst hc
    go_wp2_with fail
    go_ret2
    exact .inr ⟨0,rfl,HG.out⟩
   ·go_wp2_with fail
    go_ret2
    exact .inr ⟨c,by rw[decide_eq_false hc];rfl,HG.out⟩
end
end Go.Proofs.YtloekpcncjocaaaGreatDoor
