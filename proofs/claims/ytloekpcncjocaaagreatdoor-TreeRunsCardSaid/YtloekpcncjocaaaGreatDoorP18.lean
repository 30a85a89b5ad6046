/- Elder texts, cut down and merged (18). -/
import Derived.Test.YtloekpcncjocaaaGreatDoorP17
import Derived.Test.YtloekpcncjocaaaGreatDoorP16
import Derived.Test.YtloekpcncjocaaaGreatDoorP12
import Derived.Test.YtloekpcncjocaaaGreatDoorP2
import Derived.Test.YtloekpcncjocaaaGreatDoorP7
import Derived.Sort.OwnSortedInts
import Derived.Test.YtloekpcncjocaaaGreatDoorIter
import Derived.Test.YtloekpcncjocaaaGreatDoorPTk
set_option maxRecDepth 100000
set_option maxHeartbeats 8000000
namespace Go.Proofs.YtloekpcncjocaaaGreatDoor
open Go.RowKit Lib
section
variable {E:Ev} {X0 X X' Y V w:World} {R0 R R':Nat→Prop} {ps:List (Nat×List UInt8)} {pg:List (Option Wl.Text)} {rt:List Nat} {key vl:List UInt8} {q pr:Nat}
def MN:Tr.E 1:=Tr.mk ⟨none,false⟩ ([]:List (Tr.Tx×Tr.E 0))
theorem Lp (h:TS E X0 R0 R ps pg rt (fun _=>none) V) (hb:Below V.heap.size V Y) (hq:V.heap.size≤q) (Cl:V.heap.size≤pr) (Wu:pr≠q) {g c':Nat} {m:NV} (hg:V.heap.size≤g) (JB:g≠pr) (hm:m=⟨0,af 0 [((key,vl):Tr.Tx×Tr.E 0)],g,0,c',-1,[],[],0,0,false,true⟩) (hnd:Nd Y q m) (how:aD 0 Y (.slice (some ⟨g,0,none⟩) 1 c') (af 0 [((key,vl):Tr.Tx×Tr.E 0)])) (hrow:aJ bU Y pr 0 [q]) (bY:pr<Y.heap.size) (hk:key.length≤96) (hv:vl.length≤56):
  ∃R',Dj E X0 R0 R' ps pg rt (upd (fun _=>none) q m) Y q m MN ([(key,vl)]:List (Tr.Tx×Tr.E 0)) 0 MN [] [] [] [] pr:=by
 have iq:Tr.Ord [] none ([(key,vl)]:Tr.bt):=Tr.Ord.put (key:=key) (v:=vl) (l:=[]) ⟨.nil,fun _ h=>(by cases h),fun _ h=>(by cases h),fun _ h=>(by cases h),fun _ h=>(by cases h)⟩ (Tr.nil_le _) trivial hk hv
 have hlt:q<Y.heap.size∧g<Y.heap.size:=⟨hnd.blk.lt,(Own.block how g rfl).2⟩
 have RP:m.rg=g:=by rw[hm]
 have hmem:Mem Y (upd (fun _=>none) q m):=h.mem.add hb hq (by rw[RP];exact hg) hnd ⟨by rw[hm],by rw[hm];exact how⟩
 have hmb:∀b,MB (upd (fun _=>none) q m) b→b=q∨b=g:=by
  rintro b ⟨r,y,hr,hk⟩
  rcases ak hr with⟨rfl,rfl⟩|⟨_,hr⟩
  ·rcases hk with rfl|hk
   ·exact .inl rfl
   ·exact .inr (hk.trans RP)
  ·cases hr
 have h0:=h.but.size
 have hts:TS E X0 R0 (fun b=>R b∨b=q∨b=g∨b=pr) ps pg rt (upd (fun _=>none) q m) Y:=h.own (S:=fun _=>False) (aj.aq hb _) (fun _ _ f=>f.elim) hmem (fun b hb=>by
  rcases hmb b hb with rfl|rfl
  ·exact⟨.inr (.inl rfl),by omega⟩
  ·exact⟨.inr (.inr (.inl rfl)),by omega⟩) (fun _ h=>.inl h) (fun b hb=>by
  rcases hb with hb|rfl|rfl|rfl
  ·exact .inl hb
  ·right;omega
  ·right;omega
  ·right;omega)
 have e1:m.lo=[]:=by rw[hm]
 have e2:m.hi=[]:=by rw[hm]
 refine⟨_,hts, ?_,aM _ _ _,by rw[hm],by rw[hm],by rw[hm];rfl,by rw[hm];rfl,⟨?_, ?_⟩,.inr ⟨rfl,List.cons_ne_nil _ _⟩,by simp,hrow,⟨.inr (.inr (.inr rfl)),fun hm2=> ?_⟩,List.nodup_nil,fun x hx=>(by cases hx),by decide⟩
 ·rw[e1,e2]
  exact .top
 ·show Tr.sz 0 ([(key,vl)]:List (Tr.Tx×Tr.E 0))≤664
  have h1:=Tr.IX (key:=key) (v:=vl) ([]:Tr.bt)
  refine Nat.le_trans h1 ?_
  show 0+_≤664
  omega
 ·show Tr.Rw 0 m.lo (gD m.hi) _
  rw[e1,e2]
  exact Tr.IV iq
 ·rcases hmb _ hm2 with e|e
  ·exact Wu e
  ·exact JB e.symm
theorem Lr (h:TS E X0 R0 R ps pg rt (fun _=>none) V) (hX:X=(V.alloc (.cells #[.int .i64 0,.slice none 0 0,.int .i64 (-1),.string ⟨#[]⟩,.string ⟨#[]⟩,.int .i64 0,.int .i64 0,.bool false] 90)).alloc (.cells #[.pointer (some ⟨V.heap.size,0,none⟩)] 85)) (hq:q=V.heap.size) (Cl:pr=V.heap.size+1) (hk:key.length≤96) (hv:vl.length≤56) (Pe:ps.length≤60000000) (bY:E.place<16):
  X.cell? ⟨pr,0,none⟩=some (.pointer (some ⟨q,0,none⟩))∧Calls Tryz.prog 33 #[ptr q,.string (bs key)] X fun e X'=>
  (∃a:Nat,e=.returned (.tuple #[.int .i64 a,.bool false])∧a≤400∧∃rv rn rc,X'.cell? ⟨q,1,none⟩=some (.slice rv rn rc)∧∀W ib,W=X'.alloc (.cells #[.string (bs key),.string ⟨#[]⟩,.pointer none] 95)→ib=X'.heap.size→Calls Tryz.prog 34 #[.slice rv rn rc,.int .i64 a,.slice (some ⟨ib,0,none⟩) 1 1] W fun e eu=>
   ∃g n' c',e=.returned (.slice (some ⟨g,0,none⟩) n' c')∧a<n'∧n'≤c'∧n'≤401∧(∃v,eu.cell? ⟨q,1,none⟩=some v)∧eu.frozen? ⟨q,1,none⟩=false∧(∃v,eu.cell? ⟨g,a*3+1,none⟩=some v)∧eu.frozen? ⟨g,a*3+1,none⟩=false∧g≠q∧
    Calls Tryz.prog 35 #[ptr E.tb,.slice (some ⟨pr,0,none⟩) (0+1) 1] ((eu.setCell ⟨q,1,none⟩ (.slice (some ⟨g,0,none⟩) n' c')).setCell ⟨g,a*3+1,none⟩ (.string (bs vl))) fun e w'=>∃c:Int,e=.returned (.int .i64 c)∧Done E X0 R0 ps pg rt (Tr.put [] key vl) [] c w'):=by
 obtain⟨V1,RQ⟩:∃V1,V1=V.alloc (.cells #[.int .i64 0,.slice none 0 0,.int .i64 (-1),.string ⟨#[]⟩,.string ⟨#[]⟩,.int .i64 0,.int .i64 0,.bool false] 90):=⟨_,rfl⟩
 have Wx:Below V.heap.size V V1:=by rw[RQ];exact (Below.refl _ V).alloc (Nat.le_refl _) _
 have RR:V1.heap.size=V.heap.size+1:=by rw[RQ,World.size_alloc]
 have hk1:aG V1 q 90 [.int .i64 0,.slice none 0 0,.int .i64 (-1),.string ⟨#[]⟩,.string ⟨#[]⟩,.int .i64 0,.int .i64 0,.bool false]:=by rw[RQ,hq];exact aG.new V _ _
 rw[←RQ] at hX
 have aC:Below V1.heap.size V1 X:=by rw[hX];exact (Below.refl _ V1).alloc (Nat.le_refl _) _
 have Pb:Below V.heap.size V X:=Wx.trans (aC.mono (by omega))
 have hsX:X.heap.size=V.heap.size+2:=by rw[hX,World.size_alloc,RR]
 have Y5:=hk1.below aC (by omega)
 have Y6:aG X pr 85 [.pointer (some ⟨q,0,none⟩)]:=by
  rw[hX,Cl,←RR,hq];exact aG.new V1 _ _
 have RS:aJ bU X pr 0 [q]:=aJ.dI Y6 rfl
 clear RQ hX
 refine⟨Y6.cell (j:=0) rfl,(Bi q (Y5.cell (j:=1) rfl) key).mono ?_⟩
 rintro e X' ⟨rfl,hb⟩
 have RT:=Y5.below hb (by omega)
 refine⟨0,rfl,by decide,none,0,0,RT.cell (j:=1) rfl,fun W ib hW hib=> ?_⟩
 have hbW:Below X'.heap.size X' W:=by rw[hW];exact (Below.refl _ X').alloc (Nat.le_refl _) _
 have hbk:aG W ib 95 [.string (bs key),.string ⟨#[]⟩,.pointer none]:=by rw[hW,hib];exact aG.new X' _ _
 have gz:aJ ah W ib 0 [⟨key,[],none⟩]:=aJ.dI hbk rfl
 have hs1:=hb.size
 have iU:=hbW.size
 refine (tJ (B:=0) (l:=[]) (it:=⟨key,[],none⟩) (i:=0) (Own.nil ah _ 0 W) (Nat.zero_le _) (by decide) gz (fun k hk=>by cases hk) ⟨_,hbk⟩ (Nat.le_refl _)).mono ?_
 rintro e eu ⟨v',rfl,ho,Fz,Rg,nH⟩
 have ho:aD 0 eu v' [⟨key,[],none⟩]:=ho
 obtain⟨g,c',rfl,-,rF,Wv⟩:=Own.form ho (Nat.lt_succ_self 0)
 have Te:W.heap.size≤g:=by
  rcases Rg with e|e
  ·cases e
  ·exact e g rfl
 have Ff:g≠q:=by omega
 have JB:g≠pr:=by omega
 have I6:Below W.heap.size W eu:=Fz.below (Nat.le_refl _) fun k _ e=>by cases e
 have Wy:=(RT.below hbW (by omega)).below I6 (by omega)
 have hit:=aH (Own.lies ho) 0 (Nat.lt_succ_self 0)
 have hcells:=sO [⟨key,[],none⟩] 0 1 (Nat.lt_succ_self 0) (by decide) ⟨key,vl,none⟩ (.string (bs vl)) rfl
 obtain⟨Y1,Cv⟩:∃Y1,Y1=eu.setCell ⟨q,1,none⟩ (.slice (some ⟨g,0,none⟩) 1 c'):=⟨_,rfl⟩
 have Cw:aj (fun b=>b=q) eu Y1:=by rw[Cv];exact (aj.refl (fun b=>b=q) eu).setCell _ _ fun _=>rfl
 have Ou:aD 0 Y1 (.slice (some ⟨g,0,none⟩) 1 c') [⟨key,[],none⟩]:=Own.but ho Cw fun b hb e=>Ff (by have e2:g=b:=Option.some.inj hb;rw[e2,e])
 have Fi:aD 0 (Y1.setCell ⟨g,0*3+1,none⟩ (.string (bs vl))) (.slice (some ⟨g,0,none⟩) 1 c') [⟨key,vl,none⟩]:=by
  have h1:=(World.ownsRow.stored Ou (0*3+1) (.string (bs vl))).1
  unfold aD Own
  have vg:ah.cells ([⟨key,vl,none⟩]:List It)=_:=hcells
  rw[vg]
  exact h1
 have I7:aj (fun b=>b=g) Y1 (Y1.setCell ⟨g,0*3+1,none⟩ (.string (bs vl))):=(aj.refl (fun b=>b=g) Y1).setCell _ _ fun _=>rfl
 have Wz:aG Y1 q 90 [.int .i64 0,.slice (some ⟨g,0,none⟩) 1 c',.int .i64 (-1),.string ⟨#[]⟩,.string ⟨#[]⟩,.int .i64 0,.int .i64 0,.bool false]:=by rw[Cv];exact Wy.set 1 _
 have RU:=Wz.but I7 (fun e=>Ff e.symm)
 have MO:Below V.heap.size V (Y1.setCell ⟨g,0*3+1,none⟩ (.string (bs vl))):=
  (((Pb.trans (hb.mono (by omega))).trans (hbW.mono (by omega))).trans (I6.mono (by omega))).trans (((Cw.mono (T:=fun b=>b=q∨b=g) fun _ _ e=>.inl e).trans I7 fun b _ e=>.inr e).below (by have:=I6.size;omega) fun k hk e=>by omega)
 have hlY:=Cw.size
 have WA:=I7.size
 have aaK:=I6.size
 obtain⟨Y2,Y7⟩:∃Y2,Y2=Y1.setCell ⟨g,0*3+1,none⟩ (.string (bs vl)):=⟨_,rfl⟩
 refine⟨g,1,c',rfl,Nat.lt_succ_self 0,Wv,by decide,⟨_,Wy.cell (j:=1) rfl⟩,Wy.frozen 1,⟨_,by have:=hit.2.1;rw[Nat.zero_add] at this;exact this⟩,Own.frozen ho _,Ff, ?_⟩
 rw[←Cv,←Y7]
 rw[←Y7] at Fi I7 RU MO WA
 have hrY:aJ bU Y2 pr 0 [q]:=((((RS.below hb (by omega)).below hbW (by omega)).below I6 (by omega)).but Cw (by omega)).but I7 (by omega)
 obtain⟨m,hm⟩:∃m:NV,m=⟨0,af 0 [((key,vl):Tr.Tx×Tr.E 0)],g,0,c',-1,[],[],0,0,false,true⟩:=⟨_,rfl⟩
 have ve:=eZ Fi
 have hnd:Nd Y2 q m:=by
  refine⟨?_,by rw[hm];exact Own.lies Fi, ?_⟩
  ·rw[hm];exact RU
  ·rw[hm]
   refine⟨Nat.succ_le_succ (Nat.zero_le _),fun i hi=> ?_,ve.2⟩
   have e:i=⟨key,vl,none⟩:=List.mem_singleton.1 hi
   rw[e]
   exact⟨Nat.le_trans hk (by decide),Nat.le_trans hv (by decide)⟩
 obtain⟨R',s⟩:=Lp (key:=key) (vl:=vl) h MO (by omega) (by omega) (by omega) (by omega) JB hm hnd Fi hrY (by omega) hk hv
 exact (tV s Pe bY).mono fun _ _ h=>h.imp fun _ h=>⟨h.1,h.2.1⟩
theorem qm {lv:Nat} {pw:Value} {K:Nat} {T:Tr.E (K+1)} (h:Dl E X0 R0 ps pg rt key K T lv q pw X):∃pr cap R M m c path pre post out,pw=.slice (some ⟨pr,0,none⟩) (path.length+1) cap∧ep E X0 R0 ps pg rt key K T lv q (.slice (some ⟨pr,0,none⟩) (path.length+1) cap) X R M m c path pre post out (q::path).reverse:=by
 obtain⟨R,M,m,c,path,pre,post,out,f⟩:=h
 have hl:(q::path).reverse.length=path.length+1:=by simp
 obtain⟨pr,cap,e,_⟩:=Own.form f.row (by rw[hl];omega)
 rw[hl] at e
 subst e
 exact⟨pr,cap,R,M,m,c,path,pre,post,out,rfl,f⟩
theorem Ls {l:List (Tr.Tx×Tr.Tx)} {pages:List Nat} (h:TS E X0 R0 R ps pg rt (fun _=>none) w) (hm:eC pg (rt.getD E.place 0) l pages) (hk:key.length≤96) (hv:vl.length≤56) (Pe:ps.length≤60000000) (bY:E.place<16):
  Calls Tryz.prog 13 #[ptr E.tb,.string (bs key),.string (bs vl)] w fun e w'=>∃c:Int,e=.returned (.int .i64 c)∧Done E X0 R0 ps pg rt (Tr.put l key vl) pages c w':=by
 refine I5 (L:=fun q pr n cap X=>(∃(K:Nat) (T:Tr.E (K+1)) (R:Nat→Prop) (M:Nat→Option NV) (m:NV) (c:Tr.E 1) (path:List Nat) (pre post:List (Tr.Tx×Tr.Tx)) (out:List Nat),path.length=n∧l=Tr.bE K (Tr.its T)∧pages=Tr.bg (K+1) T∧pages.Nodup∧ep E X0 R0 ps pg rt key K T 0 q (.slice (some ⟨pr,0,none⟩) (path.length+1) cap) X R M m c path pre post out (q::path).reverse)∨
   ∃V,n=0∧cap=1∧l=[]∧pages=[]∧q=V.heap.size∧pr=V.heap.size+1∧X=(V.alloc (.cells #[.int .i64 0,.slice none 0 0,.int .i64 (-1),.string ⟨#[]⟩,.string ⟨#[]⟩,.int .i64 0,.int .i64 0,.bool false] 90)).alloc (.cells #[.pointer (some ⟨V.heap.size,0,none⟩)] 85)∧TS E X0 R0 R ps pg rt (fun _=>none) V) (G:=fun c w'=>Done E X0 R0 ps pg rt (Tr.put l key vl) pages c w') ⟨?_⟩ (by rw[aB];exact hk) hv ((o9 h bY hm key).mono ?_)
 ·rintro q pr n cap X (⟨K,T,R1,M,m,c,path,pre,post,out,rfl,rfl,rfl,hnd,f⟩|⟨V,rfl,rfl,rfl,rfl,hq,Cl,hX,hts⟩)
  ·have h1:=f.above.level
   have h2:=f.uP
   exact⟨qh (Own.lies f.row) rfl,by omega,Lm f hk hv hm hnd Pe bY⟩
  ·have h1:=Lr (key:=key) (vl:=vl) hts hX hq Cl hk hv Pe bY
   exact⟨h1.1,Nat.zero_le _,h1.2.mono fun e X' h=>.inl h⟩
 ·rintro e X (⟨rfl,h0,h1,h2,hb⟩|⟨K,T,q,pw,rfl,h1,h2,h3,hf⟩)
  ·exact .inl ⟨rfl,fun W hW=>.inr ⟨X,rfl,rfl,h1,h2,rfl,rfl,hW,h.still hb (fun _ h=>h) (fun _ h=>.inl h)⟩⟩
  ·obtain⟨pr,cap,R1,M,m,c,path,pre,post,out,rfl,f⟩:=qm hf
   exact .inr ⟨q,pr,path.length,cap,rfl,.inl ⟨K,T,R1,M,m,c,path,pre,post,out,rfl,h1,h2,h3,f⟩⟩
end
section
variable {E:Ev} {X0 X X' Y V w:World} {R0 R R':Nat→Prop} {ps:List (Nat×List UInt8)} {pg:List (Option Wl.Text)} {rt:List Nat} {M M':Nat→Option NV} {K:Nat} {T:Tr.E (K+1)} {key vl:List UInt8} {q pr cap:Nat} {m:NV} {c:Tr.E 1} {path out:List Nat} {pre post:List (Tr.Tx×Tr.Tx)}
def kG (E:Ev) (X0:World) (R0:Nat→Prop) (ps:List (Nat×List UInt8)) (pg:List (Option Wl.Text)) (rt:List Nat) (X:World):Prop:=∃R M,TS E X0 R0 R ps pg rt M X
theorem Lt (f:ep E X0 R0 ps pg rt key K T 0 q (.slice (some ⟨pr,0,none⟩) (path.length+1) cap) X R M m c path pre post out (q::path).reverse):
  Calls Tryz.prog 33 #[ptr q,.string (bs key)] X fun e X'=>
  (∃a:Nat,e=.returned (.tuple #[.int .i64 a,.bool false])∧Tr.got (Tr.bE K (Tr.its T)) key=none∧kG E X0 R0 ps pg rt X')∨
  (∃(a g o n' c':Nat) (v0:List UInt8),e=.returned (.tuple #[.int .i64 a,.bool true])∧a<n'∧n'≤400∧X'.cell? ⟨q,1,none⟩=some (.slice (some ⟨g,o,none⟩) n' c')∧X'.cell? ⟨g,o+a*3+1,none⟩=some (.string (bs v0))∧v0.length≤200∧∀eu,Below X'.heap.size X' eu→Tr.got (Tr.bE K (Tr.its T)) key=some v0∧kG E X0 R0 ps pg rt eu):=by
 obtain⟨lf,dM,iq,hsz,Ao,oY,Gv,hro,hown⟩:=qj f
 have hlen:m.its.length=lf.length:=by rw[dM,List.length_map]
 have hnd:=f.ts.mem.nd q m f.i_
 have mT:posOf m.its key=(lf.takeWhile fun x=>Tr.lt x.1 key).length:=by rw[dM];exact pz lf key
 have Ax:Tr.got (Tr.bE K (Tr.its T)) key=Tr.got lf key:=by rw[oY];exact Tr.Dn f.Og f.Oh
 refine (iL hnd Ao key).mono ?_
 rintro e X' ⟨rfl,hb⟩
 have f':=f.still hb
 have lC:=hnd.still hb
 have hc1:=lC.c1
 rw[hro] at hc1
 have iy:=nM (key:=key) iq.iZ
 rw[←show m.its=af 0 lf from dM] at iy
 cases ht:cE m.its key with
 |false=>
  exact .inl ⟨_,rfl,by rw[Ax];exact Tr.lF (iy.1 ht),_,_,f'.ts⟩
 |true=>
  right
  obtain⟨gQ,hkk⟩:=iy.2 ht
  obtain⟨a,ha⟩:∃a,a=posOf m.its key:=⟨_,rfl⟩
  rw[←ha] at mT gQ ⊢
  have hkk':(lf[a]'gQ).1=key:=by
   have h:=hkk
   simp only[←ha] at h
   exact h
  have hal:a<m.its.length:=by omega
  have fV:m.its[a]=⟨key,(lf[a]'gQ).2,none⟩:=by
   have e:m.its[a]?=some ⟨(lf[a]'gQ).1,(lf[a]'gQ).2,none⟩:=by
    rw[dM,List.getElem?_map,List.getElem?_eq_getElem gQ];rfl
   rw[List.getElem?_eq_getElem hal] at e
   rw[Option.some.inj e,hkk']
  have hit:=aH lC.row a hal
  rw[fV,hro] at hit
  exact⟨a,m.rg,0,m.its.length,m.cap,(lf[a]'gQ).2,rfl,hal,by omega,hc1,hit.2.1,Nat.le_trans (iq.vals _ (List.getElem_mem gQ)) (by decide),fun eu aC=>⟨by rw[Ax];exact Tr.Au iq.iZ mT gQ hkk',_,_,(f'.still aC).ts⟩⟩
theorem Lu {l:List (Tr.Tx×Tr.Tx)} {pages:List Nat} (h:TS E X0 R0 R ps pg rt (fun _=>none) w) (hm:eC pg (rt.getD E.place 0) l pages) (bY:E.place<16):
  Calls Tryz.prog 18 #[ptr E.tb,.string (bs key)] w fun e w'=>e=.returned (.tuple #[.string (bs ((Tr.got l key).getD [])),.bool (Tr.got l key).isSome,.int .i64 0])∧kG E X0 R0 ps pg rt w':=by
 refine (II (L:=fun q pr n cap X=>∃(K:Nat) (T:Tr.E (K+1)) (R:Nat→Prop) (M:Nat→Option NV) (m:NV) (c:Tr.E 1) (path:List Nat) (pre post:List (Tr.Tx×Tr.Tx)) (out:List Nat),path.length=n∧l=Tr.bE K (Tr.its T)∧ep E X0 R0 ps pg rt key K T 0 q (.slice (some ⟨pr,0,none⟩) (path.length+1) cap) X R M m c path pre post out (q::path).reverse) (G:=fun v w'=>Tr.got l key=v∧kG E X0 R0 ps pg rt w') ⟨?_⟩ ((o9 h bY hm key).mono ?_)).mono ?_
 ·rintro q pr n cap X ⟨K,T,R1,M,m,c,path,pre,post,out,rfl,rfl,f⟩
  have h1:=f.above.level
  have h2:=f.uP
  exact⟨qh (Own.lies f.row) rfl,by omega,Lt f⟩
 ·rintro e X (⟨rfl,h0,h1,h2,hb⟩|⟨K,T,q,pw,rfl,h1,h2,h3,hf⟩)
  ·exact .inl ⟨rfl,by rw[h1];rfl,_,_,h.still hb (fun _ h=>h) (fun _ h=>.inl h)⟩
  ·obtain⟨pr,cap,R1,M,m,c,path,pre,post,out,rfl,f⟩:=qm hf
   exact .inr ⟨q,pr,path.length,cap,rfl,K,T,R1,M,m,c,path,pre,post,out,rfl,h1,f⟩
 ·rintro e w' ⟨v,rfl,hv,hk⟩
  rw[hv]
  exact⟨rfl,hk⟩
theorem Lv (f:ep E X0 R0 ps pg rt key K T 0 q (.slice (some ⟨pr,0,none⟩) (path.length+1) cap) X R M m c path pre post out (q::path).reverse) (hm:eC pg (rt.getD E.place 0) (Tr.bE K (Tr.its T)) (Tr.bg (K+1) T)) (htk:(Tr.bg (K+1) T).Nodup) (hq:ps.length≤60000000) (bY:E.place<16):
  Calls Tryz.prog 33 #[ptr q,.string (bs key)] X fun e X'=>
  (∃a:Nat,e=.returned (.tuple #[.int .i64 a,.bool false])∧Tr.got (Tr.bE K (Tr.its T)) key=none∧kG E X0 R0 ps pg rt X')∨
  (∃(a g n' c':Nat),e=.returned (.tuple #[.int .i64 a,.bool true])∧a<n'∧n'≤400∧X'.cell? ⟨q,1,none⟩=some (.slice (some ⟨g,0,none⟩) n' c')∧
   Calls Tryz.prog 36 #[.slice (some ⟨g,0,none⟩) n' c',.int .i64 a,.int .i64 (a+1:Nat)] X' fun e eu=>∃(Td:Nat) (v:Value),e=.returned v∧v=.slice (some ⟨g,0,none⟩) Td c'∧(∃u,eu.cell? ⟨q,1,none⟩=some u)∧eu.frozen? ⟨q,1,none⟩=false∧
    Calls Tryz.prog 35 #[ptr E.tb,.slice (some ⟨pr,0,none⟩) (path.length+1) cap] (eu.setCell ⟨q,1,none⟩ v) fun e w'=>∃c:Int,e=.returned (.int .i64 c)∧(Tr.got (Tr.bE K (Tr.its T)) key).isSome=true∧c=0∧Done E X0 R0 ps pg rt (Tr.del (Tr.bE K (Tr.its T)) key) (Tr.bg (K+1) T) c w'):=by
 obtain⟨lf,dM,iq,hsz,Ao,oY,Gv,hro,hown⟩:=qj f
 have hlen:m.its.length=lf.length:=by rw[dM,List.length_map]
 have htn:=eT hm
 have hnd:=f.ts.mem.nd q m f.i_
 have mT:posOf m.its key=(lf.takeWhile fun x=>Tr.lt x.1 key).length:=by rw[dM];exact pz lf key
 have Ax:Tr.got (Tr.bE K (Tr.its T)) key=Tr.got lf key:=by rw[oY];exact Tr.Dn f.Og f.Oh
 have WB:Tr.del (Tr.bE K (Tr.its T)) key=pre++Tr.del lf key++post:=by rw[oY];exact Tr.Le f.Og f.Oh
 have vM:m.rg≠q:=by have:=f.ts.mem.BO f.i_ f.i_;exact this
 refine (iL hnd Ao key).mono ?_
 rintro e X' ⟨rfl,hb⟩
 have f':=f.still hb
 have lC:=hnd.still hb
 have hown':aD 0 X' (.slice (some ⟨m.rg,0,none⟩) m.its.length m.cap) m.its:=Own.below hown hb (Nat.le_refl _)
 have hc1:=lC.c1
 rw[hro] at hc1
 have iy:=nM (key:=key) iq.iZ
 rw[←show m.its=af 0 lf from dM] at iy
 cases ht:cE m.its key with
 |false=>
  exact .inl ⟨_,rfl,by rw[Ax];exact Tr.lF (iy.1 ht),_,_,f'.ts⟩
 |true=>
  right
  obtain⟨gQ,hkk⟩:=iy.2 ht
  obtain⟨a,ha⟩:∃a,a=posOf m.its key:=⟨_,rfl⟩
  rw[←ha] at mT gQ ⊢
  have hkk':(lf[a]'gQ).1=key:=by
   have h:=hkk
   simp only[←ha] at h
   exact h
  have hal:a<m.its.length:=by omega
  have RV:=Tr.IQ iq.iZ mT gQ hkk'
  refine⟨a,m.rg,m.its.length,m.cap,rfl,hal,by omega,hc1,(xT X' m.rg m.cap a m.its hown' hal (by omega)).mono ?_⟩
  rintro e eu ⟨rfl,ho,hbd⟩
  have Qd:=lC.blk.but hbd (fun e=>vM e.symm)
  have RX:m.its.take a++m.its.drop (a+1)=af 0 (Tr.del lf key:Tr.bt):=by
   rw[←RV,nL,dM,List.map_append,←List.map_take,←List.map_drop];rfl
  have Qg:(Tr.del lf key).length=m.its.length-1:=by
   rw[←RV,List.length_append,List.length_take,List.length_drop];omega
  rw[RX] at ho
  refine⟨m.its.length-1,_,rfl,rfl,⟨_,Qd.cell (j:=1) rfl⟩,Qd.frozen 1, ?_⟩
  rw[←Qg] at ho ⊢
  obtain⟨Y1,Cv⟩:∃Y1,Y1=eu.setCell ⟨q,1,none⟩ (.slice (some ⟨m.rg,0,none⟩) (Tr.del lf key).length m.cap):=⟨_,rfl⟩
  have Mc:aj (fun b=>b=q) eu Y1:=by rw[Cv];exact (aj.refl (fun b=>b=q) eu).setCell _ _ fun _=>rfl
  have Ww:aD 0 Y1 (.slice (some ⟨m.rg,0,none⟩) (Tr.del lf key).length m.cap) (af 0 (Tr.del lf key:Tr.bt)):=Own.but ho Mc fun b hb e=>vM (by have e2:m.rg=b:=Option.some.inj hb;rw[e2,e])
  have hkY:aG Y1 q 90 (m.cells.set 1 (.slice (some ⟨m.rg,0,none⟩) (Tr.del lf key).length m.cap)):=by rw[Cv];exact Qd.set 1 _
  rw[←Cv]
  have KC:aj (fun b=>b=q∨b=m.rg) X' Y1:=(hbd.mono fun _ _ e=>.inr e).trans Mc fun b _ e=>.inl e
  have Kk:Tr.sz 0 ((Tr.del lf key:Tr.bt):List (Tr.Tx×Tr.E 0))≤664:=Nat.le_trans (Tr.qg _ lf) (Nat.le_trans hsz (by decide))
  refine (qi f' KC (fun b h=>h) hkY Ww (.inl rfl) iq.del Kk htk htn hq bY).mono ?_
  rintro e w' ⟨c,rfl,hd,hz⟩
  exact⟨c,rfl,by rw[Ax,Tr.Au iq.iZ mT gQ hkk'];rfl,hz (Nat.le_trans (Tr.qg _ lf) hsz),by rw[WB];exact hd⟩
theorem Lw {l:List (Tr.Tx×Tr.Tx)} {pages:List Nat} (h:TS E X0 R0 R ps pg rt (fun _=>none) w) (hm:eC pg (rt.getD E.place 0) l pages) (Pe:ps.length≤60000000) (bY:E.place<16):
  Calls Tryz.prog 16 #[ptr E.tb,.string (bs key)] w fun e w'=>(e=.returned (.tuple #[.bool false,.int .i64 0])∧Tr.got l key=none∧kG E X0 R0 ps pg rt w')∨(e=.returned (.tuple #[.bool true,.int .i64 0])∧(Tr.got l key).isSome=true∧iR E X0 R0 ps pg rt (Tr.del l key) pages 0 w'):=by
 refine (IL (L:=fun q pr n cap X=>∃(K:Nat) (T:Tr.E (K+1)) (R:Nat→Prop) (M:Nat→Option NV) (m:NV) (c:Tr.E 1) (path:List Nat) (pre post:List (Tr.Tx×Tr.Tx)) (out:List Nat),path.length=n∧l=Tr.bE K (Tr.its T)∧pages=Tr.bg (K+1) T∧pages.Nodup∧ep E X0 R0 ps pg rt key K T 0 q (.slice (some ⟨pr,0,none⟩) (path.length+1) cap) X R M m c path pre post out (q::path).reverse) (N:=fun w'=>Tr.got l key=none∧kG E X0 R0 ps pg rt w') (G:=fun c w'=>(Tr.got l key).isSome=true∧c=0∧Done E X0 R0 ps pg rt (Tr.del l key) pages c w') ⟨?_⟩ ((o9 h bY hm key).mono ?_)).mono ?_
 ·rintro q pr n cap X ⟨K,T,R1,M,m,c,path,pre,post,out,rfl,rfl,rfl,hnd,f⟩
  have h1:=f.above.level
  have h2:=f.uP
  exact⟨qh (Own.lies f.row) rfl,by omega,Lv f hm hnd Pe bY⟩
 ·rintro e X (⟨rfl,h0,h1,h2,hb⟩|⟨K,T,q,pw,rfl,h1,h2,h3,hf⟩)
  ·exact .inl ⟨rfl,by rw[h1];rfl,_,_,h.still hb (fun _ h=>h) (fun _ h=>.inl h)⟩
  ·obtain⟨pr,cap,R1,M,m,c,path,pre,post,out,rfl,f⟩:=qm hf
   exact .inr ⟨q,pr,path.length,cap,rfl,K,T,R1,M,m,c,path,pre,post,out,rfl,h1,h2,h3,f⟩
 ·rintro e w' (h|⟨c,rfl,h1,rfl,h2|⟨h2,_⟩⟩)
  ·exact .inl h
  ·exact .inr ⟨rfl,h1,h2⟩
  ·cases h2
end
section
variable {lim:Int} {lo hi:Tr.Tx}
theorem uf:∀{l:Tr.bt},(∀p∈l,hasB lo hi p.1=false)→∀s,l.foldl (aX lim lo hi) s=s
 |[],_,_=>rfl
 |p::l,h,s=>by
  have e:aX lim lo hi s p=s:=by
   unfold aX
   rw[if_neg]
   rintro⟨_,h2⟩
   rw[h p List.mem_cons_self] at h2;cases h2
  rw[List.foldl_cons,e]
  exact uf (fun x hx=>h x (List.mem_cons_of_mem _ hx)) s
theorem nN:∀{l s:Tr.bt},¬(s.length:Int)<lim→l.foldl (aX lim lo hi) s=s
 |[],_,_=>rfl
 |p::l,s,h=>by
  have e:aX lim lo hi s p=s:=by
   unfold aX
   rw[if_neg fun h2=>h h2.1]
  rw[List.foldl_cons,e]
  exact nN h
theorem ug (k:Nat) (p:Tr.Tx×Tr.E (k+1)) (l:List (Tr.Tx×Tr.E (k+1))):Tr.bE (k+1) (p::l)=Tr.bE k (Tr.its p.2)++Tr.bE (k+1) l:=by
 show (p::l).flatMap (fun p=>Tr.bE k (Tr.its p.2))=_
 rw[List.flatMap_cons]
 rfl
theorem Fk {k:Nat} {Tf:Tr.Tx} {h0:Option Tr.Tx} {c:Tr.E (k+1+1)} (ho:Tr.Ok (k+1+1) Tf h0 c) {A B:List (Tr.Tx×Tr.E (k+1))} {kc:Tr.Tx} {c':Tr.E (k+1)} (hc:Tr.its c=A++(kc,c')::B) (wE:(!hi.isEmpty&& !Tr.lt kc hi)=true):∀x∈Tr.bE (k+1) ((kc,c')::B),hasB lo hi x.1=false:=by
 rw[Bool.and_eq_true,Bool.not_eq_true',Bool.not_eq_true'] at wE
 have Az:∀x:Tr.Tx×Tr.Tx,Tr.le kc x.1→hasB lo hi x.1=false:=fun x hx=>by
  have h1:Tr.lt x.1 hi=false:=Tr.le_trans (show Tr.le hi kc from wE.2) hx
  unfold hasB
  rw[h1,wE.1]
  simp
 have hrw:=ho.2.2
 rw[hc] at hrw
 have hA:A≠[]:=by
  intro e
  have h2:=hrw.1 (kc,c') (by rw[e];rfl)
  rw[if_neg (Nat.succ_ne_zero k)] at h2
  have h2:kc=[]:=h2
  rw[h2] at wE
  cases hi with
  |nil=>cases wE.1
  |cons a l=>cases wE.2
 have hkeys:=(fD hrw).1
 rw[List.map_append,List.map_cons] at hkeys
 have hkb:=List.pairwise_cons.1 (List.pairwise_append.1 hkeys).2.1
 have hs:=Tr.qd (key:=kc) hrw (Tr.le_refl _) fun b B' e=>hkb.1 b.1 (List.mem_map.2 ⟨b,by rw[e];exact List.mem_cons_self,rfl⟩)
 have h4:=hrw.2
 rw[Tr.b7,Tr.ju,if_neg (by rw[List.isEmpty_iff];exact hA)] at h4
 have hok:=xD h4
 have mA:=(Tr.nK hok).low
 intro x hx
 rw[ug] at hx
 rcases List.mem_append.1 hx with hx|hx
 ·exact Az x (mA x hx)
 ·exact Az x (Tr.le_of_lt (hs.2 x hx))
theorem qO {k:Nat} {v:Tr.E (k+1)→Tr.bt→Tr.bt×Bool}:∀{l:List (Tr.Tx×Tr.E (k+1))},(∀p∈l,∀s,(v p.2 s).1=(Tr.bE k (Tr.its p.2)).foldl (aX lim lo hi) s∧((v p.2 s).2=false→¬((v p.2 s).1.length:Int)<lim))→(∀A p B,l=A++p::B→(!hi.isEmpty&& !Tr.lt p.1 hi)=true→∀x∈Tr.bE (k+1) (p::B),hasB lo hi x.1=false)→∀s,(dA v hi l s).1=(Tr.bE (k+1) l).foldl (aX lim lo hi) s∧((dA v hi l s).2=false→¬((dA v hi l s).1.length:Int)<lim)
 |[],_,_,s=>⟨rfl,fun h=>(by cases h)⟩
 |p::l,hv,hl,s=>by
  unfold dA
  by_cases hc:(!hi.isEmpty&& !Tr.lt p.1 hi)=true
  ·rw[if_pos hc,uf (hl [] p l rfl hc)]
   exact⟨rfl,fun h=>(by cases h)⟩
  ·rw[if_neg hc]
   obtain⟨h1,h2⟩:=hv p List.mem_cons_self s
   rw[ug,List.foldl_append,←h1]
   by_cases hb:(v p.2 s).2=true
   ·rw[if_pos hb]
    exact qO (fun x hx=>hv x (List.mem_cons_of_mem _ hx)) (fun A x B e=>hl (p::A) x B (by rw[e];rfl)) _
   ·have aC:(v p.2 s).2=false:=by cases h:(v p.2 s).2 with|true=>exact absurd h hb|false=>rfl
    rw[if_neg hb,nN (h2 aC)]
    exact⟨rfl,fun _=>h2 aC⟩
theorem I8:∀l:List (Tr.Tx×Tr.E 0),((af 0 l).map fun i=>((i.key,i.val):Tr.Tx×Tr.Tx))=Tr.bE 0 l
 |[]=>rfl
 |p::l=>congrArg (fun r:Tr.bt=>((p.1,(p.2:Tr.Tx)):Tr.Tx×Tr.Tx)::r) (I8 l)
theorem yl (k:Nat) (c:Tr.E (k+1+1)) (s:Tr.bt):fS lim lo hi (k+1) c s=(s,decide ((s.length:Int)<lim)):=by
 unfold fS
 rw[if_neg (Nat.succ_ne_zero k)]
theorem uh:∀(k:Nat) (c:Tr.E (k+1)) {Tf:Tr.Tx} {h0:Option Tr.Tx},Tr.Ok (k+1) Tf h0 c→∀s,(visit (fS lim lo hi) lo hi k c s).1=(Tr.bE k (Tr.its c)).foldl (aX lim lo hi) s∧((visit (fS lim lo hi) lo hi k c s).2=false→¬((visit (fS lim lo hi) lo hi k c s).1.length:Int)<lim)
 |0,c,_,_,_,s=>by
  have e:visit (fS lim lo hi) lo hi 0 c s=((Tr.bE 0 (Tr.its c)).foldl (aX lim lo hi) s,decide ((((Tr.bE 0 (Tr.its c)).foldl (aX lim lo hi) s).length:Int)<lim)):=by
   show fS lim lo hi 0 c s=_
   unfold fS
   rw[if_pos rfl,I8]
  rw[e]
  exact⟨rfl,fun h=>of_decide_eq_false h⟩
 |k+1,c,Tf,h0,ho,s=>by
  by_cases hlim:(s.length:Int)<lim
  ·have hne:0<(Tr.its c).length:=List.length_pos_iff.2 ho.1
   have hl:(af (k+1) (Tr.its c)).length=(Tr.its c).length:=List.length_map _
   have Oi:∀j (h:j<(af (k+1) (Tr.its c)).length),((af (k+1) (Tr.its c))[j]).key=((Tr.its c)[j]'(by omega)).1:=fun j h=>by
    have e:(af (k+1) (Tr.its c))[j]?=some ⟨((Tr.its c)[j]'(by omega)).1,cg (k+1) ((Tr.its c)[j]'(by omega)).2,none⟩:=by
     unfold af
     rw[List.getElem?_map,List.getElem?_eq_getElem (by omega)]
     rfl
    rw[List.getElem?_eq_getElem h] at e
    rw[Option.some.inj e]
   have mK:((af (k+1) (Tr.its c))[0]'(by omega)).key=[]:=by
    have h2:=ho.2.2.1 ((Tr.its c)[0]) (by rw[List.head?_eq_getElem?,List.getElem?_eq_getElem hne])
    rw[if_neg (Nat.succ_ne_zero k)] at h2
    rw[Oi];exact h2
   obtain⟨a,oP,ha,hle,hgt⟩:=Cq (sZ (by rw[bV];exact (fD ho.2.2).1)) (by omega) mK lo
   have hat:a<(Tr.its c).length:=by omega
   have Oo:visit (fS lim lo hi) lo hi (k+1) c s=dA (visit (fS lim lo hi) lo hi k) hi ((Tr.its c).drop a) s:=by
    conv=>lhs;unfold visit
    rw[yl,if_pos (decide_eq_true hlim),oP]
    rfl
   have tC:(Tr.its c).drop a=((Tr.its c)[a].1,(Tr.its c)[a].2)::(Tr.its c).drop (a+1):=List.drop_eq_getElem_cons hat
   have hsplit:Tr.its c=(Tr.its c).take a++((Tr.its c)[a].1,(Tr.its c)[a].2)::(Tr.its c).drop (a+1):=by rw[←tC,List.take_append_drop]
   have hrw:=ho.2.2
   rw[hsplit] at hrw
   have hs:=Tr.qd (key:=lo) hrw (by have:=hle;rw[Oi] at this;exact this) fun b B' e=>by
    have hj:a+1<(Tr.its c).length:=by
     have:=congrArg List.length e
     rw[List.length_drop,List.length_cons] at this
     omega
    have h3:=hgt (a+1) (by omega) (by omega)
    rw[Oi] at h3
    have e3:(Tr.its c).drop (a+1)=(Tr.its c)[a+1]::(Tr.its c).drop (a+1+1):=List.drop_eq_getElem_cons hj
    rw[e3] at e
    injection e with e4 e5
    rw[←e4];exact h3
   have hpre:(Tr.bE (k+1) ((Tr.its c).take a)).foldl (aX lim lo hi) s=s:=uf (fun p hp=>by
    unfold hasB
    rw[hs.1 p hp];rfl) s
   have hall:(Tr.bE (k+1) (Tr.its c)).foldl (aX lim lo hi) s=(Tr.bE (k+1) ((Tr.its c).drop a)).foldl (aX lim lo hi) s:=by
    conv=>lhs;rw[←List.take_append_drop a (Tr.its c)]
    rw[Tr.aS,List.foldl_append,hpre]
   rw[Oo,hall]
   refine qO (fun p hp s=> ?_) (fun A p B e hc=> ?_) s
   ·obtain⟨lo',h',ho'⟩:=mj ho p (List.mem_of_mem_drop hp)
    exact uh k p.2 ho' s
   ·exact Fk (A:=(Tr.its c).take a++A) (kc:=p.1) (c':=p.2) ho (by rw[List.append_assoc];conv=>lhs;rw[←List.take_append_drop a (Tr.its c),e]) hc
  ·have hf:(fS lim lo hi (k+1) c s).2=false:=by rw[yl];exact decide_eq_false hlim
   rw[Ar hf,yl,nN hlim]
   exact⟨rfl,fun _=>hlim⟩
end
section
variable {E:Ev} {X0 X X' w:World} {R0 R R':Nat→Prop} {ps:List (Nat×List UInt8)} {pg:List (Option Wl.Text)} {rt:List Nat} {l:List (Tr.Tx×Tr.Tx)} {pages:List Nat} {lim:Int} {lo hi:Tr.Tx}
structure RY (E:Ev) (X0:World) (R0:Nat→Prop) (ps:List (Nat×List UInt8)) (pg:List (Option Wl.Text)) (rt:List Nat) (l:Tr.bt) (v:Value) (w':World):Prop where
 row:bR 0 w' v l
 kept:∃R M,TS E X0 R0 R ps pg rt M w'∧∀b,v.ownBlock=some b→R b∧X0.heap.size≤b
theorem I9 (h:TS E X0 R0 R ps pg rt (fun _=>none) w) (hm:eC pg (rt.getD E.place 0) l pages) (bY:E.place<16):
  Calls Tryz.prog 19 #[ptr E.tb,.string (bs lo),.string (bs hi),.int .i64 lim] w fun e w'=>∃v,e=.returned (.tuple #[v,.int .i64 0])∧RY E X0 R0 ps pg rt (l.foldl (aX lim lo hi) []) v w':=by
 refine Fe fun W hW=> ?_
 obtain⟨W1,gP⟩:∃W1,W1=w.alloc (.cells #[.int .i64 lim] 3):=⟨_,rfl⟩
 rw[←gP] at hW
 have aQ:Below w.heap.size w W1:=by rw[gP];exact (Below.refl _ w).alloc (Nat.le_refl _) _
 have hs1:W1.heap.size=w.heap.size+1:=by rw[gP,World.size_alloc]
 have kg:aG W1 w.heap.size 3 [.int .i64 lim]:=by rw[gP];exact aG.new w _ _
 obtain⟨W2,lY⟩:∃W2,W2=W1.alloc (.cells #[.slice none 0 0] 36):=⟨_,rfl⟩
 rw[←lY] at hW
 have aC:Below W1.heap.size W1 W2:=by rw[lY];exact (Below.refl _ W1).alloc (Nat.le_refl _) _
 have iU:W2.heap.size=w.heap.size+2:=by rw[lY,World.size_alloc,hs1]
 have vg:aG W2 (w.heap.size+1) 36 [.slice none 0 0]:=by rw[lY,←hs1];exact aG.new W1 _ _
 have cC:Below W2.heap.size W2 W:=by rw[hW];exact (Below.refl _ W2).alloc (Nat.le_refl _) _
 have KS:aG W (w.heap.size+2) 88 [.string (bs lo),.string (bs hi)]:=by rw[hW,←iU];exact aG.new W2 _ _
 have hb:Below w.heap.size w W:=(aQ.trans (aC.mono (by omega))).trans (cC.mono (by omega))
 have CR:=(kg.below aC (by omega)).below cC (by omega)
 have JD:=vg.below cC (by omega)
 have hx0:=h.but.size
 have hj:JS E X0 R0 ps pg rt (w.heap.size+1) w.heap.size (w.heap.size+2) lim lo hi [] (fun b=>R b∨b=w.heap.size+1) (fun _=>none) W:=⟨h.still hb (fun _ h=>.inl h) (fun b hb=>hb.imp_right fun e=>by rw[e];exact⟨by omega,JD.lt⟩),⟨.inr rfl,by omega,fun ⟨_,_,e,_⟩=>by cases e⟩,CR.cell (j:=0) rfl,KS,⟨by omega,by omega⟩,.slice none 0 0,JD,Own.nil _ _ _ _,fun b hb=>by cases hb⟩
 refine (t_ (lo:=lo) (hi:=hi) I4 hj hm bY (Nat.zero_le _)).mono ?_
 rintro e X ⟨rfl,hs⟩
 have hJ:∃R' M',JS E X0 R0 ps pg rt (w.heap.size+1) w.heap.size (w.heap.size+2) lim lo hi (l.foldl (aX lim lo hi) []) R' M' X:=by
  rcases hs with⟨rfl,rfl,R',M',hj',-⟩|⟨K,T,rfl,rfl,hnd,hok,hst,R',M',hj',-⟩
  ·exact⟨R',M',hj'⟩
  ·rw[(uh K T hok []).1] at hj'
   exact⟨R',M',hj'⟩
 obtain⟨R',M',hj'⟩:=hJ
 obtain⟨sv,hk',ho,nH⟩:=hj'.row
 obtain⟨a,c,rfl,hc⟩:=Own.slice ho
 exact⟨rfl,a,_,c,hk'.cell (j:=0) rfl,ho,R',M',hj'.ts,fun b hb=>⟨(nH b hb).1,(nH b hb).2.1⟩⟩
end
section
variable {w:World} {tb:Nat}
theorem Cx {G:World→Prop} {n:Nat}
  (hE:∀W,W=w.alloc (.cells #[.int .i64 0] 3)→Calls Tryz.prog 38 #[ptr tb,.agg #[.string ⟨#[]⟩,.string ⟨#[]⟩],.func (.func 50) #[] #[ptr w.heap.size]] W fun e X=>e=.returned (.int .i64 0)∧X.cell? ⟨w.heap.size,0,none⟩=some (.int .i64 n)∧G X):
  Calls Tryz.prog 28 #[ptr tb] w fun e w'=>e=.returned (.tuple #[.int .i64 n,.int .i64 0])∧G w':=by
 obtain⟨W0,kC⟩:∃W0,W0=w.alloc (.cells #[.int .i64 0] 3):=⟨_,rfl⟩
 have HE:=aa (hE W0 kC)
 clear hE
 unfold ptr at HE ⊢
 go_enter Tryz.func28,Tryz.ntmps28
 go_wp2_with fail
 rw[←kC]
 refine HE.out.mono ?_
 rintro e X ⟨rfl,c0,hG⟩
 have HG:=aa hG
 clear hG kC
 go_wp2_with fail
 go_ret2
 exact⟨rfl,HG.out⟩
theorem Cy {Q:Value→World→Prop} 
  (hE:∀W,W=w.alloc (.cells #[.slice none 0 0] 56)→Calls Tryz.prog 38 #[ptr tb,.agg #[.string ⟨#[]⟩,.string ⟨#[]⟩],.func (.func 42) #[] #[ptr w.heap.size]] W fun e X=>e=.returned (.int .i64 0)∧∃(a:Option Addr) (n c:Nat),X.cell? ⟨w.heap.size,0,none⟩=some (.slice a n c)∧n≤1000000∧
   Calls Tryz.prog 43 #[.slice a n c] X fun e X'=>e=.returned (.tuple #[])∧X'.cell? ⟨w.heap.size,0,none⟩=some (.slice a n c)∧Q (.slice a n c) X'):
  Calls Tryz.prog 23 #[ptr tb] w fun e w'=>∃v,e=.returned (.tuple #[v,.int .i64 0])∧Q v w':=by
 obtain⟨W0,kC⟩:∃W0,W0=w.alloc (.cells #[.slice none 0 0] 56):=⟨_,rfl⟩
 have HE:=aa (hE W0 kC)
 clear hE
 unfold ptr at HE ⊢
 go_enter Tryz.func23,Tryz.ntmps23
 go_wp2_with fail
 rw[←kC]
 refine HE.out.mono ?_
 rintro e X ⟨rfl,a,n,c,c0,hn,hsort⟩
 have HS:=aa hsort
 clear hsort kC
 go_wp2_with fail
 refine HS.out.mono ?_
 rintro e X2 ⟨rfl,c1,hQ⟩
 have HQ:=aa hQ
 clear hQ c0
 go_wp2_with fail
 go_ret2
 exact⟨_,rfl,HQ.out⟩
theorem Cz {Q:Nat→World→Prop} (hP:Calls Tryz.prog 23 #[ptr tb] w fun e w'=>∃(a:Option Addr) (n c:Nat),e=.returned (.tuple #[.slice a n c,.int .i64 0])∧Q n w'):
  Calls Tryz.prog 29 #[ptr tb] w fun e w'=>∃n:Nat,e=.returned (.tuple #[.int .i64 n,.int .i64 0])∧Q n w':=by
 have HP:=aa hP
 clear hP
 unfold ptr at HP ⊢
 go_enter Tryz.func29,Tryz.ntmps29
 go_wp2_with fail
 refine HP.out.mono ?_
 rintro e X ⟨a,n,c,rfl,hQ⟩
 have HQ:=aa hQ
 clear hQ
 go_wp2_with fail
 go_ret2
 exact⟨n,rfl,HQ.out⟩
end
section
open Go.Sort
theorem Fl (w:World) {B:Nat} {v:Value} {l:List Int} (h:eo B w v l) (hl:l.length≤1000000000):
  Calls Tryz.prog 43 #[v] w fun e w'=>e=.returned (.tuple #[])∧eo B w' v (l.mergeSort fun x y=>decide (x≤y))∧aj (fun b=>v.ownBlock=some b) w w':=by
 rcases h.2 with⟨rfl,h0⟩|⟨g,cap,cur,rfl,hg,hb,h1,h2,h3,h4⟩
 ·refine (AnyM.slices_Sort_int_none sortA none 0 w).mono ?_
  rintro e w' ⟨rfl,rfl⟩
  obtain rfl:=List.length_eq_zero_iff.1 h0
  exact⟨rfl,by rw[List.mergeSort_nil];exact h,aj.refl _ _⟩
 ·have ht:cur.toList.take l.length=l.map (Value.int .i64):=by
   have e:(cO .i64).cells l=l.map (Value.int .i64):=bP _ _ _
   rw[←e,←h4]
   show cur.toList.take l.length=cur.toList.take (l.length*1)
   rw[Nat.mul_one]
  refine (AnyM.slices_Sort_int sortA g 0 cap l w (holds_of_blockI hb ht) (Array.getElem?_eq_some_iff.1 hb).1 (by omega)).mono ?_
  rintro e w' ⟨rfl,n,os,rfl⟩
  have hlen:(l.mergeSort fun x y=>decide (x≤y)).length=l.length:=List.length_mergeSort _
  refine⟨rfl, ?_, ?_⟩
  ·unfold eo Own
   rw[hlen,show (cO .i64).cells (l.mergeSort fun x y=>decide (x≤y))=(l.mergeSort fun x y=>decide (x≤y)).map (Value.int .i64) from bP _ _ _]
   exact ownsRow_sortedI hlen hg hb h1 h2 h3
  ·have cP:=grownBy_sortedI (w:=w) (g:=g) (n:=n) (os:=os) (l.mergeSort fun x y=>decide (x≤y)).toArray
   exact (aj.refl _ w).grown cP fun k e _=>e
end
section
variable {E:Ev} {X0 X X' w:World} {R0 R R':Nat→Prop} {ps:List (Nat×List UInt8)} {pg:List (Option Wl.Text)} {rt:List Nat} {l:List (Tr.Tx×Tr.Tx)} {pages:List Nat}
theorem uX (h:TS E X0 R0 R ps pg rt (fun _=>none) w) (hm:eC pg (rt.getD E.place 0) l pages) (bY:E.place<16):
  Calls Tryz.prog 28 #[ptr E.tb] w fun e w'=>e=.returned (.tuple #[.int .i64 l.length,.int .i64 0])∧kG E X0 R0 ps pg rt w':=by
 refine Cx fun W hW=> ?_
 have hb:Below w.heap.size w W:=by rw[hW];exact (Below.refl _ w).alloc (Nat.le_refl _) _
 have hk:aG W w.heap.size 3 [.int .i64 0]:=by rw[hW];exact aG.new w _ _
 have hj:JC E X0 R0 ps pg rt w.heap.size 0 (fun b=>R b∨b=w.heap.size) (fun _=>none) W:=⟨h.still hb (fun _ h=>.inl h) (fun b hb=>hb.imp_right fun e=>by rw[e];exact⟨Nat.le_refl _,hk.lt⟩),hk,.inr rfl,h.but.size,fun ⟨_,_,e,_⟩=>by cases e⟩
 refine (t_ (lo:=[]) (hi:=[]) Fb hj hm bY (Nat.zero_le _)).mono ?_
 rintro e X ⟨rfl,⟨rfl,rfl,R',M',hj',-⟩|⟨K,T,rfl,rfl,hnd,hok,hst,R',M',hj',-⟩⟩
 ·exact⟨rfl,hj'.blk.cell (j:=0) rfl,R',M',hj'.ts⟩
 ·rw[qM K T hok 0] at hj'
  have:=hj'.blk.cell (j:=0) rfl
  rw[Nat.zero_add] at this
  exact⟨rfl,this,R',M',hj'.ts⟩
structure RZ (E:Ev) (X0:World) (R0:Nat→Prop) (ps:List (Nat×List UInt8)) (pg:List (Option Wl.Text)) (rt:List Nat) (pages:List Nat) (v:Value) (w':World):Prop where
 row:eo X0.heap.size w' v ((pages.map fun n:Nat=>(n:Int)).mergeSort fun x y=>decide (x≤y))
 kept:∃R M,TS E X0 R0 R ps pg rt M w'∧∀b,v.ownBlock=some b→R b
theorem mU (h:TS E X0 R0 R ps pg rt (fun _=>none) w) (hm:eC pg (rt.getD E.place 0) l pages) (bY:E.place<16):
  Calls Tryz.prog 23 #[ptr E.tb] w fun e w'=>∃v,e=.returned (.tuple #[v,.int .i64 0])∧RZ E X0 R0 ps pg rt pages v w':=by
 refine Cy fun W hW=> ?_
 have hb:Below w.heap.size w W:=by rw[hW];exact (Below.refl _ w).alloc (Nat.le_refl _) _
 have hk:aG W w.heap.size 56 [.slice none 0 0]:=by rw[hW];exact aG.new w _ _
 have hj:JP E X0 R0 ps pg rt w.heap.size [] (fun b=>R b∨b=w.heap.size) (fun _=>none) W:=⟨h.still hb (fun _ h=>.inl h) (fun b hb=>hb.imp_right fun e=>by rw[e];exact⟨Nat.le_refl _,hk.lt⟩),⟨.inr rfl,h.but.size,fun ⟨_,_,e,_⟩=>by cases e⟩,.slice none 0 0,hk,Own.nil _ _ _ _,fun b hb=>by cases hb⟩
 have xf:pages.length≤1000000:=by
  have h2:=h.rm.rep.few
  have hmm:=hm
  rcases hm with⟨_,_,rfl⟩|⟨K,T,page,_,_,_,_,_,_,h7,h8⟩
  ·exact Nat.zero_le _
  ·have:=cT h8 fun x hx=>aY (eT hmm x hx)
   omega
 refine (t_ (lo:=[]) (hi:=[]) Fc hj hm bY (Nat.zero_le _)).mono ?_
 rintro e X ⟨rfl,hs⟩
 have hJ:∃R' M',JP E X0 R0 ps pg rt w.heap.size (pages.map fun n:Nat=>(n:Int)) R' M' X:=by
  rcases hs with⟨rfl,rfl,R',M',hj',-⟩|⟨K,T,rfl,rfl,hnd,hok,hst,R',M',hj',-⟩
  ·exact⟨R',M',hj'⟩
  ·rw[qN K T hok hst []] at hj'
   exact⟨R',M',hj'⟩
 obtain⟨R',M',hj'⟩:=hJ
 obtain⟨sv,hk',ho,nH⟩:=hj'.row
 obtain⟨a,c,rfl,hc⟩:=Own.slice ho
 have hlen:(pages.map fun n:Nat=>(n:Int)).length=pages.length:=List.length_map _
 refine⟨rfl,a,_,c,hk'.cell (j:=0) rfl,by rw[hlen];exact xf,(Fl X (B:=X0.heap.size) ?_ (by rw[hlen];omega)).mono ?_⟩
 ·refine⟨ho.1,ho.2.imp_right ?_⟩
  rintro⟨g,cap,cur,h1,h2,h3⟩
  exact⟨g,cap,cur,h1,(nH g (by rw[h1];rfl)).2.1,h3⟩
 ·rintro e X2 ⟨rfl,cR,aC⟩
  have hne:=Own.bK ho hk' (by decide)
  refine⟨rfl,(hk'.but aC hne).cell (j:=0) rfl,cR,R',M',hj'.ts.own aC (fun b _ hb=>⟨(nH b hb).1,(nH b hb).2.1⟩) (hj'.ts.mem.keep aC fun b hm2 e=>(nH b e).2.2 hm2) hj'.ts.gM (fun _ h=>h) (fun _ h=>.inl h),fun b hb=>(nH b hb).1⟩
theorem uY (h:TS E X0 R0 R ps pg rt (fun _=>none) w) (hm:eC pg (rt.getD E.place 0) l pages) (bY:E.place<16):
  Calls Tryz.prog 29 #[ptr E.tb] w fun e w'=>e=.returned (.tuple #[.int .i64 pages.length,.int .i64 0])∧kG E X0 R0 ps pg rt w':=by
 refine (Cz (Q:=fun n w'=>n=pages.length∧kG E X0 R0 ps pg rt w') ((mU h hm bY).mono ?_)).mono ?_
 ·rintro e X ⟨v,rfl,hr⟩
  obtain⟨a,c,rfl,hc⟩:=Own.slice hr.row
  obtain⟨R',M',hts,-⟩:=hr.kept
  exact⟨a,_,c,rfl,by rw[List.length_mergeSort,List.length_map],R',M',hts⟩
 ·rintro e w' ⟨n,rfl,rfl,hk⟩
  exact⟨rfl,hk⟩
end
section
variable {w:World} {tb:Nat}
theorem I_ {key vl:ByteArray} {G:World→Prop} (kI:96<key.size∨56<vl.size)
  (hF:Calls Tryz.prog 32 #[ptr tb,.string key] w fun e X=>∃v,e=.returned (.tuple #[v,.int .i64 0])∧G X):
  Calls Tryz.prog 13 #[ptr tb,.string key,.string vl] w fun e w'=>e=.returned (.int .i64 5)∧G w':=by
 have HF:=aa hF
 clear hF
 unfold ptr at HF ⊢
 go_enter Tryz.func13,Tryz.ntmps13
 go_wp2_with fail
 refine HF.out.mono ?_
 rintro e X ⟨v,rfl,hG⟩
 have HG:=aa hG
 clear hG
 by_cases hk:96<key.size
 ·have pH:(key.size:Int)>96:=by omega
  go_wp2_with fail
  go_ret
  exact⟨rfl,HG.out⟩
 ·have pH:¬(key.size:Int)>96:=by omega
  have Jx:(vl.size:Int)>56:=by omega
  go_wp2_with fail
  go_ret
  exact⟨rfl,HG.out⟩
end
section
variable {E:Ev} {X0 w:World} {R0 R:Nat→Prop} {ps:List (Nat×List UInt8)} {pg:List (Option Wl.Text)} {rt:List Nat} {l:List (Tr.Tx×Tr.Tx)} {pages:List Nat} {key vl:List UInt8}
theorem Lx (h:TS E X0 R0 R ps pg rt (fun _=>none) w) (hm:eC pg (rt.getD E.place 0) l pages) (kI:96<key.length∨56<vl.length) (bY:E.place<16):
  Calls Tryz.prog 13 #[ptr E.tb,.string (bs key),.string (bs vl)] w fun e w'=>e=.returned (.int .i64 5)∧kG E X0 R0 ps pg rt w':=by
 refine I_ (by rw[aB,aB];exact kI) ((o9 h bY hm key).mono ?_)
 rintro e X (⟨rfl,h0,h1,h2,hb⟩|⟨K,T,q,pw,rfl,h1,h2,h3,R',M,m,c,path,pre,post,out,f⟩)
 ·exact⟨_,rfl,_,_,h.still hb (fun _ h=>h) (fun _ h=>.inl h)⟩
 ·exact⟨_,rfl,_,_,f.ts⟩
end
section
variable {w X:World} {R:Nat→Prop} {ring g N lb xb rb tb place:Nat} {H:List Wl.Text} {ps:List (Nat×List UInt8)} {pg:List (Option Wl.Text)} {rt:List Nat}
theorem iz (w:World) (rb:Nat) (place:Int):Calls Tryz.prog 11 #[ptr rb,.int .i64 place] w fun e w'=>e=.returned (ptr w.heap.size)∧w'=w.alloc (.cells #[ptr rb,.int .i64 place] 81):=by
 unfold ptr
 go_enter Tryz.func11,Tryz.ntmps11
 go_wp2_with fail
 go_ret
 exact⟨rfl,rfl⟩
theorem Ja (h:gA R ring g N lb xb rb H ps pg rt X) (ht:aG X tb 81 [ptr rb,.int .i64 place]) (hr:R tb):TS ⟨ring,g,N,lb,xb,rb,tb,place,H⟩ X R R ps pg rt (fun _=>none) X:=
 ⟨h,fun _ h=>h,fun _ h=>.inl h,aj.refl _ _,ht,hr,⟨fun _ _ e=>(by cases e),fun _ _ e=>(by cases e),fun _ _ _ _ e=>(by cases e),fun _ _ e=>(by cases e)⟩,fun _ ⟨_,_,e,_⟩=>(by cases e),h.c.lt,h.rr⟩
end
theorem ym {pg bN:List (Option Wl.Text)} {pages pages' o:List Nat} (h:Cj pg bN pages pages') (hn:(pages++o).Nodup) (ht:∀x∈o,(pg.getD x none).isSome=true) (hp:pages'.Nodup):(∀x∈o,bN.getD x none=pg.getD x none)∧(pages'++o).Nodup:=by
 have hno:∀x∈o,x∉pages∧x∉pages':=fun x hx=>by
  have h1:x∉pages:=fun hp=>(List.nodup_append.1 hn).2.2 x hp x hx rfl
  refine⟨h1,fun h2=> ?_⟩
  have h3:=h.iF x h2 h1
  have h4:=ht x hx
  rw[h3] at h4;cases h4
 exact⟨fun x hx=>h.same x (hno x hx).1 (hno x hx).2,List.nodup_append.2 ⟨hp,(List.nodup_append.1 hn).2.1,fun a ha b hb e=>(hno b hb).2 (by rw[←e];exact ha)⟩⟩
theorem qP {pg:List (Option Wl.Text)} {num:Nat} {l:List (Tr.Tx×Tr.Tx)} {pages:List Nat} (h:eC pg num l pages):pages.Nodup:=by
 rcases h with⟨_,_,rfl⟩|⟨_,_,_,_,_,_,_,_,_,_,h8⟩
 ·exact List.nodup_nil
 ·exact h8
structure MS (ring g N lb xb rb:Nat) (H:List Wl.Text) (tb place:Nat) (o:List Nat) (R:Nat→Prop) (ps:List (Nat×List UInt8)) (pg:List (Option Wl.Text)) (rt:List Nat) (l:List (Tr.Tx×Tr.Tx)) (pages:List Nat) (X:World):Prop where
 rm:gA R ring g N lb xb rb H ps pg rt X
 tr:aG X tb 81 [ptr rb,.int .i64 place]
 own:R tb
 AA:place<16
 ok:eC pg (rt.getD place 0) l pages
 nd:(pages++o).Nodup
 tk:∀x∈o,(pg.getD x none).isSome=true
 us:Rm.used pg=pages.length+o.length
structure Mv (R R':Nat→Prop) (ps ps':List (Nat×List UInt8)) (pg bN:List (Option Wl.Text)) (rt rt':List Nat) (place:Nat) (o:List Nat) (X X':World):Prop where
 but:aj (fun k=>¬R k) X X'
 sub:∀k,R k→R' k
 new:∀k,R' k→R k∨X.heap.size≤k
 few:ps'.length≤ps.length+30000
 len:bN.length=pg.length
 same:∀x∈o,bN.getD x none=pg.getD x none
 pQ:∃num,rt'=rt.set place num
section
variable {ring g N lb xb rb tb place:Nat} {H:List Wl.Text} {o pages pages':List Nat} {R R':Nat→Prop} {ps ps':List (Nat×List UInt8)} {pg bN:List (Option Wl.Text)} {rt rt':List Nat} {l l':List (Tr.Tx×Tr.Tx)} {X X':World} {key vl:List UInt8}
theorem MS.ts (h:MS ring g N lb xb rb H tb place o R ps pg rt l pages X):TS ⟨ring,g,N,lb,xb,rb,tb,place,H⟩ X R R ps pg rt (fun _=>none) X:=Ja h.rm h.tr h.own
theorem MS.stored {tgt:List (Tr.Tx×Tr.Tx)} {c:Int} (h:MS ring g N lb xb rb H tb place o R ps pg rt l pages X) (s:iR ⟨ring,g,N,lb,xb,rb,tb,place,H⟩ X R ps pg rt tgt pages c X'):c=0∧∃R' ps' bN rt' pages',MS ring g N lb xb rb H tb place o R' ps' bN rt' tgt pages' X'∧Mv R R' ps ps' pg bN rt rt' place o X X':=by
 obtain⟨rfl,R',M',ps',bN,num,pages',hts,hl,hok,ht⟩:=s
 obtain⟨h1,h2⟩:=ym ht h.nd h.tk (qP hok)
 have bY:place<rt.length:=by rw[h.rm.rep.pQ];exact h.AA
 refine⟨rfl,R',ps',bN,rt.set place num,pages',⟨hts.rm,hts.tree,hts.sub _ h.own,h.AA, ?_,h2,fun x hx=>by rw[h1 x hx];exact h.tk x hx, ?_⟩,⟨hts.but.mono fun k _ hn hk=>hn hk,hts.sub,hts.new,hl,ht.len,h1,num,rfl⟩⟩
 ·rw[List.getD_eq_getElem?_getD,List.getElem?_set_self bY]
  exact hok
 ·have h3:=ht.used
  have h4:=h.us
  omega
theorem MS.kept (h:MS ring g N lb xb rb H tb place o R ps pg rt l pages X) (s:kG ⟨ring,g,N,lb,xb,rb,tb,place,H⟩ X R ps pg rt X'):∃R',MS ring g N lb xb rb H tb place o R' ps pg rt l pages X'∧Mv R R' ps ps pg pg rt rt place o X X':=by
 obtain⟨R',M',hts⟩:=s
 have bY:place<rt.length:=by rw[h.rm.rep.pQ];exact h.AA
 exact⟨R',⟨hts.rm,hts.tree,hts.sub _ h.own,h.AA,h.ok,h.nd,h.tk,h.us⟩,⟨hts.but.mono fun k _ hn hk=>hn hk,hts.sub,hts.new,by omega,rfl,fun _ _=>rfl,rt.getD place 0,(dH rfl bY).symm⟩⟩
theorem Jb (h:MS ring g N lb xb rb H tb place o R ps pg rt l pages X) (hk:key.length≤96) (hv:vl.length≤56) (hq:ps.length≤60000000):
  Calls Tryz.prog 13 #[ptr tb,.string (bs key),.string (bs vl)] X fun e X'=>(e=.returned (.int .i64 0)∧∃R' ps' bN rt' pages',MS ring g N lb xb rb H tb place o R' ps' bN rt' (Tr.put l key vl) pages' X'∧Mv R R' ps ps' pg bN rt rt' place o X X')∨
   (e=.returned (.int .i64 4)∧pg.length<Rm.used pg+20∧∃R',MS ring g N lb xb rb H tb place o R' ps pg rt l pages X'∧Mv R R' ps ps pg pg rt rt place o X X'):=by
 refine (Ls h.ts h.ok hk hv hq h.AA).mono ?_
 rintro e X' ⟨c,rfl,s|⟨rfl,h1,s⟩⟩
 ·obtain⟨rfl,hs⟩:=h.stored s
  exact .inl ⟨rfl,hs⟩
 ·exact .inr ⟨rfl,h1,h.kept s⟩
theorem Ow (h:MS ring g N lb xb rb H tb place o R ps pg rt l pages X) (hb:96<key.length∨56<vl.length):
  Calls Tryz.prog 13 #[ptr tb,.string (bs key),.string (bs vl)] X fun e X'=>e=.returned (.int .i64 5)∧∃R',MS ring g N lb xb rb H tb place o R' ps pg rt l pages X'∧Mv R R' ps ps pg pg rt rt place o X X':=by
 refine (Lx h.ts h.ok hb h.AA).mono ?_
 rintro e X' ⟨rfl,s⟩
 exact⟨rfl,h.kept s⟩
theorem CA {l:List (Tr.Tx×Tr.Tx)} (h:Tr.got l key=none):Tr.del l key=l:=by
 unfold Tr.del
 refine List.filter_eq_self.2 fun p hp=> ?_
 rw[bne_iff_ne]
 intro e
 unfold Tr.got at h
 have h2:l.find? (fun p=>p.1==key)=none:=by
  cases h3:l.find? fun p=>p.1==key with
  |none=>rfl
  |some q=>rw[h3] at h;cases h
 have:=List.find?_eq_none.1 h2 p hp
 exact this (by rw[e];exact beq_self_eq_true key)
theorem Jc (h:MS ring g N lb xb rb H tb place o R ps pg rt l pages X) (hq:ps.length≤60000000):
  Calls Tryz.prog 16 #[ptr tb,.string (bs key)] X fun e X'=>e=.returned (.tuple #[.bool (Tr.got l key).isSome,.int .i64 0])∧∃R' ps' bN rt' pages',MS ring g N lb xb rb H tb place o R' ps' bN rt' (Tr.del l key) pages' X'∧Mv R R' ps ps' pg bN rt rt' place o X X':=by
 refine (Lw h.ts h.ok hq h.AA).mono ?_
 rintro e X' (⟨rfl,h1,s⟩|⟨rfl,h1,s⟩)
 ·rw[h1,CA h1]
  obtain⟨R',h2,h3⟩:=h.kept s
  exact⟨rfl,R',ps,pg,rt,pages,h2,h3⟩
 ·rw[h1]
  exact⟨rfl,(h.stored s).2⟩
theorem Jd (h:MS ring g N lb xb rb H tb place o R ps pg rt l pages X):
  Calls Tryz.prog 18 #[ptr tb,.string (bs key)] X fun e X'=>e=.returned (.tuple #[.string (bs ((Tr.got l key).getD [])),.bool (Tr.got l key).isSome,.int .i64 0])∧∃R',MS ring g N lb xb rb H tb place o R' ps pg rt l pages X'∧Mv R R' ps ps pg pg rt rt place o X X':=by
 refine (Lu h.ts h.ok h.AA).mono ?_
 rintro e X' ⟨rfl,s⟩
 exact⟨rfl,h.kept s⟩
theorem AB (h:MS ring g N lb xb rb H tb place o R ps pg rt l pages X):
  Calls Tryz.prog 28 #[ptr tb] X fun e X'=>e=.returned (.tuple #[.int .i64 l.length,.int .i64 0])∧∃R',MS ring g N lb xb rb H tb place o R' ps pg rt l pages X'∧Mv R R' ps ps pg pg rt rt place o X X':=by
 refine (uX h.ts h.ok h.AA).mono ?_
 rintro e X' ⟨rfl,s⟩
 exact⟨rfl,h.kept s⟩
theorem AD (h:MS ring g N lb xb rb H tb place o R ps pg rt l pages X):
  Calls Tryz.prog 29 #[ptr tb] X fun e X'=>e=.returned (.tuple #[.int .i64 pages.length,.int .i64 0])∧∃R',MS ring g N lb xb rb H tb place o R' ps pg rt l pages X'∧Mv R R' ps ps pg pg rt rt place o X X':=by
 refine (uY h.ts h.ok h.AA).mono ?_
 rintro e X' ⟨rfl,s⟩
 exact⟨rfl,h.kept s⟩
end
theorem Je:∀(k:Nat) (c:Tr.E (k+1)) {lo:Tr.Tx} {h:Option Tr.Tx},Tr.Ok (k+1) lo h c→0<(Tr.bE k (Tr.its c)).length
 |0,c,_,_,ho=>List.length_pos_iff.2 ho.1
 |k+1,c,lo,h,ho=>by
  obtain⟨p,l,hp⟩:=List.exists_cons_of_ne_nil ho.1
  obtain⟨lo',h',ho'⟩:=mj ho p (by rw[hp];exact List.mem_cons_self)
  have:=Je k p.2 ho'
  rw[hp,ug,List.length_append]
  omega
theorem f_ {pg:List (Option Wl.Text)} {num:Nat} {l:List (Tr.Tx×Tr.Tx)} {pages:List Nat} (h:eC pg num l pages):pages.length≤2*l.length+16∧(pages.length=0↔l.length=0):=by
 rcases h with⟨_,rfl,rfl⟩|⟨K,T,page,_,hp,hk,hst,hok,rfl,rfl,_⟩
 ·exact⟨Nat.zero_le _,Iff.rfl⟩
 ·have h1:=Tr.x_ (K+1) T
  have h2:Tr.dr (K+1) T=0:=nI hst
  have h3:=Je K T hok
  have h4:0<(Tr.bg (K+1) T).length:=by
   rw[Tr.aK,hp,List.length_append]
   show 0<([page]:List Nat).length+_
   rw[List.length_singleton];omega
  refine⟨?_,⟨fun h=>by omega,fun h=>by omega⟩⟩
  match K,T,hk,hok,h1,h2,h3,h4 with
  |0,T,_,hok,h1,h2,h3,h4=>
   have h5:Tr.cnt 1 T=1:=Tr.Ak T
   have h6:Tr.cnt (0+1) T=Tr.cnt 1 T:=rfl
   omega
  |k+1,T,hk,hok,h1,h2,h3,h4=>
   have h5:=(Tr.nJ k hok.1 hok.2.2).1
   have h6:Tr.cnt (k+1+1) T=Tr.cnt (k+2) T:=rfl
   have h7:1≤(Tr.its T).length:=List.length_pos_iff.2 hok.1
   have h8:3*2^k*1≤3*2^k*(Tr.its T).length:=Nat.mul_le_mul_left _ h7
   omega
end Go.Proofs.YtloekpcncjocaaaGreatDoor
namespace Go.Proofs.YtloekpcncjocaaaGreatDoor
namespace Tr
theorem j4 {f:Tx×Tx→Bool} {k:Tx} (h:∀p:Tx×Tx,p.1=k→f p=true):∀l:bt,got (l.filter f) k=got l k
 |[]=>rfl
 |a::l=>by
  have ih:=j4 h l
  unfold got at ih ⊢
  rw[List.filter_cons]
  by_cases e:a.1=k
  ·rw[if_pos (h a e),List.find?_cons_of_pos (by simpa using e),List.find?_cons_of_pos (by simpa using e)]
  ·rw[List.find?_cons_of_neg (l:=l) (by simpa using e)]
   split
   ·rw[List.find?_cons_of_neg (by simpa using e)];exact ih
   ·exact ih
theorem AE {a:Tx×Tx} {l:bt} {k:Tx} (h:a.1≠k):got (a::l) k=got l k:=by
 unfold got
 rw[List.find?_cons_of_neg (by simpa using h)]
theorem qQ {a:Tx×Tx} {l:bt} {k:Tx} (h:a.1=k):got (a::l) k=some a.2:=by
 unfold got
 rw[List.find?_cons_of_pos (by simpa using h)]
 rfl
theorem Lz (l:bt) (key v k:Tx):got (put l key v) k=if k=key then some v else got l k:=by
 unfold put
 by_cases e:k=key
 ·subst e
  rw[if_pos rfl,j3 fun p hp=>ne_of_lt (by simpa using (List.mem_filter.1 hp).2),qQ rfl]
 ·rw[if_neg e]
  cases h1:lt k key with
  |true=>
   rw[wC fun p hp=> ?_,j4 fun p hp=>by rw[hp];exact h1]
   rcases List.mem_cons.1 hp with rfl|hp
   ·exact fun h=>e h.symm
   ·intro h
    have h2:lt key p.1=true:=by simpa using (List.mem_filter.1 hp).2
    rw[h,lt_asymm h1] at h2;cases h2
  |false=>
   cases h2:lt key k with
   |true=>
    rw[j3 fun p hp h=> ?_,AE (fun h=>e h.symm),j4 fun p hp=>by rw[hp];exact h2]
    have h3:lt p.1 key=true:=by simpa using (List.mem_filter.1 hp).2
    rw[h,h1] at h3;cases h3
   |false=>exact absurd (ff _ _ h1 h2) e
theorem LA (l:bt) (key k:Tx):got (del l key) k=if k=key then none else got l k:=by
 unfold del
 by_cases e:k=key
 ·rw[if_pos e,e]
  exact lF fun p hp=>by simpa using (List.mem_filter.1 hp).2
 ·rw[if_neg e]
  exact j4 (fun p hp=>by rw[hp];simpa using e) l
theorem yp {l:bt} {key:Tx} (h:(got l key).isSome=true):∃p∈l,p.1=key:=by
 apply Classical.byContradiction
 intro hn
 rw[lF (key:=key) fun p hp e=>hn ⟨p,hp,e⟩] at h
 cases h
theorem AF {l:bt} {key:Tx} (h:got l key=none):∀p∈l,p.1≠key:=by
 intro p hp e
 unfold got at h
 have h2:l.find? (fun p=>p.1==key)=none:=by
  cases h3:l.find? fun p=>p.1==key with
  |none=>rfl
  |some q=>rw[h3] at h;cases h
 exact List.find?_eq_none.1 h2 p hp (by simpa using e)
theorem wF {f g:Tx×Tx→Bool}:∀{l:bt},(∀p∈l,f p= !g p)→(l.filter f).length+(l.filter g).length=l.length
 |[],_=>rfl
 |a::l,h=>by
  have ih:=wF (f:=f) (g:=g) (l:=l) fun p hp=>h p (List.mem_cons_of_mem _ hp)
  have ha:=h a List.mem_cons_self
  rw[List.filter_cons,List.filter_cons]
  cases e:g a with
  |true=>rw[e] at ha;rw[ha];simp only[Bool.not_true,Bool.false_eq_true,if_false,if_true,List.length_cons];omega
  |false=>rw[e] at ha;rw[ha];simp only[Bool.not_false,Bool.false_eq_true,if_false,if_true,List.length_cons];omega
theorem uj {l:bt} {key:Tx} (v:Tx) (h:got l key=none):(put l key v).length=l.length+1:=by
 have hn:=AF h
 unfold put
 rw[List.length_append,List.length_cons,←Nat.add_assoc]
 rw[wF fun p hp=> ?_]
 cases e:lt key p.1 with
 |true=>rw[lt_asymm e];rfl
 |false=>
  cases e2:lt p.1 key with
  |true=>rfl
  |false=>exact absurd (ff _ _ e2 e) (hn p hp)
theorem Du {f g:Tx×Tx→Bool} (h:∀p,¬(f p=true∧g p=true)):∀l:bt,(l.filter f).length+(l.filter g).length≤l.length
 |[]=>Nat.le_refl _
 |a::l=>by
  have ih:=Du h l
  rw[List.filter_cons,List.filter_cons]
  cases e1:f a<;>cases e2:g a
  ·simp only[Bool.false_eq_true,if_false,List.length_cons];omega
  ·simp only[Bool.false_eq_true,if_false,if_true,List.length_cons];omega
  ·simp only[Bool.false_eq_true,if_false,if_true,List.length_cons];omega
  ·exact absurd ⟨e1,e2⟩ (h a)
theorem jc (l:bt) (key v:Tx):(put l key v).length≤l.length+1:=by
 have h1:=Du (f:=fun p=>lt p.1 key) (g:=fun p=>lt key p.1) (fun p h=>by have:=lt_asymm h.1;rw[h.2] at this;cases this) l
 unfold put
 rw[List.length_append,List.length_cons]
 omega
theorem mV (l:bt) (key:Tx):(del l key).length≤l.length:=List.length_filter_le _ _
theorem CB {l:bt} {key:Tx} (hr:aP l) (h:(got l key).isSome=true):(del l key).length+1=l.length:=by
 obtain⟨p,hp,rfl⟩:=yp h
 obtain⟨a,b,rfl⟩:=List.append_of_mem hp
 have h1:=List.pairwise_append.1 hr
 have h2:=List.pairwise_cons.1 h1.2.1
 unfold del
 rw[List.filter_append,List.filter_cons,bne_self_eq_false]
 simp only[Bool.false_eq_true,if_false]
 rw[filter_all (l:=a) fun q hq=>bne_iff_ne.2 (ne_of_lt (h1.2.2 q hq p List.mem_cons_self)),filter_all (l:=b) fun q hq=>bne_iff_ne.2 (ne_of_lt (h2.1 q hq)).symm,List.length_append,List.length_append,List.length_cons]
 omega
def cA (l:bt) (key v:Tx) (i:Nat) (out:bt) (done:Bool):Prop:=
 (done=true∧out=put (l.take i) key v∧∀p∈l.drop i,lt key p.1=true)∨(done=false∧out=l.take i∧∀p∈l.take i,lt p.1 key=true)
section
variable {l out:bt} {key v:Tx} {i:Nat} {dn:Bool}
theorem cA.zero:cA l key v 0 [] false:=.inr ⟨rfl,(List.take_zero).symm,fun p hp=>by rw[List.take_zero] at hp;cases hp⟩
theorem cA.before (h:cA l key v i out false) (hi:i<l.length) (hl:lt (l[i]).1 key=true):cA l key v (i+1) (out++[l[i]]) false:=by
 rcases h with⟨h,-⟩|⟨-,h1,h2⟩
 ·cases h
 ·refine .inr ⟨rfl,by rw[h1,List.take_succ_eq_append_getElem hi],fun p hp=> ?_⟩
  rw[List.take_succ_eq_append_getElem hi] at hp
  rcases List.mem_append.1 hp with hp|hp
  ·exact h2 p hp
  ·rw[List.mem_singleton.1 hp];exact hl
theorem qR (hr:aP l) (hi:i<l.length):∀p∈l.drop (i+1),lt (l[i]).1 p.1=true:=by
 have h1:aP (l.drop i):=hr.sublist (List.drop_sublist _ _)
 rw[List.drop_eq_getElem_cons hi] at h1
 exact (List.pairwise_cons.1 h1).1
theorem j5 (h2:∀p∈l,lt p.1 key=true) (w:bt):put (l++w) key v=l++put w key v:=by
 have:=yj (pre:=l) (lf:=w) (post:=[]) (v:=v) h2 (fun p hp=>by cases hp)
 rwa [List.append_nil,List.append_nil] at this
theorem pE (w:bt) (h2:∀p∈w,lt key p.1=true):put (l++w) key v=put l key v++w:=by
 have:=yj (pre:=[]) (lf:=l) (post:=w) (v:=v) (fun p hp=>by cases hp) h2
 rwa [List.nil_append,List.nil_append] at this
theorem Dv:put [] key v=[(key,v)]:=rfl
theorem cA.here (hr:aP l) (h:cA l key v i out false) (hi:i<l.length) (hl:(l[i]).1=key):cA l key v (i+1) (out++[(key,v)]) true:=by
 rcases h with⟨h,-⟩|⟨-,h1,h2⟩
 ·cases h
 ·refine .inl ⟨rfl, ?_,fun p hp=>by have:=qR hr hi p hp;rwa [hl] at this⟩
  rw[List.take_succ_eq_append_getElem hi,j5 h2,h1]
  congr 1
  unfold put
  rw[List.filter_cons,List.filter_cons,hl,lt_irrefl]
  rfl
theorem cA.gap (hr:aP l) (h:cA l key v i out false) (hi:i<l.length) (hl:lt key (l[i]).1=true):cA l key v (i+1) (out++[(key,v)]++[l[i]]) true:=by
 rcases h with⟨h,-⟩|⟨-,h1,h2⟩
 ·cases h
 ·refine .inl ⟨rfl, ?_,fun p hp=>lt_trans hl (qR hr hi p hp)⟩
  rw[List.take_succ_eq_append_getElem hi,j5 h2,h1,List.append_assoc]
  congr 1
  have:=pE (l:=[]) (key:=key) (v:=v) [l[i]] fun p hp=>by rw[List.mem_singleton.1 hp];exact hl
  rw[List.nil_append,Dv] at this
  exact this.symm
theorem cA.above (h:cA l key v i out true) (hi:i<l.length):lt key (l[i]).1=true:=by
 rcases h with⟨-,-,h2⟩|⟨h,-⟩
 ·exact h2 _ (by rw[List.drop_eq_getElem_cons hi];exact List.mem_cons_self)
 ·cases h
theorem cA.behind (h:cA l key v i out true) (hi:i<l.length):cA l key v (i+1) (out++[l[i]]) true:=by
 have ha:=h.above hi
 rcases h with⟨-,h1,h2⟩|⟨h,-⟩
 ·refine .inl ⟨rfl, ?_,fun p hp=>h2 p (by rw[List.drop_eq_getElem_cons hi];exact List.mem_cons_of_mem _ hp)⟩
  rw[List.take_succ_eq_append_getElem hi,h1,pE _ fun p hp=>by rw[List.mem_singleton.1 hp];exact ha]
 ·cases h
theorem cA.fin (h:cA l key v l.length out true):out=put l key v:=by
 rcases h with⟨-,h1,-⟩|⟨h,-⟩
 ·rwa [List.take_length] at h1
 ·cases h
theorem cA.last (h:cA l key v l.length out false):out++[(key,v)]=put l key v:=by
 rcases h with⟨h,-⟩|⟨-,h1,h2⟩
 ·cases h
 ·rw[List.take_length] at h1 h2
  have:=j5 (v:=v) h2 []
  rw[List.append_nil,Dv] at this
  rw[h1,this]
theorem cA.len (h:cA l key v i out dn):out.length≤i+1:=by
 rcases h with⟨-,h1,-⟩|⟨-,h1,-⟩
 ·have:=jc (l.take i) key v
  rw[List.length_take] at this
  rw[h1];omega
 ·rw[h1,List.length_take];omega
end
end Tr
end Go.Proofs.YtloekpcncjocaaaGreatDoor
namespace Go.Proofs.YtloekpcncjocaaaGreatDoor
open Go.RowKit Lib
section
variable {ring g N lb xb rb tb place:Nat} {H:List Wl.Text} {o pages pages':List Nat} {R R' S:Nat→Prop} {ps ps':List (Nat×List UInt8)} {pg bN:List (Option Wl.Text)} {rt rt':List Nat} {l l':List (Tr.Tx×Tr.Tx)} {X X':World} {key vl:List UInt8} {M:Nat→Option NV}
theorem MS.gq (h:MS ring g N lb xb rb H tb place o R ps pg rt l pages X) (hb:aj S X X') (hS:∀k,k<X.heap.size→S k→R k) (hr:¬S rb) (ht:¬S tb) (vI:∀k,R' k→R k∨(X.heap.size≤k∧k<X'.heap.size)) (hr':R' rb) (ht':R' tb):MS ring g N lb xb rb H tb place o R' ps pg rt l pages X':=
 ⟨h.rm.gq hb hS hr vI hr',h.tr.but hb ht,ht',h.AA,h.ok,h.nd,h.tk,h.us⟩
theorem MS.hold (h:MS ring g N lb xb rb H tb place o R ps pg rt l pages X) (hb:Below X.heap.size X X') (vI:∀k,R' k→R k∨(X.heap.size≤k∧k<X'.heap.size)) (hr':R' rb) (ht':R' tb):MS ring g N lb xb rb H tb place o R' ps pg rt l pages X':=
 h.gq (aj.aq hb (fun _=>False)) (fun _ _ f=>f.elim) id id vI hr' ht'
theorem MS.still (h:MS ring g N lb xb rb H tb place o R ps pg rt l pages X) (hb:Below X.heap.size X X'):MS ring g N lb xb rb H tb place o R ps pg rt l pages X':=
 h.hold hb (fun _ hk=>.inl hk) h.rm.rr h.own
theorem MS.rising (h:MS ring g N lb xb rb H tb place o R ps pg rt l pages X):Tr.aP l:=by
 rcases h.ok with⟨_,rfl,_⟩|⟨_,_,_,_,_,_,_,hok,rfl,_⟩
 ·exact .nil
 ·exact (Tr.nK hok).iZ
theorem MS.MP (h:MS ring g N lb xb rb H tb place o R ps pg rt l pages X) (hts:TS ⟨ring,g,N,lb,xb,rb,tb,place,H⟩ X R R' ps pg rt M X'):MS ring g N lb xb rb H tb place o R' ps pg rt l pages X'∧Mv R R' ps ps pg pg rt rt place o X X':=by
 have bY:place<rt.length:=by rw[h.rm.rep.pQ];exact h.AA
 exact⟨⟨hts.rm,hts.tree,hts.sub _ h.own,h.AA,h.ok,h.nd,h.tk,h.us⟩,⟨hts.but.mono fun k _ hn hk=>hn hk,hts.sub,hts.new,by omega,rfl,fun _ _=>rfl,rt.getD place 0,(dH rfl bY).symm⟩⟩
theorem yq (h:MS ring g N lb xb rb H tb place o R ps pg rt l pages X) (lo hi:List UInt8) (lim:Int):
  Calls Tryz.prog 19 #[ptr tb,.string (bs lo),.string (bs hi),.int .i64 lim] X fun e X'=>∃v,e=.returned (.tuple #[v,.int .i64 0])∧bR X.heap.size X' v (l.foldl (aX lim lo hi) [])∧∃R',MS ring g N lb xb rb H tb place o R' ps pg rt l pages X'∧Mv R R' ps ps pg pg rt rt place o X X'∧∀b,v.ownBlock=some b→R' b:=by
 refine (I9 (lim:=lim) (lo:=lo) (hi:=hi) h.ts h.ok h.AA).mono ?_
 rintro e X' ⟨v,rfl,hr⟩
 obtain⟨R',M,hts,hv⟩:=hr.kept
 obtain⟨h1,h2⟩:=h.MP hts
 have ho:=hr.row
 refine⟨v,rfl,⟨ho.1,ho.2.imp_right ?_⟩,R',h1,h2,fun b hb=>(hv b hb).1⟩
 rintro⟨g,cap,cur,e1,e2,e3⟩
 exact⟨g,cap,cur,e1,(hv g (by rw[e1];rfl)).2,e3⟩
theorem AG (h:MS ring g N lb xb rb H tb place o R ps pg rt l pages X):
  Calls Tryz.prog 23 #[ptr tb] X fun e X'=>∃v,e=.returned (.tuple #[v,.int .i64 0])∧eo X.heap.size X' v ((pages.map fun n:Nat=>(n:Int)).mergeSort fun x y=>decide (x≤y))∧∃R',MS ring g N lb xb rb H tb place o R' ps pg rt l pages X'∧Mv R R' ps ps pg pg rt rt place o X X'∧∀b,v.ownBlock=some b→R' b:=by
 refine (mU h.ts h.ok h.AA).mono ?_
 rintro e X' ⟨v,rfl,hr⟩
 obtain⟨R',M,hts,hv⟩:=hr.kept
 obtain⟨h1,h2⟩:=h.MP hts
 exact⟨v,rfl,hr.row,R',h1,h2,hv⟩
theorem AH {l:List Nat} (h:l.Nodup):((l.map fun n:Nat=>(n:Int)).mergeSort fun x y=>decide (x≤y)).Pairwise (· <·):=by
 have hp:=List.mergeSort_perm (l.map fun n:Nat=>(n:Int)) fun x y=>decide (x≤y)
 have hn:((l.map fun n:Nat=>(n:Int)).mergeSort fun x y=>decide (x≤y)).Nodup:=hp.nodup_iff.2 (List.Pairwise.map _ (fun a b (hab:a≠b) e=>hab (Int.ofNat.inj e)) h)
 have hs:=List.pairwise_mergeSort (le:=fun x y:Int=>decide (x≤y)) (fun a b c h1 h2=>by simp at*;omega) (fun a b=>by simp;omega) (l.map fun n:Nat=>(n:Int))
 exact hs.imp₂ (fun a b h1 h2=>by simp at h1;omega) hn
theorem MS.other {ta pa:Nat} {Ox Dw:List Nat} {la':List (Tr.Tx×Tr.Tx)} (h:MS ring g N lb xb rb H tb place Ox R ps pg rt l pages X) (ha:MS ring g N lb xb rb H ta pa pages R' ps' bN rt' la' Dw X') (hm:Mv R R' ps ps' pg bN rt rt' pa pages X X') (hne:pa≠place):MS ring g N lb xb rb H tb place Dw R' ps' bN rt' l pages X':=by
 obtain⟨num,Ab⟩:=hm.pQ
 refine⟨ha.rm,h.tr.but hm.but (fun hn=>hn h.own),hm.sub _ h.own,h.AA, ?_, ?_,eT ha.ok,by rw[ha.us];omega⟩
 ·rw[Ab,List.getD_eq_getElem?_getD,List.getElem?_set_ne hne,←List.getD_eq_getElem?_getD]
  exact qL h.ok hm.same
 ·exact (List.perm_append_comm.nodup_iff).1 ha.nd
end
theorem pF (w:World) (n:Nat) (h1:4≤n) (h2:n≤4098):
  Calls Tryz.prog 8 #[.int .i64 n] w fun e w'=>∃g b,e=.returned (.tuple #[ptr g,ptr b])∧Kept (fun x=>x<w.heap.size) 200 w' b g 1 (Wl.bO n)∧Below w.heap.size w w':=by
 have hm:max (n:Int) 4=n:=by omega
 have hI:(n:Int)≤4098:=by omega
 obtain⟨z,hz⟩:∃z:Nat,z=201+n:=⟨_,rfl⟩
 have Z3:201+(n:Int)=z:=by omega
 have HZ:=aa (show z=201+n∧4≤n∧n≤4098 from⟨hz,h1,h2⟩)
 clear hz h1 h2
 go_enter Tryz.func8,Tryz.ntmps8
 go_wp2_with fail
 refine (JU z w (by have:=HZ.out;omega) (by have:=HZ.out;omega)).mono ?_
 rintro e w1 ⟨g,FD,rfl,ux,hF,aQ⟩
 have H1:=aa (And.intro ux (And.intro hF aQ))
 clear ux hF aQ
 go_wp2_with fail
 refine (BA (A:=fun x=>x<w.heap.size) (ring:=200) (size:=z) H1.out.1 (fun x hx hn=>by have:=H1.out.2.1 x hx;omega) (fun x hx=>by have:=H1.out.2.2.size;omega) (by decide) (by decide) (by have:=HZ.out;omega) (by have:=HZ.out;omega)).mono ?_
 rintro e w2 ⟨b,rfl,hk2,cR⟩
 have H2:=aa (show Kept (fun x=>x<w.heap.size) 200 w2 b g 1 (Wl.bO n)∧Below w.heap.size w w2 by
  rw[show z-1-200=n by have:=HZ.out;omega] at hk2
  exact⟨hk2,H1.out.2.2.trans (PW.below cR (fun x hx=>hx) H1.out.2.2.size)⟩)
 clear hk2 cR
 go_wp2
 go_ret2
 exact⟨g,b,rfl,H2.out.1,H2.out.2⟩
theorem rN (X:World) (tb:Nat):
  Calls Tryz.prog 9 #[ptr tb] X fun e X'=>e=.returned (ptr X.heap.size)∧X'=X.alloc (.cells #[ptr tb] 75):=by
 go_enter Tryz.func9,Tryz.ntmps9
 unfold ptr
 go_wp2
 go_ret
 exact⟨rfl,rfl⟩
theorem CC {A:Nat→Prop} {X:World} {ring g N lb tb n:Nat} (h:C1 A ring g N lb tb (Wl.bO n) [] X) (h1:3≤n) (h2:n≤4098):
  gA (fun k=>A k∨k=X.heap.size) ring g N lb tb X.heap.size (Wl.bO n) [] (List.replicate (n-2) none) (List.replicate 16 0) (X.alloc (.cells #[ptr tb] 75)):=by
 refine⟨h.gq (aj.aq ((Below.refl _ X).alloc (Nat.le_refl _) _) (fun _=>False)) (fun _ _ h=>h.elim) (fun k hk=>hk.imp_right fun e=> ?_),aG.new X #[ptr tb] 75,.inr rfl,Rm.J5 n (by omega) h2,fun p hp=>(by cases hp),(by rw[List.length_replicate];omega)⟩
 rw[e,World.size_alloc]
 omega
structure Hl (w:World) (V:List (Value×Tr.bt)) (A:List (Nat×TypeId×List Value)) (R:Nat→Prop) (X:World):Prop where
 low:∀k,k<w.heap.size→R k
 below:Below w.heap.size w X
 rows:∀p∈V,bR w.heap.size X p.1 p.2∧∀x,p.1.ownBlock=some x→R x
 jd:∀p∈A,R p.1∧aG X p.1 p.2.1 p.2.2
section
variable {w X X':World} {V V':List (Value×Tr.bt)} {A A':List (Nat×TypeId×List Value)} {R R':Nat→Prop}
theorem Hl.mv (h:Hl w V A R X) (hb:aj (fun k=>¬R k) X X') (hs:∀k,R k→R' k):Hl w V A R' X':=
 ⟨fun k hk=>hs k (h.low k hk),h.below.trans (hb.below h.below.size fun k hk hn=>hn (h.low k hk)),fun p hp=>⟨Own.but (h.rows p hp).1 hb (fun x hx hn=>hn ((h.rows p hp).2 x hx)),fun x hx=>hs x ((h.rows p hp).2 x hx)⟩,fun p hp=>⟨hs _ (h.jd p hp).1,(h.jd p hp).2.but hb (fun hn=>hn (h.jd p hp).1)⟩⟩
theorem Hl.still (h:Hl w V A R X) (hb:Below X.heap.size X X') (hs:∀k,R k→R' k):Hl w V A R' X':=
 ⟨fun k hk=>hs k (h.low k hk),h.below.trans (hb.mono h.below.size),fun p hp=>⟨Own.below (h.rows p hp).1 hb (Nat.le_refl _),fun x hx=>hs x ((h.rows p hp).2 x hx)⟩,fun p hp=>⟨hs _ (h.jd p hp).1,(h.jd p hp).2.below hb (h.jd p hp).2.lt⟩⟩
theorem Hl.less (h:Hl w V A R X) (h1:∀p∈V',p∈V) (h2:∀p∈A',p∈A):Hl w V' A' R X:=⟨h.low,h.below,fun p hp=>h.rows p (h1 p hp),fun p hp=>h.jd p (h2 p hp)⟩
end
structure TF (w:World) (rb tb place n:Nat) (l:Tr.bt) (B:Nat) (V:List (Value×Tr.bt)) (U:Nat) (A:List (Nat×TypeId×List Value)) (X:World):Prop where
 ms:∃(g b xb:Nat) (R:Nat→Prop) (ps:List (Nat×List UInt8)) (pg:List (Option Wl.Text)) (rt pages:List Nat),MS 200 g 1 b xb rb (Wl.bO n) tb place [] R ps pg rt l pages X∧ps.length≤B∧pg.length=n-2∧Rm.used pg=U∧Hl w V A R X
theorem pG (n:Nat):Rm.used (List.replicate n none)=0:=by
 unfold Rm.used
 rw[List.filter_eq_nil_iff.2]
 ·rfl
 ·intro a ha
  rw[(List.mem_replicate.1 ha).2]
  decide
theorem AI {A:Nat→Prop} {X:World} {ring g N lb xb n place:Nat} (h:C1 A ring g N lb xb (Wl.bO n) [] X) (h1:3≤n) (h2:n≤4098) (hp:place<16):
  MS ring g N lb xb X.heap.size (Wl.bO n) (X.heap.size+1) place [] (fun k=>(A k∨k=X.heap.size)∨k=X.heap.size+1) [] (List.replicate (n-2) none) (List.replicate 16 0) [] [] ((X.alloc (.cells #[ptr xb] 75)).alloc (.cells #[ptr X.heap.size,.int .i64 place] 81)):=by
 have hr:=CC h h1 h2
 have hs:(X.alloc (.cells #[ptr xb] 75)).heap.size=X.heap.size+1:=World.size_alloc _ _
 have hb:=(Below.refl _ (X.alloc (.cells #[ptr xb] 75))).alloc (Nat.le_refl _) (.cells #[ptr X.heap.size,.int .i64 place] 81)
 refine⟨hr.gq (aj.aq hb (fun _=>False)) (fun _ _ f=>f.elim) id (fun k hk=>hk.imp_right fun e=> ?_) (.inl (.inr rfl)), ?_,.inr rfl,hp,.inl ⟨?_,rfl,rfl⟩,List.nodup_nil,fun x hx=>(by cases hx),pG _⟩
 ·have h3:((X.alloc (.cells #[ptr xb] 75)).alloc (.cells #[ptr X.heap.size,.int .i64 place] 81)).heap.size=X.heap.size+1+1:=by rw[World.size_alloc,hs]
  rw[e,h3,hs];omega
 ·have:=aG.new (X.alloc (.cells #[ptr xb] 75)) #[ptr X.heap.size,.int .i64 place] 81
  rw[hs] at this
  exact this
 ·rw[List.getD_eq_getElem?_getD,List.getElem?_replicate]
  split<;>rfl
theorem uk {w X:World} {A:Nat→Prop} {g b xb n place:Nat} (h:C1 A 200 g 1 b xb (Wl.bO n) [] X) (hA:∀k,k<w.heap.size→A k) (hb:Below w.heap.size w X) (h1:3≤n) (h2:n≤4098) (hp:place<16):
  TF w X.heap.size (X.heap.size+1) place n [] 0 [] 0 [] ((X.alloc (.cells #[ptr xb] 75)).alloc (.cells #[ptr X.heap.size,.int .i64 place] 81)):=
 ⟨⟨g,b,xb,_,[],_,_,[],AI h h1 h2 hp,Nat.le_refl _,List.length_replicate,pG _,⟨fun k hk=>.inl (.inl (hA k hk)),(hb.alloc hb.size _).alloc (by rw[World.size_alloc];have:=hb.size;omega) _,fun p hp=>(by cases hp),fun p hp=>(by cases hp)⟩⟩⟩
section
variable {w X X':World} {rb tb place n B U:Nat} {l L:Tr.bt} {V V':List (Value×Tr.bt)} {A A':List (Nat×TypeId×List Value)} {v:Value} {key vl:List UInt8}
theorem TF.below (h:TF w rb tb place n l B V U A X):Below w.heap.size w X:=by
 obtain⟨g,b,xb,R,ps,pg,rt,pages,h1,h2,h3,h4,h5⟩:=h.ms
 exact h5.below
theorem TF.row (h:TF w rb tb place n l B V U A X) {p:Value×Tr.bt} (hp:p∈V):bR w.heap.size X p.1 p.2:=by
 obtain⟨g,b,xb,R,ps,pg,rt,pages,h1,h2,h3,h4,h5⟩:=h.ms
 exact (h5.rows p hp).1
theorem TF.blk (h:TF w rb tb place n l B V U A X) {p:Nat×TypeId×List Value} (hp:p∈A):aG X p.1 p.2.1 p.2.2:=by
 obtain⟨g,b,xb,R,ps,pg,rt,pages,h1,h2,h3,h4,h5⟩:=h.ms
 exact (h5.jd p hp).2
theorem TF.more (h:TF w rb tb place n l B V U A X) {B':Nat} (hB:B≤B'):TF w rb tb place n l B' V U A X:=by
 obtain⟨g,b,xb,R,ps,pg,rt,pages,h1,h2,h3⟩:=h.ms
 exact⟨g,b,xb,R,ps,pg,rt,pages,h1,Nat.le_trans h2 hB,h3⟩
theorem TF.still (h:TF w rb tb place n l B V U A X) (hb:Below X.heap.size X X'):TF w rb tb place n l B V U A X':=by
 obtain⟨g,b,xb,R,ps,pg,rt,pages,h1,h2,h3,h4,h5⟩:=h.ms
 exact⟨g,b,xb,R,ps,pg,rt,pages,h1.still hb,h2,h3,h4,h5.still hb fun _ hk=>hk⟩
theorem TF.less (h:TF w rb tb place n l B V U A X) (hV:∀p∈V',p∈V) (hA:∀p∈A',p∈A):TF w rb tb place n l B V' U A' X:=by
 obtain⟨g,b,xb,R,ps,pg,rt,pages,h1,h2,h3,h4,h5⟩:=h.ms
 exact⟨g,b,xb,R,ps,pg,rt,pages,h1,h2,h3,h4,h5.less hV hA⟩
theorem TF.hold (h:TF w rb tb place n l B V U A X) (hb:Below X.heap.size X X') (ho:bR X.heap.size X' v L):TF w rb tb place n l B ((v,L)::V) U A X':=by
 obtain⟨g,b,xb,R,ps,pg,rt,pages,h1,h2,h3,h4,h5⟩:=h.ms
 have h6:=h5.still (R':=fun k=>R k∨v.ownBlock=some k) hb fun k hk=>.inl hk
 refine⟨g,b,xb,fun k=>R k∨v.ownBlock=some k,ps,pg,rt,pages,h1.hold hb (fun k hk=>hk.imp_right fun e=>ho.block k e) (.inl h1.rm.rr) (.inl h1.own),h2,h3,h4,{h6 with rows:=fun p hp=> ?_}⟩
 rcases List.mem_cons.1 hp with rfl|hp
 ·exact⟨Own.mono ho h5.below.size,fun x hx=>.inr hx⟩
 ·exact h6.rows p hp
theorem TF.box (h:TF w rb tb place n l B V U A X) (cs:Array Value) (t:TypeId):TF w rb tb place n l B V U ((X.heap.size,t,cs.toList)::A) (X.alloc (.cells cs t)):=by
 obtain⟨g,b,xb,R,ps,pg,rt,pages,h1,h2,h3,h4,h5⟩:=h.ms
 have hb:Below X.heap.size X (X.alloc (.cells cs t)):=(Below.refl _ X).alloc (Nat.le_refl _) _
 have h6:=h5.still (R':=fun k=>R k∨k=X.heap.size) hb fun k hk=>.inl hk
 refine⟨g,b,xb,fun k=>R k∨k=X.heap.size,ps,pg,rt,pages,h1.hold hb (fun k hk=>hk.imp_right fun e=>by rw[e,World.size_alloc];omega) (.inl h1.rm.rr) (.inl h1.own),h2,h3,h4,{h6 with jd:=fun p hp=> ?_}⟩
 rcases List.mem_cons.1 hp with rfl|hp
 ·exact⟨.inr rfl,aG.new X _ _⟩
 ·exact h6.jd p hp
theorem TF.rising (h:TF w rb tb place n l B V U A X):Tr.aP l:=by
 obtain⟨g,b,xb,R,ps,pg,rt,pages,h1,-⟩:=h.ms
 exact h1.rising
theorem TF.gO (h:TF w rb tb place n l B V U A X):U≤2*l.length+16:=by
 obtain⟨g,b,xb,R,ps,pg,rt,pages,h1,-,-,h6,-⟩:=h.ms
 have h2:=(f_ h1.ok).1
 have h3:=h1.us
 rw[←h6,h3]
 exact h2
theorem ga {g b xb:Nat} {R R':Nat→Prop} {ps ps':List (Nat×List UInt8)} {pg bN:List (Option Wl.Text)} {rt rt' pages':List Nat} {l':Tr.bt} (hps:ps'.length≤B) (ku:pg.length=n-2) (h:Hl w V A R X) (hm:MS 200 g 1 b xb rb (Wl.bO n) tb place [] R' ps' bN rt' l' pages' X') (mv:Mv R R' ps ps' pg bN rt rt' place [] X X'):TF w rb tb place n l' B V (Rm.used bN) A X':=
 ⟨g,b,xb,R',ps',bN,rt',pages',hm,hps,by rw[mv.len];exact ku,rfl,h.mv mv.but mv.sub⟩
theorem yt (h:TF w rb tb place n l B V U A X) (hk:key.length≤96) (hvl:vl.length≤56) (hB:B≤60000000):
  Calls Tryz.prog 13 #[ptr tb,.string (bs key),.string (bs vl)] X fun e X'=>(e=.returned (.int .i64 0)∧∃U',TF w rb tb place n (Tr.put l key vl) (B+30000) V U' A X')∨(e=.returned (.int .i64 4)∧n-2<U+20∧TF w rb tb place n l B V U A X'):=by
 obtain⟨g,b,xb,R,ps,pg,rt,pages,h1,h2,h3,h4,h5⟩:=h.ms
 refine (Jb h1 hk hvl (by omega)).mono ?_
 rintro e X' (⟨rfl,R',ps',bN,rt',pages',hm,mv⟩|⟨rfl,hf,R',hm,mv⟩)
 ·exact .inl ⟨rfl,_,ga (by have:=mv.few;omega) h3 h5 hm mv⟩
 ·exact .inr ⟨rfl,by omega,by rw[←h4];exact ga h2 h3 h5 hm mv⟩
theorem CD (h:TF w rb tb place n l B V U A X) (hB:B≤60000000):
  Calls Tryz.prog 16 #[ptr tb,.string (bs key)] X fun e X'=>e=.returned (.tuple #[.bool (Tr.got l key).isSome,.int .i64 0])∧∃U',TF w rb tb place n (Tr.del l key) (B+30000) V U' A X':=by
 obtain⟨g,b,xb,R,ps,pg,rt,pages,h1,h2,h3,h4,h5⟩:=h.ms
 refine (Jc h1 (by omega)).mono ?_
 rintro e X' ⟨rfl,R',ps',bN,rt',pages',hm,mv⟩
 exact⟨rfl,_,ga (by have:=mv.few;omega) h3 h5 hm mv⟩
theorem Oy (h:TF w rb tb place n l B V U A X):
  Calls Tryz.prog 18 #[ptr tb,.string (bs key)] X fun e X'=>e=.returned (.tuple #[.string (bs ((Tr.got l key).getD [])),.bool (Tr.got l key).isSome,.int .i64 0])∧TF w rb tb place n l B V U A X':=by
 obtain⟨g,b,xb,R,ps,pg,rt,pages,h1,h2,h3,h4,h5⟩:=h.ms
 refine (Jd h1).mono ?_
 rintro e X' ⟨rfl,R',hm,mv⟩
 exact⟨rfl,by rw[←h4];exact ga h2 h3 h5 hm mv⟩
theorem um (h:TF w rb tb place n l B V U A X):
  Calls Tryz.prog 28 #[ptr tb] X fun e X'=>e=.returned (.tuple #[.int .i64 l.length,.int .i64 0])∧TF w rb tb place n l B V U A X':=by
 obtain⟨g,b,xb,R,ps,pg,rt,pages,h1,h2,h3,h4,h5⟩:=h.ms
 refine (AB h1).mono ?_
 rintro e X' ⟨rfl,R',hm,mv⟩
 exact⟨rfl,by rw[←h4];exact ga h2 h3 h5 hm mv⟩
theorem Jf (h:TF w rb tb place n l B V U A X):
  Calls Tryz.prog 29 #[ptr tb] X fun e X'=>∃c:Nat,e=.returned (.tuple #[.int .i64 c,.int .i64 0])∧TF w rb tb place n l B V U A X':=by
 obtain⟨g,b,xb,R,ps,pg,rt,pages,h1,h2,h3,h4,h5⟩:=h.ms
 refine (AD h1).mono ?_
 rintro e X' ⟨rfl,R',hm,mv⟩
 exact⟨_,rfl,by rw[←h4];exact ga h2 h3 h5 hm mv⟩
theorem LB (h:TF w rb tb place n l B V U A X) (lo hi:List UInt8) (lim:Int):
  Calls Tryz.prog 19 #[ptr tb,.string (bs lo),.string (bs hi),.int .i64 lim] X fun e X'=>∃u,e=.returned (.tuple #[u,.int .i64 0])∧TF w rb tb place n l B ((u,l.foldl (aX lim lo hi) [])::V) U A X':=by
 obtain⟨g,b,xb,R,ps,pg,rt,pages,h1,h2,h3,h4,h5⟩:=h.ms
 refine (yq h1 lo hi lim).mono ?_
 rintro e X' ⟨u,rfl,ho,R',hm,mv,hu⟩
 have h6:=h5.mv mv.but mv.sub
 refine⟨u,rfl,g,b,xb,R',ps,pg,rt,pages,hm,h2,h3,h4,{h6 with rows:=fun p hp=> ?_}⟩
 rcases List.mem_cons.1 hp with rfl|hp
 ·exact⟨Own.mono ho h5.below.size,hu⟩
 ·exact h6.rows p hp
theorem LC (h:TF w rb tb place n l B V U A X):
  Calls Tryz.prog 24 #[ptr rb] X fun e X'=>e=.returned (.tuple #[.int .i64 U,.int .i64 0])∧TF w rb tb place n l B V U A X':=by
 have h':=h
 obtain⟨g,b,xb,R,ps,pg,rt,pages,h1,h2,h3,h4,h5⟩:=h.ms
 refine (p4 h1.rm).mono ?_
 rintro e X' ⟨rfl,hb⟩
 exact⟨by rw[h4],h'.still hb⟩
theorem LD (h:TF w rb tb place n l B V U A X):
  Calls Tryz.prog 26 #[ptr rb] X fun e X'=>e=.returned (.int .i64 (n-2:Nat))∧X'=X:=by
 obtain⟨g,b,xb,R,ps,pg,rt,pages,h1,h2,h3,h4,h5⟩:=h.ms
 refine (cG h1.rm).mono ?_
 rintro e X' ⟨rfl,rfl⟩
 exact⟨by rw[h3],rfl⟩
end
theorem kH {X:World} {g o:Nat} {l:Tr.bt} (h:aJ cQ X g o l) (j:Nat) (hj:j<l.length):X.cell? ⟨g,o+j*2,none⟩=some (.string (bs l[j].1))∧X.cell? ⟨g,o+j*2+1,none⟩=some (.string (bs l[j].2)):=
 ⟨h.at j 0 (by decide) hj _ rfl,h.at j 1 (by decide) hj _ rfl⟩
theorem Jg {l:Tr.bt} {key:List UInt8} {i:Nat} (hi:i<l.length) (h:(l[i]).1≠key):Tr.got (l.drop i) key=Tr.got (l.drop (i+1)) key:=by
 rw[List.drop_eq_getElem_cons hi]
 unfold Tr.got
 rw[List.find?_cons_of_neg]
 simpa using h
theorem Jh {l:Tr.bt} {key:List UInt8} {i:Nat} (hi:i<l.length) (h:(l[i]).1=key):Tr.got (l.drop i) key=some (l[i]).2:=by
 rw[List.drop_eq_getElem_cons hi]
 unfold Tr.got
 rw[List.find?_cons_of_pos]
 ·rfl
 ·simpa using h
theorem lG (w:World) {B:Nat} {v:Value} {l:Tr.bt} (h:bR B w v l) (hl:l.length≤100000) (key:List UInt8):
  Calls Tryz.prog 15 #[v,.string (bs key)] w fun e w'=>e=.returned (.tuple #[.string (bs ((Tr.got l key).getD [])),.bool (Tr.got l key).isSome])∧Below w.heap.size w w':=by
 obtain⟨a,cp,rfl,hc⟩:=Own.slice h
 have HO:=aa h
 obtain⟨N,hN⟩:∃N,N=l.length:=⟨_,rfl⟩
 rw[←hN]
 have G8:(N:Int)≤100000:=by omega
 have vB:(N:Int)≤cp:=by omega
 have HN:=aa hN
 clear h hN hc hl
 go_enter Tryz.func15,Tryz.ntmps15
 go_wp2_with fail
 go_loopw [6] (fun iv wr=>∃i:Nat,i≤N∧iv=.int .i64 i∧Hid (wr=w∧Tr.got l key=Tr.got (l.drop i) key)) (fun iv _=>N-(RowKit.intOf iv).toNat)
 case atStart=>exact⟨0,Nat.zero_le _,rfl,aa ⟨rfl,by rw[List.drop_zero]⟩⟩
 case round=>
  obtain⟨i,hi,rfl,hR⟩:=hrel
  obtain⟨hw,hg⟩:=hR.out
  subst hw
  have HG:=aa hg
  clear hg hR
  by_cases hlt:i<N
  ·have hI:(i:Int)<N:=by omega
   have hil:i<l.length:=by rw[←HN.out];exact hlt
   obtain⟨g,cap',e,hBg,rF,hlc⟩:=Own.form HO.out (by omega)
   have e1:a=some ⟨g,0,none⟩:=by injection e
   subst e1
   obtain⟨c0,c1⟩:=kH (Own.lies HO.out) i hil
   rw[Nat.zero_add] at c0 c1
   obtain⟨kx,jq⟩:∃kx,kx=(l[i]).1:=⟨_,rfl⟩
   obtain⟨vx,mS⟩:∃vx,vx=(l[i]).2:=⟨_,rfl⟩
   rw[←jq] at c0
   rw[←mS] at c1
   have py:=aa jq
   have Fm:=aa mS
   clear jq mS e hBg rF hlc
   by_cases hk:kx=key
   ·have FA:=aa (HG.out.trans (Jh hil (by rw[←py.out];exact hk)))
    have hkb:(bs kx).toList=(bs key).toList:=by rw[hk]
    clear py
    go_wp2_with fail
    go_ret2
    rw[FA.out,←Fm.out]
    exact⟨rfl,Below.refl _ _⟩
   ·have FA:=aa (HG.out.trans (Jg hil (by rw[←py.out];exact hk)))
    have hkb:((bs kx).toList==(bs key).toList)=false:=by rw[az,az];exact beq_eq_false_iff_ne.2 hk
    clear py hk
    go_wp2_with fail
    go_roundw
    case rel=>exact⟨i+1,hlt,by go_num,aa ⟨by trivial,FA.out⟩⟩
    case measure=>simp[RowKit.intOf];omega
  ·obtain rfl:i=N:=by omega
   have hI:¬(i:Int)<i:=by omega
   have FA:=aa (show Tr.got l key=none by rw[HG.out,List.drop_eq_nil_of_le (by rw[←HN.out];exact Nat.le_refl _)];rfl)
   go_wp2_with fail
   go_ret2
   rw[FA.out]
   exact⟨rfl,Below.refl _ _⟩
theorem R7:(⟨#[97]⟩:ByteArray)=bs [97]:=rfl
theorem R8:(⟨#[49]⟩:ByteArray)=bs [49]:=rfl
theorem AJ:Tr.put (Tr.put [] [98] [50]) [97] [49]=[([97],[49]),([98],[50])]∧([([97],[49]),([98],[50])]:Tr.bt).foldl (aX 9 [] []) []=[([97],[49]),([98],[50])]∧(Tr.got [([97],[49]),([98],[50])] [97]).isSome=true∧(Tr.del [([97],[49]),([98],[50])] [97]).length=1∧(Tr.put [] [98] [50]).length=1:=by decide+kernel
theorem nO (w:World):Calls Tryz.prog 6 #[] w fun e w'=>e=.returned (.bool true)∧Below w.heap.size w w':=by
 obtain⟨L1,zC⟩:∃L1,L1=Tr.put [] [98] [50]:=⟨_,rfl⟩
 obtain⟨L2,GD⟩:∃L2,L2=Tr.put L1 [97] [49]:=⟨_,rfl⟩
 have E:=aa (show L2=[([97],[49]),([98],[50])]∧L2.foldl (aX 9 [] []) []=[([97],[49]),([98],[50])]∧(Tr.got L2 [97]).isSome=true∧(Tr.del L2 [97]).length=1∧L1.length=1 by
  subst zC GD
  have h:=AJ
  rw[h.1]
  exact⟨rfl,h.2⟩)
 have EL:=aa (And.intro zC GD)
 clear zC GD
 go_enter Tryz.func6,Tryz.ntmps6
 go_wp2_with fail
 refine (pF w 40 (by decide) (by decide)).mono ?_
 rintro e w2 ⟨g,b,rfl,hk2,aC⟩
 have H2:=aa (And.intro hk2 aC)
 clear hk2 aC
 go_wp2_with fail
 refine (oH H2.out.1).mono ?_
 rintro e w3 ⟨xb,rfl,h3,cC⟩
 have H3:=aa (And.intro h3 (H2.out.2.trans (cC.mono H2.out.2.size)))
 clear h3 cC
 go_wp2_with fail
 refine (rN w3 xb).mono ?_
 rintro e w4 ⟨rfl,rfl⟩
 have H4:=aa (uk (w:=w) (place:=2) H3.out.1 (fun k hk=>hk) H3.out.2 (by decide) (by decide) (by decide))
 obtain⟨rb,hrb⟩:∃rb,rb=w3.heap.size:=⟨_,rfl⟩
 obtain⟨W,hW⟩:∃W,W=w3.alloc (.cells #[ptr xb] 75):=⟨_,rfl⟩
 have FH:W.heap.size=rb+1:=by rw[hW,hrb,World.size_alloc]
 rw[←hW,←hrb] at H4
 rw[←hrb,←hW]
 clear hrb hW H3 H2
 go_wp2_with fail
 refine (iz W rb 2).mono ?_
 rintro e w5 ⟨rfl,rfl⟩
 rw[FH]
 obtain⟨W5,Oz⟩:∃W5,W5=W.alloc (.cells #[ptr rb,.int .i64 2] 81):=⟨_,rfl⟩
 obtain⟨tb,htb⟩:∃tb,tb=rb+1:=⟨_,rfl⟩
 have H5:=aa (show TF w rb tb 2 40 [] 0 [] 0 [] W5 by rw[Oz,htb];exact H4.out)
 rw[←Oz,←htb]
 clear Oz htb H4 FH
 go_wp2_with fail
 refine (yt (key:=[98]) (vl:=[50]) H5.out (by decide) (by decide) (by decide)).mono ?_
 rintro e w6 (⟨rfl,U6,h6⟩|⟨-,hf,-⟩)
 rotate_left
 ·omega
 rw[←EL.out.1] at h6
 have H6:=aa h6
 clear h6 H5
 go_wp2_with fail
 refine (yt (key:=[97]) (vl:=[49]) H6.out (by decide) (by decide) (by decide)).mono ?_
 rintro e w7 (⟨rfl,U7,h7⟩|⟨-,hf,-⟩)
 rotate_left
 ·have h1:=H6.out.gO
  have h2:=E.out.2.2.2.2
  omega
 rw[←EL.out.2] at h7
 have H7:=aa h7
 clear h7 H6
 go_wp2_with fail
 refine (LB H7.out [] [] 9).mono ?_
 rintro e w8 ⟨u,rfl,h8⟩
 rw[E.out.2.1] at h8
 have OA:=h8.row List.mem_cons_self
 obtain⟨a8,c8,hu,G9⟩:=Own.slice OA
 obtain⟨g8,aaL,e8,hB8,Ec,WC⟩:=Own.form OA (show 0<2 by decide)
 simp only at hu e8
 rw[hu] at e8
 have e9:a8=some ⟨g8,0,none⟩:=by injection e8
 subst e9
 subst hu
 have H8:=aa h8
 have aaM:(2:Int)≤c8:=by
  have:([([97],[49]),([98],[50])]:Tr.bt).length≤c8:=G9
  have e:([([97],[49]),([98],[50])]:Tr.bt).length=2:=rfl
  omega
 simp only[List.length_cons,List.length_nil,Nat.zero_add,Nat.reduceAdd] at H8
 clear h8 H7 G9 OA e8 hB8 Ec WC
 go_wp2_with fail
 refine (CD (key:=[97]) H8.out (by decide)).mono ?_
 rintro e w9 ⟨rfl,U9,h9⟩
 rw[E.out.2.2.1]
 have H9:=aa h9
 clear h9 H8
 go_wp2_with fail
 refine (um H9.out).mono ?_
 rintro e w10 ⟨rfl,h10⟩
 rw[E.out.2.2.2.1]
 have H10:=aa h10.below
 obtain⟨c0,c1⟩:=kH (Own.lies (h10.row List.mem_cons_self)) 0 (show 0<2 by decide)
 have d0:w10.cell? ⟨g8,0,none⟩=some (.string (bs [97])):=c0
 have d1:w10.cell? ⟨g8,1,none⟩=some (.string (bs [49])):=c1
 rw[←R7] at d0
 rw[←R8] at d1
 clear h10 H9 c0 c1
 go_wp2_with fail
 go_ret
 exact⟨rfl,H10.out⟩
end Go.Proofs.YtloekpcncjocaaaGreatDoor
