/- Elder texts, cut down and merged (18). -/
import Derived.Test.YtebbahjombdalaaGreatDoorP17
import Derived.Test.YtebbahjombdalaaGreatDoorP7
import Derived.Test.YtebbahjombdalaaGreatDoorP16
import Derived.Test.YtebbahjombdalaaGreatDoorP2
import Derived.Test.YtebbahjombdalaaGreatDoorP1
import Derived.Sort.OwnSortedInts
import Derived.Test.YtebbahjombdalaaGreatDoorIter
import Derived.Lib.Hide
import Derived.Laws.ResultCell
import Derived.Laws.Rows
import Derived.Lib.AppendStr
import Derived.Lib.Strings
import Derived.Lib.Walk
import Derived.Lib.BufferWrite
import Derived.Lib.UnsafeStr
import Derived.Laws.MakeOwn
import Derived.Test.YtebbahjombdalaaGreatDoorPTk
set_option maxRecDepth 100000
set_option maxHeartbeats 8000000
namespace Go.Proofs.YtebbahjombdalaaGreatDoor
open List renaming mem_cons_self→aA,mem_cons_of_mem→aF,map_append→bI,map_cons→bH,pairwise_cons→cw,mem_append→ah,length_pos_iff→ej,length_map→aM,getElem?_eq_getElem→aJ,drop_eq_getElem_cons→cm,take_append_drop→cL,append_assoc→aB,nodup_append→aL,exists_cons_of_ne_nil→rL,length_append→aq,length_singleton→eH,replicate→bg,length_replicate→dM,append_nil→bh,take_left→fF,length_drop→aT,length_cons→aW,cons_append→gD,mem_singleton→cH,mem_filter→dy,mem_cons→aQ,filter_sublist→pE,filter_cons→cS,nil_append→dF,map_congr_left→oN,getElem_mem→bB,drop_of_length_le→pK,length_take→aN,take_of_length_le→bZ
open Bool renaming and_eq_true→fy,eq_iff_iff→jc,false_eq_true→jL
open Nat renaming succ_ne_zero→cT,le_refl→af,zero_le→aC,le_trans→aG,min_eq_left→b_
open World renaming size_alloc→bk
open UInt8 renaming lt_iff_toNat_lt→rZ,ofNat→aY
open _root_.Array renaming length_toList→aZ
section
open Go.RowKit Lib
section
variable {lim:Int} {lo hi:Tr.Tx}
theorem qJ:∀{l:Tr.eZ},(∀p∈l,hasB lo hi p.1=false)→∀s,l.foldl (eP lim lo hi) s=s
 |[],_,_=>rfl
 |p::l,h,s=>by
  have e:eP lim lo hi s p=s:=by
   simp_all[eP]
  rw[List.foldl_cons,e]
  exact qJ (fun x hx=>h x (aF _ hx)) s
theorem pG:∀{l s:Tr.eZ},¬(s.length:Int)<lim→l.foldl (eP lim lo hi) s=s
 |[],_,_=>rfl
 |p::l,s,h=>by
  have e:eP lim lo hi s p=s:=by
   grind [eP]
  rw[List.foldl_cons,e]
  exact pG h
theorem vL (k:Nat) (p:Tr.Tx×Tr.E (k+1)) (l:List (Tr.Tx×Tr.E (k+1))):Tr.ct (k+1) (p::l)=Tr.ct k (Tr.its p.2)++Tr.ct (k+1) l:=by
 show (p::l).flatMap (fun p=>Tr.ct k (Tr.its p.2))=_
 rw[List.flatMap_cons]
 rfl
theorem Hs {k:Nat} {VO:Tr.Tx} {h0:Option Tr.Tx} {c:Tr.E (k+1+1)} (ho:Tr.Ok (k+1+1) VO h0 c) {A B:List (Tr.Tx×Tr.E (k+1))} {kc:Tr.Tx} {c':Tr.E (k+1)} (hc:Tr.its c=A++(kc,c')::B) (yh:(!hi.isEmpty&& !Tr.lt kc hi)=true):∀x∈Tr.ct (k+1) ((kc,c')::B),hasB lo hi x.1=false:=by
 rw[fy,Bool.not_eq_true',Bool.not_eq_true'] at yh
 have YW:∀x:Tr.Tx×Tr.Tx,Tr.le kc x.1→hasB lo hi x.1=false:=fun x hx=>by
  have h1:Tr.lt x.1 hi=false:=Tr.le_trans (show Tr.le hi kc from yh.2) hx
  unfold hasB
  rw[h1,yh.1]
  simp
 have hrw:=ho.2.2
 rw[hc] at hrw
 have hA:A≠[]:=by
  intro e
  have h2:=hrw.1 (kc,c') (by rw[e];rfl)
  rw[if_neg (cT k)] at h2
  have h2:kc=[]:=h2
  rw[h2] at yh
  cases hi with
  |nil=>cases yh.1
  |cons a l=>cases yh.2
 have hkeys:=(gY hrw).1
 rw[bI,bH] at hkeys
 have hkb:=cw.1 (List.pairwise_append.1 hkeys).2.1
 have hs:=Tr.rS (key:=kc) hrw (Tr.le_refl _) fun b B' e=>hkb.1 b.1 (List.mem_map.2 ⟨b,by rw[e];exact aA,rfl⟩)
 have h4:=hrw.2
 rw[Tr.dr,Tr.lz,if_neg (by rw[List.isEmpty_iff];exact hA)] at h4
 have hok:=y_ h4
 have wR:=(Tr.rR hok).low
 intro x hx
 rw[vL] at hx
 rcases ah.1 hx with hx|hx
 ·grind
 ·exact YW x (Tr.le_of_lt (hs.2 x hx))
theorem sN {k:Nat} {v:Tr.E (k+1)→Tr.eZ→Tr.eZ×Bool}:∀{l:List (Tr.Tx×Tr.E (k+1))},(∀p∈l,∀s,(v p.2 s).1=(Tr.ct k (Tr.its p.2)).foldl (eP lim lo hi) s∧((v p.2 s).2=false→¬((v p.2 s).1.length:Int)<lim))→(∀A p B,l=A++p::B→(!hi.isEmpty&& !Tr.lt p.1 hi)=true→∀x∈Tr.ct (k+1) (p::B),hasB lo hi x.1=false)→∀s,(fN v hi l s).1=(Tr.ct (k+1) l).foldl (eP lim lo hi) s∧((fN v hi l s).2=false→¬((fN v hi l s).1.length:Int)<lim)
 |[],_,_,s=>⟨rfl,fun h=>(by cases h)⟩
 |p::l,hv,hl,s=>by
  unfold fN
  by_cases hc:(!hi.isEmpty&& !Tr.lt p.1 hi)=true
  ·rw[if_pos hc,qJ (hl [] p l rfl hc)]
   exact⟨rfl,fun h=>(by cases h)⟩
  ·rw[if_neg hc]
   obtain⟨h1,h2⟩:=hv p aA s
   rw[vL,List.foldl_append,←h1]
   by_cases hb:(v p.2 s).2=true
   ·rw[if_pos hb]
    exact sN (fun x hx=>hv x (aF _ hx)) (fun A x B e=>hl (p::A) x B (by rw[e];rfl)) _
   ·simp_all[pG]
theorem K9:∀l:List (Tr.Tx×Tr.E 0),((ak 0 l).map fun i=>((i.key,i.val):Tr.Tx×Tr.Tx))=Tr.ct 0 l
 |[]=>rfl
 |p::l=>congrArg (fun r:Tr.eZ=>((p.1,(p.2:Tr.Tx)):Tr.Tx×Tr.Tx)::r) (K9 l)
theorem Ff (k:Nat) (c:Tr.E (k+1+1)) (s:Tr.eZ):fS lim lo hi (k+1) c s=(s,decide ((s.length:Int)<lim)):=by
 unfold fS
 rw[if_neg (cT k)]
theorem vM:∀(k:Nat) (c:Tr.E (k+1)) {VO:Tr.Tx} {h0:Option Tr.Tx},Tr.Ok (k+1) VO h0 c→∀s,(visit (fS lim lo hi) lo hi k c s).1=(Tr.ct k (Tr.its c)).foldl (eP lim lo hi) s∧((visit (fS lim lo hi) lo hi k c s).2=false→¬((visit (fS lim lo hi) lo hi k c s).1.length:Int)<lim)
 |0,c,_,_,_,s=>by
  have e:visit (fS lim lo hi) lo hi 0 c s=((Tr.ct 0 (Tr.its c)).foldl (eP lim lo hi) s,decide ((((Tr.ct 0 (Tr.its c)).foldl (eP lim lo hi) s).length:Int)<lim)):=by
   show fS lim lo hi 0 c s=_
   unfold fS
   rw[if_pos rfl,K9]
  rw[e]
  exact⟨rfl,fun h=>of_decide_eq_false h⟩
 |k+1,c,VO,h0,ho,s=>by
  by_cases hlim:(s.length:Int)<lim
  ·have hne:0<(Tr.its c).length:=ej.2 ho.1
   have hl:(ak (k+1) (Tr.its c)).length=(Tr.its c).length:=aM _
   have QF:∀j (h:j<(ak (k+1) (Tr.its c)).length),((ak (k+1) (Tr.its c))[j]).key=((Tr.its c)[j]'(by omega)).1:=fun j h=>by
    have e:(ak (k+1) (Tr.its c))[j]?=some ⟨((Tr.its c)[j]'(by omega)).1,dS (k+1) ((Tr.its c)[j]'(by omega)).2,none⟩:=by
     grind [ak,aJ]
    rw[aJ h] at e
    rw[Option.some.inj e]
   have oh:((ak (k+1) (Tr.its c))[0]'(by omega)).key=[]:=by
    have h2:=ho.2.2.1 ((Tr.its c)[0]) (by rw[List.head?_eq_getElem?,aJ hne])
    rw[if_neg (cT k)] at h2
    rw[QF];exact h2
   obtain⟨a,rK,ha,hle,hgt⟩:=DX (uR (by rw[c9];exact (gY ho.2.2).1)) (by omega) oh lo
   have hat:a<(Tr.its c).length:=by omega
   have QL:visit (fS lim lo hi) lo hi (k+1) c s=fN (visit (fS lim lo hi) lo hi k) hi ((Tr.its c).drop a) s:=by
    simp_all[visit,Ff]
   have uZ:(Tr.its c).drop a=((Tr.its c)[a].1,(Tr.its c)[a].2)::(Tr.its c).drop (a+1):=cm hat
   have hsplit:Tr.its c=(Tr.its c).take a++((Tr.its c)[a].1,(Tr.its c)[a].2)::(Tr.its c).drop (a+1):=by rw[←uZ,cL]
   have hrw:=ho.2.2
   rw[hsplit] at hrw
   have hs:=Tr.rS (key:=lo) hrw (by have:=hle;rw[QF] at this;exact this) fun b B' e=>by
    have hj:a+1<(Tr.its c).length:=by
     grind
    have h3:=hgt (a+1) (by omega) (by omega)
    rw[QF] at h3
    have e3:(Tr.its c).drop (a+1)=(Tr.its c)[a+1]::(Tr.its c).drop (a+1+1):=cm hj
    rw[e3] at e
    injection e with e4 e5
    rw[←e4];exact h3
   have hpre:(Tr.ct (k+1) ((Tr.its c).take a)).foldl (eP lim lo hi) s=s:=qJ (fun p hp=>by
    unfold hasB
    rw[hs.1 p hp];rfl) s
   have hall:(Tr.ct (k+1) (Tr.its c)).foldl (eP lim lo hi) s=(Tr.ct (k+1) ((Tr.its c).drop a)).foldl (eP lim lo hi) s:=by
    conv=>lhs;rw[←cL a (Tr.its c)]
    rw[Tr.bJ,List.foldl_append,hpre]
   rw[QL,hall]
   refine sN (fun p hp s=> ?_) (fun A p B e hc=> ?_) s
   ·obtain⟨lo',h',ho'⟩:=tG ho p (List.mem_of_mem_drop hp)
    exact vM k p.2 ho' s
   ·exact Hs (A:=(Tr.its c).take a++A) (kc:=p.1) (c':=p.2) ho (by rw[aB];conv=>lhs;rw[←cL a (Tr.its c),e]) hc
  ·simp_all[fS,BN,pG]
end
section
variable {E:Ev} {X0 X X' w:World} {R0 R R':Nat→Prop} {ps:List (Nat×List UInt8)} {pg:List (Option Wl.Text)} {rt:List Nat} {l:List (Tr.Tx×Tr.Tx)} {pages:List Nat} {lim:Int} {lo hi:Tr.Tx}
structure UO (E:Ev) (X0:World) (R0:Nat→Prop) (ps:List (Nat×List UInt8)) (pg:List (Option Wl.Text)) (rt:List Nat) (l:Tr.eZ) (v:Value) (w':World):Prop where
 row:qH 0 w' v l
 kept:∃R M,TS E X0 R0 R ps pg rt M w'∧∀b,v.ownBlock=some b→R b∧X0.heap.size≤b
theorem K_ (h:TS E X0 R0 R ps pg rt (fun _=>none) w) (hm:iz pg (rt.getD E.place 0) l pages) (dH:E.place<16):
  Calls Tryz.prog 58 #[ptr E.tb,.string (bs lo),.string (bs hi),.int .i64 lim] w fun e w'=>∃v,e=.returned (.tuple #[v,.int .i64 0])∧UO E X0 R0 ps pg rt (l.foldl (eP lim lo hi) []) v w':=by
 refine Hl fun W hW=> ?_
 obtain⟨W1,jQ⟩:∃W1,W1=w.alloc (.cells #[.int .i64 lim] 3):=⟨_,rfl⟩
 rw[←jQ] at hW
 have bF:Below w.heap.size w W1:=by rw[jQ];exact (Below.refl _ w).alloc (af _) _
 have hs1:W1.heap.size=w.heap.size+1:=by rw[jQ,bk]
 have xz:aS W1 w.heap.size 3 [.int .i64 lim]:=by rw[jQ];exact aS.new w _ _
 obtain⟨W2,rC⟩:∃W2,W2=W1.alloc (.cells #[.slice none 0 0] 95):=⟨_,rfl⟩
 rw[←rC] at hW
 have aP:Below W1.heap.size W1 W2:=by rw[rC];exact (Below.refl _ W1).alloc (af _) _
 have kN:W2.heap.size=w.heap.size+2:=by rw[rC,bk,hs1]
 have hc2:aS W2 (w.heap.size+1) 95 [.slice none 0 0]:=by rw[rC,←hs1];exact aS.new W1 _ _
 have bY:Below W2.heap.size W2 W:=by rw[hW];exact (Below.refl _ W2).alloc (af _) _
 have XL:aS W (w.heap.size+2) 125 [.string (bs lo),.string (bs hi)]:=by rw[hW,←kN];exact aS.new W2 _ _
 have hb:Below w.heap.size w W:=(bF.trans (aP.mono (by omega))).trans (bY.mono (by omega))
 have zV:=(xz.below aP (by omega)).below bY (by omega)
 have LW:=hc2.below bY (by omega)
 have hx0:=h.but.size
 have hj:JS E X0 R0 ps pg rt (w.heap.size+1) w.heap.size (w.heap.size+2) lim lo hi [] (fun b=>R b∨b=w.heap.size+1) (fun _=>none) W:=⟨h.still hb (fun _ h=>.inl h) (fun b hb=>hb.imp_right fun e=>by rw[e];exact⟨by omega,LW.lt⟩),⟨.inr rfl,by omega,fun ⟨_,_,e,_⟩=>by cases e⟩,zV.cell (j:=0) rfl,XL,⟨by omega,by omega⟩,.slice none 0 0,LW,Own.nil _ _ _ _,fun b hb=>by cases hb⟩
 refine (K3 (lo:=lo) (hi:=hi) K4 hj hm dH (aC _)).mono ?_
 rintro e X ⟨rfl,hs⟩
 have hJ:∃R' M',JS E X0 R0 ps pg rt (w.heap.size+1) w.heap.size (w.heap.size+2) lim lo hi (l.foldl (eP lim lo hi) []) R' M' X:=by
  rcases hs with⟨rfl,rfl,R',M',hj',-⟩|⟨K,T,rfl,rfl,hnd,hok,hst,R',M',hj',-⟩
  ·exact⟨R',M',hj'⟩
  ·rw[(vM K T hok []).1] at hj'
   exact⟨R',M',hj'⟩
 obtain⟨R',M',hj'⟩:=hJ
 obtain⟨sv,hk',ho,RG⟩:=hj'.row
 obtain⟨a,c,rfl,hc⟩:=Own.slice ho
 exact⟨rfl,a,_,c,hk'.cell (j:=0) rfl,ho,R',M',hj'.ts,fun b hb=>⟨(RG b hb).1,(RG b hb).2.1⟩⟩
end
section
variable {w X:World} {R:Nat→Prop} {ring g N lb xb rb tb place:Nat} {H:List Wl.Text} {ps:List (Nat×List UInt8)} {pg:List (Option Wl.Text)} {rt:List Nat}
theorem D4 (w:World) (rb:Nat) (place:Int):Calls Tryz.prog 50 #[ptr rb,.int .i64 place] w fun e w'=>e=.returned (ptr w.heap.size)∧w'=w.alloc (.cells #[ptr rb,.int .i64 place] 157):=by
 unfold ptr
 go_enter Tryz.func50,Tryz.ntmps50
 go_wp2_with fail
 go_ret
 exact⟨rfl,rfl⟩
theorem La (h:iZ R ring g N lb xb rb H ps pg rt X) (ht:aS X tb 157 [ptr rb,.int .i64 place]) (hr:R tb):TS ⟨ring,g,N,lb,xb,rb,tb,place,H⟩ X R R ps pg rt (fun _=>none) X:=
 ⟨h,fun _ h=>h,fun _ h=>.inl h,aE.refl _ _,ht,hr,⟨fun _ _ e=>(by cases e),fun _ _ e=>(by cases e),fun _ _ _ _ e=>(by cases e),fun _ _ e=>(by cases e)⟩,fun _ ⟨_,_,e,_⟩=>(by cases e),h.c.lt,h.rr⟩
end
theorem zI {pg cP:List (Option Wl.Text)} {pages pages' o:List Nat} (h:DR pg cP pages pages') (hn:(pages++o).Nodup) (ht:∀x∈o,(pg.getD x none).isSome=true) (hp:pages'.Nodup):(∀x∈o,cP.getD x none=pg.getD x none)∧(pages'++o).Nodup:=by
 have hno:∀x∈o,x∉pages∧x∉pages':=fun x hx=>by
  have h1:x∉pages:=fun hp=>(aL.1 hn).2.2 x hp x hx rfl
  refine⟨h1,fun h2=> ?_⟩
  have h3:=h.jX x h2 h1
  have h4:=ht x hx
  rw[h3] at h4;cases h4
 exact⟨fun x hx=>h.same x (hno x hx).1 (hno x hx).2,aL.2 ⟨hp,(aL.1 hn).2.1,fun a ha b hb e=>(hno b hb).2 (by rw[←e];exact ha)⟩⟩
theorem sO {pg:List (Option Wl.Text)} {num:Nat} {l:List (Tr.Tx×Tr.Tx)} {pages:List Nat} (h:iz pg num l pages):pages.Nodup:=by
 rcases h with⟨_,_,rfl⟩|⟨_,_,_,_,_,_,_,_,_,_,h8⟩
 ·exact List.nodup_nil
 ·exact h8
structure MS (ring g N lb xb rb:Nat) (H:List Wl.Text) (tb place:Nat) (o:List Nat) (R:Nat→Prop) (ps:List (Nat×List UInt8)) (pg:List (Option Wl.Text)) (rt:List Nat) (l:List (Tr.Tx×Tr.Tx)) (pages:List Nat) (X:World):Prop where
 rm:iZ R ring g N lb xb rb H ps pg rt X
 tr:aS X tb 157 [ptr rb,.int .i64 place]
 own:R tb
 D5:place<16
 ok:iz pg (rt.getD place 0) l pages
 nd:(pages++o).Nodup
 tk:∀x∈o,(pg.getD x none).isSome=true
 us:Rm.used pg=pages.length+o.length
structure Mv (R R':Nat→Prop) (ps ps':List (Nat×List UInt8)) (pg cP:List (Option Wl.Text)) (rt rt':List Nat) (place:Nat) (o:List Nat) (X X':World):Prop where
 but:aE (fun k=>¬R k) X X'
 sub:∀k,R k→R' k
 new:∀k,R' k→R k∨X.heap.size≤k
 few:ps'.length≤ps.length+30000
 len:cP.length=pg.length
 same:∀x∈o,cP.getD x none=pg.getD x none
 t_:∃num,rt'=rt.set place num
section
variable {ring g N lb xb rb tb place:Nat} {H:List Wl.Text} {o pages pages':List Nat} {R R':Nat→Prop} {ps ps':List (Nat×List UInt8)} {pg cP:List (Option Wl.Text)} {rt rt':List Nat} {l l':List (Tr.Tx×Tr.Tx)} {X X':World} {key vl:List UInt8}
theorem MS.ts (h:MS ring g N lb xb rb H tb place o R ps pg rt l pages X):TS ⟨ring,g,N,lb,xb,rb,tb,place,H⟩ X R R ps pg rt (fun _=>none) X:=La h.rm h.tr h.own
theorem MS.stored {tgt:List (Tr.Tx×Tr.Tx)} {c:Int} (h:MS ring g N lb xb rb H tb place o R ps pg rt l pages X) (s:ko ⟨ring,g,N,lb,xb,rb,tb,place,H⟩ X R ps pg rt tgt pages c X'):c=0∧∃R' ps' cP rt' pages',MS ring g N lb xb rb H tb place o R' ps' cP rt' tgt pages' X'∧Mv R R' ps ps' pg cP rt rt' place o X X':=by
 obtain⟨rfl,R',M',ps',cP,num,pages',hts,hl,hok,ht⟩:=s
 obtain⟨h1,h2⟩:=zI ht h.nd h.tk (sO hok)
 have dH:place<rt.length:=by rw[h.rm.rep.t_];exact h.D5
 refine⟨rfl,R',ps',cP,rt.set place num,pages',⟨hts.rm,hts.tree,hts.sub _ h.own,h.D5, ?_,h2,fun x hx=>by rw[h1 x hx];exact h.tk x hx, ?_⟩,⟨hts.but.mono fun k _ hn hk=>hn hk,hts.sub,hts.new,hl,ht.len,h1,num,rfl⟩⟩
 ·grind
 ·have h3:=ht.used
  have h4:=h.us
  omega
theorem MS.kept (h:MS ring g N lb xb rb H tb place o R ps pg rt l pages X) (s:sM ⟨ring,g,N,lb,xb,rb,tb,place,H⟩ X R ps pg rt X'):∃R',MS ring g N lb xb rb H tb place o R' ps pg rt l pages X'∧Mv R R' ps ps pg pg rt rt place o X X':=by
 obtain⟨R',M',hts⟩:=s
 have dH:place<rt.length:=by rw[h.rm.rep.t_];exact h.D5
 exact⟨R',⟨hts.rm,hts.tree,hts.sub _ h.own,h.D5,h.ok,h.nd,h.tk,h.us⟩,⟨hts.but.mono fun k _ hn hk=>hn hk,hts.sub,hts.new,by omega,rfl,fun _ _=>rfl,rt.getD place 0,(gz rfl dH).symm⟩⟩
theorem QT (h:MS ring g N lb xb rb H tb place o R ps pg rt l pages X) (hk:key.length≤96) (hv:vl.length≤56) (hq:ps.length≤60000000):
  Calls Tryz.prog 45 #[ptr tb,.string (bs key),.string (bs vl)] X fun e X'=>(e=.returned (.int .i64 0)∧∃R' ps' cP rt' pages',MS ring g N lb xb rb H tb place o R' ps' cP rt' (Tr.put l key vl) pages' X'∧Mv R R' ps ps' pg cP rt rt' place o X X')∨
   (e=.returned (.int .i64 4)∧pg.length<Rm.used pg+20∧∃R',MS ring g N lb xb rb H tb place o R' ps pg rt l pages X'∧Mv R R' ps ps pg pg rt rt place o X X'):=by
 refine (N_ h.ts h.ok hk hv hq h.D5).mono ?_
 rintro e X' ⟨c,rfl,s|⟨rfl,h1,s⟩⟩
 ·obtain⟨rfl,hs⟩:=h.stored s
  exact .inl ⟨rfl,hs⟩
 ·exact .inr ⟨rfl,h1,h.kept s⟩
theorem D6 {l:List (Tr.Tx×Tr.Tx)} (h:Tr.got l key=none):Tr.del l key=l:=by
 unfold Tr.del
 refine List.filter_eq_self.2 fun p hp=> ?_
 rw[bne_iff_ne]
 intro e
 unfold Tr.got at h
 have h2:l.find? (fun p=>p.1==key)=none:=by
  simp_all;omega
 have:=List.find?_eq_none.1 h2 p hp
 exact this (by rw[e];exact beq_self_eq_true key)
theorem QU (h:MS ring g N lb xb rb H tb place o R ps pg rt l pages X) (hq:ps.length≤60000000):
  Calls Tryz.prog 36 #[ptr tb,.string (bs key)] X fun e X'=>e=.returned (.tuple #[.bool (Tr.got l key).isSome,.int .i64 0])∧∃R' ps' cP rt' pages',MS ring g N lb xb rb H tb place o R' ps' cP rt' (Tr.del l key) pages' X'∧Mv R R' ps ps' pg cP rt rt' place o X X':=by
 refine (Od h.ts h.ok hq h.D5).mono ?_
 rintro e X' (⟨rfl,h1,s⟩|⟨rfl,h1,s⟩)
 ·rw[h1,D6 h1]
  obtain⟨R',h2,h3⟩:=h.kept s
  exact⟨rfl,R',ps,pg,rt,pages,h2,h3⟩
 ·rw[h1]
  exact⟨rfl,(h.stored s).2⟩
theorem QV (h:MS ring g N lb xb rb H tb place o R ps pg rt l pages X):
  Calls Tryz.prog 32 #[ptr tb,.string (bs key)] X fun e X'=>e=.returned (.tuple #[.string (bs ((Tr.got l key).getD [])),.bool (Tr.got l key).isSome,.int .i64 0])∧∃R',MS ring g N lb xb rb H tb place o R' ps pg rt l pages X'∧Mv R R' ps ps pg pg rt rt place o X X':=by
 refine (Ob h.ts h.ok h.D5).mono ?_
 rintro e X' ⟨rfl,s⟩
 exact⟨rfl,h.kept s⟩
end
theorem Lb:∀(k:Nat) (c:Tr.E (k+1)) {lo:Tr.Tx} {h:Option Tr.Tx},Tr.Ok (k+1) lo h c→0<(Tr.ct k (Tr.its c)).length
 |0,c,_,_,ho=>ej.2 ho.1
 |k+1,c,lo,h,ho=>by
  obtain⟨p,l,hp⟩:=rL ho.1
  obtain⟨lo',h',ho'⟩:=tG ho p (by rw[hp];exact aA)
  have:=Lb k p.2 ho'
  rw[hp,vL,aq]
  omega
theorem Ht {pg:List (Option Wl.Text)} {num:Nat} {l:List (Tr.Tx×Tr.Tx)} {pages:List Nat} (h:iz pg num l pages):pages.length≤2*l.length+16∧(pages.length=0↔l.length=0):=by
 rcases h with⟨_,rfl,rfl⟩|⟨K,T,page,_,hp,hk,hst,hok,rfl,rfl,_⟩
 ·omega
 ·have h1:=Tr.zC (K+1) T
  have h2:Tr.eT (K+1) T=0:=py hst
  have h3:=Lb K T hok
  have h4:0<(Tr.b8 (K+1) T).length:=by
   rw[Tr.bp,hp,aq]
   show 0<([page]:List Nat).length+_
   rw[eH];omega
  refine⟨?_,⟨fun h=>by omega,fun h=>by omega⟩⟩
  match K,T,hk,hok,h1,h2,h3,h4 with
  |0,T,_,hok,h1,h2,h3,h4=>
   have h5:Tr.cnt 1 T=1:=Tr.BG T
   have h6:Tr.cnt (0+1) T=Tr.cnt 1 T:=rfl
   omega
  |k+1,T,hk,hok,h1,h2,h3,h4=>
   have h5:=(Tr.pz k hok.1 hok.2.2).1
   have h6:Tr.cnt (k+1+1) T=Tr.cnt (k+2) T:=rfl
   have h7:1≤(Tr.its T).length:=ej.2 hok.1
   have h8:3*2^k*1≤3*2^k*(Tr.its T).length:=Nat.mul_le_mul_left _ h7
   omega
section
variable {ring g N lb xb rb tb place:Nat} {H:List Wl.Text} {o pages pages':List Nat} {R R' S:Nat→Prop} {ps ps':List (Nat×List UInt8)} {pg cP:List (Option Wl.Text)} {rt rt':List Nat} {l l':List (Tr.Tx×Tr.Tx)} {X X':World} {key vl:List UInt8} {M:Nat→Option NV}
theorem MS.UQ (h:MS ring g N lb xb rb H tb place o R ps pg rt l pages X) (hts:TS ⟨ring,g,N,lb,xb,rb,tb,place,H⟩ X R R' ps pg rt M X'):MS ring g N lb xb rb H tb place o R' ps pg rt l pages X'∧Mv R R' ps ps pg pg rt rt place o X X':=by
 have dH:place<rt.length:=by rw[h.rm.rep.t_];exact h.D5
 exact⟨⟨hts.rm,hts.tree,hts.sub _ h.own,h.D5,h.ok,h.nd,h.tk,h.us⟩,⟨hts.but.mono fun k _ hn hk=>hn hk,hts.sub,hts.new,by omega,rfl,fun _ _=>rfl,rt.getD place 0,(gz rfl dH).symm⟩⟩
theorem Oe (h:MS ring g N lb xb rb H tb place o R ps pg rt l pages X) (lo hi:List UInt8) (lim:Int):
  Calls Tryz.prog 58 #[ptr tb,.string (bs lo),.string (bs hi),.int .i64 lim] X fun e X'=>∃v,e=.returned (.tuple #[v,.int .i64 0])∧qH X.heap.size X' v (l.foldl (eP lim lo hi) [])∧∃R',MS ring g N lb xb rb H tb place o R' ps pg rt l pages X'∧Mv R R' ps ps pg pg rt rt place o X X'∧∀b,v.ownBlock=some b→R' b:=by
 refine (K_ (lim:=lim) (lo:=lo) (hi:=hi) h.ts h.ok h.D5).mono ?_
 rintro e X' ⟨v,rfl,hr⟩
 obtain⟨R',M,hts,hv⟩:=hr.kept
 obtain⟨h1,h2⟩:=h.UQ hts
 have ho:=hr.row
 refine⟨v,rfl,⟨ho.1,ho.2.imp_right ?_⟩,R',h1,h2,fun b hb=>(hv b hb).1⟩
 rintro⟨g,cap,cur,e1,e2,e3⟩
 exact⟨g,cap,cur,e1,(hv g (by rw[e1];rfl)).2,e3⟩
end
theorem BV (w:World) (n:Nat) (h1:4≤n) (h2:n≤4098):
  Calls Tryz.prog 6 #[.int .i64 n] w fun e w'=>∃g b,e=.returned (.tuple #[ptr g,ptr b])∧Kept (fun x=>x<w.heap.size) 200 w' b g 1 (Wl.dz n)∧Below w.heap.size w w':=by
 have hm:max (n:Int) 4=n:=by omega
 have hI:(n:Int)≤4098:=by omega
 obtain⟨z,hz⟩:∃z:Nat,z=201+n:=⟨_,rfl⟩
 have hzI:201+(n:Int)=z:=by omega
 have HZ:=aa (show z=201+n∧4≤n∧n≤4098 from⟨hz,h1,h2⟩)
 clear hz h1 h2
 go_enter Tryz.func6,Tryz.ntmps6
 go_wp2_with fail
 refine (Me z w (by have:=HZ.o;omega) (by have:=HZ.o;omega)).mono ?_
 rintro e w1 ⟨g,FD,rfl,wm,hF,bF⟩
 have H1:=aa (And.intro wm (And.intro hF bF))
 clear wm hF bF
 go_wp2_with fail
 refine (C3 (A:=fun x=>x<w.heap.size) (ring:=200) (size:=z) H1.o.1 (fun x hx hn=>by have:=H1.o.2.1 x hx;omega) (fun x hx=>by have:=H1.o.2.2.size;omega) (by decide) (by decide) (by have:=HZ.o;omega) (by have:=HZ.o;omega)).mono ?_
 rintro e w2 ⟨b,rfl,hk2,fD⟩
 have H2:=aa (show Kept (fun x=>x<w.heap.size) 200 w2 b g 1 (Wl.dz n)∧Below w.heap.size w w2 by
  rw[show z-1-200=n by have:=HZ.o;omega] at hk2
  exact⟨hk2,H1.o.2.2.trans (SJ.below fD (fun x hx=>hx) H1.o.2.2.size)⟩)
 clear hk2 fD
 go_wp2
 go_ret2
 exact⟨g,b,rfl,H2.o.1,H2.o.2⟩
theorem Fg (X:World) (tb:Nat):
  Calls Tryz.prog 7 #[ptr tb] X fun e X'=>e=.returned (ptr X.heap.size)∧X'=X.alloc (.cells #[ptr tb] 74):=by
 go_enter Tryz.func7,Tryz.ntmps7
 unfold ptr
 go_wp2
 go_ret
 exact⟨rfl,rfl⟩
theorem D7 {A:Nat→Prop} {X:World} {ring g N lb tb n:Nat} (h:C1 A ring g N lb tb (Wl.dz n) [] X) (h1:3≤n) (h2:n≤4098):
  iZ (fun k=>A k∨k=X.heap.size) ring g N lb tb X.heap.size (Wl.dz n) [] (bg (n-2) none) (bg 16 0) (X.alloc (.cells #[ptr tb] 74)):=by
 refine⟨h.iE (aE.aH ((Below.refl _ X).alloc (af _) _) (fun _=>False)) (fun _ _ h=>h.elim) (fun k hk=>hk.imp_right fun e=> ?_),aS.new X #[ptr tb] 74,.inr rfl,Rm.Mo n (by omega) h2,fun p hp=>(by cases hp),(by rw[dM];omega)⟩
 rw[e,bk]
 omega
theorem Lc (n:Nat):Rm.used (bg n none)=0:=by
 unfold Rm.used
 rw[List.filter_eq_nil_iff.2]
 ·rfl
 ·grind
structure RM (ring g N lb xb rb:Nat) (H:List Wl.Text) (place:Nat) (R:Nat→Prop) (ps:List (Nat×List UInt8)) (pg:List (Option Wl.Text)) (rt:List Nat) (l:List (Tr.Tx×Tr.Tx)) (pages:List Nat) (X:World):Prop where
 rm:iZ R ring g N lb xb rb H ps pg rt X
 D5:place<16
 ok:iz pg (rt.getD place 0) l pages
 us:Rm.used pg=pages.length
structure Mw (c:Nat) (R R':Nat→Prop) (ps ps':List (Nat×List UInt8)) (pg cP:List (Option Wl.Text)) (X X':World):Prop where
 but:aE (fun k=>¬R k) X X'
 sub:∀k,R k→R' k
 new:∀k,R' k→R k∨X.heap.size≤k
 few:ps'.length≤ps.length+c
 len:cP.length=pg.length
section
variable {ring g N lb xb rb tb place c d:Nat} {H:List Wl.Text} {pages pages':List Nat} {R R' R'':Nat→Prop} {ps ps' aa4:List (Nat×List UInt8)} {pg cP aa5:List (Option Wl.Text)} {rt rt':List Nat} {l l':List (Tr.Tx×Tr.Tx)} {X X' gm:World}
theorem RM.tree (h:RM ring g N lb xb rb H place R ps pg rt l pages X):
  MS ring g N lb xb rb H X.heap.size place [] (fun k=>R k∨k=X.heap.size) ps pg rt l pages (X.alloc (.cells #[ptr rb,.int .i64 place] 157))∧
  Mw 0 R (fun k=>R k∨k=X.heap.size) ps ps pg pg X (X.alloc (.cells #[ptr rb,.int .i64 place] 157)):=by
 have hb:=(Below.refl X.heap.size X).alloc (af _) (.cells #[ptr rb,.int .i64 place] 157)
 have hs:(X.alloc (.cells #[ptr rb,.int .i64 place] 157)).heap.size=X.heap.size+1:=bk _ _
 refine⟨⟨h.rm.iE (aE.aH hb (fun _=>False)) (fun _ _ f=>f.elim) id (fun k hk=>hk.imp_right fun e=> ?_) (.inl h.rm.rr),aS.new X #[ptr rb,.int .i64 place] 157,.inr rfl,h.D5,h.ok, ?_,fun x hx=>(by cases hx), ?_⟩,aE.aH hb _,fun _ hk=>.inl hk,fun k hk=>hk.imp_right fun e=>by rw[e];exact af _,by omega,rfl⟩
 ·rw[e,hs];omega
 ·rw[bh];exact sO h.ok
 ·rw[h.us];rfl
theorem MS.room (h:MS ring g N lb xb rb H tb place [] R ps pg rt l pages X):RM ring g N lb xb rb H place R ps pg rt l pages X:=⟨h.rm,h.D5,h.ok,h.us⟩
theorem RM.still (h:RM ring g N lb xb rb H place R ps pg rt l pages X) (hb:Below X.heap.size X X'):RM ring g N lb xb rb H place R ps pg rt l pages X':=⟨h.rm.still hb,h.D5,h.ok,h.us⟩
end
section
variable {ring g N lb xb rb place:Nat} {H:List Wl.Text} {pages:List Nat} {R R' S:Nat→Prop} {ps:List (Nat×List UInt8)} {pg:List (Option Wl.Text)} {rt:List Nat} {l:List (Tr.Tx×Tr.Tx)} {X X':World}
theorem RM.iE (h:RM ring g N lb xb rb H place R ps pg rt l pages X) (hb:aE S X X') (hS:∀k,k<X.heap.size→S k→R k) (hr:¬S rb) (Cq:∀k,R' k→R k∨(X.heap.size≤k∧k<X'.heap.size)) (hr':R' rb):RM ring g N lb xb rb H place R' ps pg rt l pages X':=
 ⟨h.rm.iE hb hS hr Cq hr',h.D5,h.ok,h.us⟩
end
structure RH (w:World) (rb place n:Nat) (l:Tr.eZ) (B:Nat) (K:Nat→Prop) (Q:World→Prop) (X:World):Prop where
 ms:∃(g b xb:Nat) (R:Nat→Prop) (ps:List (Nat×List UInt8)) (pg:List (Option Wl.Text)) (rt pages:List Nat),RM 200 g 1 b xb rb (Wl.dz n) place R ps pg rt l pages X∧ps.length≤B∧pg.length=n-2∧
  (∀k,k<w.heap.size∨K k→R k)∧Below w.heap.size w X∧∀X',aE (fun k=>¬K k) X X'→Q X'
section
variable {w X X':World} {rb place n B B' c:Nat} {l l':Tr.eZ} {K K':Nat→Prop} {Q Q':World→Prop}
theorem RH.q (h:RH w rb place n l B K Q X):Q X:=by
 obtain⟨g,b,xb,R,ps,pg,rt,pages,h1,h2,h3,h4,h5,h6⟩:=h.ms
 exact h6 X (aE.refl _ _)
theorem RH.below (h:RH w rb place n l B K Q X):Below w.heap.size w X:=by
 obtain⟨g,b,xb,R,ps,pg,rt,pages,h1,h2,h3,h4,h5,h6⟩:=h.ms
 exact h5
theorem RH.more (h:RH w rb place n l B K Q X) (hB:B≤B'):RH w rb place n l B' K Q X:=by
 obtain⟨g,b,xb,R,ps,pg,rt,pages,h1,h2,h3⟩:=h.ms
 exact⟨g,b,xb,R,ps,pg,rt,pages,h1,aG h2 hB,h3⟩
theorem RH.still (h:RH w rb place n l B K Q X) (hb:Below X.heap.size X X'):RH w rb place n l B K Q X':=by
 obtain⟨g,b,xb,R,ps,pg,rt,pages,h1,h2,h3,h4,h5,h6⟩:=h.ms
 exact⟨g,b,xb,R,ps,pg,rt,pages,h1.still hb,h2,h3,h4,h5.trans (hb.mono h5.size),fun X2 aP=>h6 X2 ((aE.aH hb _).trans aP fun _ _ hn=>hn)⟩
theorem RH.iE {S:Nat→Prop} (h:RH w rb place n l B K Q X) (hb:aE S X X') (hS:∀k,S k→K k∧w.heap.size≤k∧k≠rb) (hq:∀X2,aE (fun k=>¬K k) X' X2→Q' X2):RH w rb place n l B K Q' X':=by
 obtain⟨g,b,xb,R,ps,pg,rt,pages,h1,h2,h3,h4,h5,h6⟩:=h.ms
 exact⟨g,b,xb,R,ps,pg,rt,pages,h1.iE hb (fun k _ hk=>h4 k (.inr (hS k hk).1)) (fun hk=>(hS rb hk).2.2 rfl) (fun _ hk=>.inl hk) h1.rm.rr,h2,h3,h4,h5.trans (hb.below h5.size fun k hk hn=>absurd (hS k hn).2.1 (by omega)),hq⟩
theorem Ld {A:Nat→Prop} {g b xb:Nat} (h:C1 A 200 g 1 b xb (Wl.dz n) [] X) (hA:∀k,k<w.heap.size→A k) (hb:Below w.heap.size w X) (h1:3≤n) (h2:n≤4098) (hp:place<16):
  RH w X.heap.size place n [] 0 (fun _=>False) (fun _=>True) (X.alloc (.cells #[ptr xb] 74)):=by
 have hr:=D7 h h1 h2
 refine⟨⟨g,b,xb,_,[],_,_,[],⟨hr,hp,.inl ⟨?_,rfl,rfl⟩,Lc _⟩,af _,dM,fun k hk=>.inl (hA k (hk.resolve_right id)),hb.alloc hb.size _,fun _ _=>trivial⟩⟩
 grind
end
structure RT (w:World) (rb tb place n:Nat) (l:Tr.eZ) (B:Nat) (K:Nat→Prop) (Q:World→Prop) (X:World):Prop where
 ms:∃(g b xb:Nat) (R:Nat→Prop) (ps:List (Nat×List UInt8)) (pg:List (Option Wl.Text)) (rt pages:List Nat),MS 200 g 1 b xb rb (Wl.dz n) tb place [] R ps pg rt l pages X∧ps.length≤B∧pg.length=n-2∧
  (∀k,k<w.heap.size∨K k→R k)∧Below w.heap.size w X∧∀X',aE (fun k=>¬K k) X X'→Q X'
section
variable {w X X':World} {rb tb place n B B' c:Nat} {l l':Tr.eZ} {K:Nat→Prop} {Q Q':World→Prop} {key vl:List UInt8}
theorem RH.tree (h:RH w rb place n l B K Q X):RT w rb X.heap.size place n l B K Q (X.alloc (.cells #[ptr rb,.int .i64 place] 157)):=by
 obtain⟨g,b,xb,R,ps,pg,rt,pages,h1,h2,h3,h4,h5,h6⟩:=h.ms
 obtain⟨k1,k2⟩:=h1.tree
 exact⟨g,b,xb,_,ps,pg,rt,pages,k1,h2,h3,fun k hk=>.inl (h4 k hk),h5.alloc h5.size _,fun X2 aP=>h6 X2 ((k2.but.mono fun i _ hn hk=>hn (h4 i (.inr hk))).trans aP fun _ _ hn=>hn)⟩
theorem RT.still (h:RT w rb tb place n l B K Q X) (hb:Below X.heap.size X X'):RT w rb tb place n l B K Q X':=by
 obtain⟨g,b,xb,R,ps,pg,rt,pages,h1,h2,h3,h4,h5,h6⟩:=h.ms
 exact⟨g,b,xb,R,ps,pg,rt,pages,{h1 with rm:=h1.rm.still hb,tr:=h1.tr.below hb h1.tr.lt},h2,h3,h4,h5.trans (hb.mono h5.size),fun X2 aP=>h6 X2 ((aE.aH hb _).trans aP fun _ _ hn=>hn)⟩
theorem tJ {R R':Nat→Prop} {ps ps':List (Nat×List UInt8)} {pg cP:List (Option Wl.Text)} {rt rt' pages':List Nat} {g b xb:Nat} (h2:ps.length≤B) (h3:pg.length=n-2) (h4:∀k,k<w.heap.size∨K k→R k) (h5:Below w.heap.size w X) (h6:∀X',aE (fun k=>¬K k) X X'→Q X')
  (k1:MS 200 g 1 b xb rb (Wl.dz n) tb place [] R' ps' cP rt' l' pages' X') (k2:Mv R R' ps ps' pg cP rt rt' place [] X X'):RH w rb place n l' (B+30000) K Q X':=
 ⟨g,b,xb,R',ps',cP,rt',pages',k1.room,by have:=k2.few;omega,by rw[k2.len,h3],fun k hk=>k2.sub k (h4 k hk),h5.trans (k2.but.below h5.size fun k hk hn=>hn (h4 k (.inl hk))),fun X2 aP=>h6 X2 ((k2.but.mono fun i _ hn hk=>hn (h4 i (.inr hk))).trans aP fun _ _ hn=>hn)⟩
theorem Of (h:RH w rb place n l B K Q X) {k:Nat} (hk:k<16):
  Calls Tryz.prog 47 #[ptr rb,.int .i64 k] X fun e X'=>∃m:Nat,e=.returned (.tuple #[.int .u64 m,.int .i64 0])∧RH w rb place n l B K Q X':=by
 obtain⟨g,b,xb,R,ps,pg,rt,pages,h1,_⟩:=h.ms
 refine (nN h1.rm k hk).mono ?_
 rintro e X' ⟨rfl,hb⟩
 exact⟨_,rfl,h.still hb⟩
theorem Le (h:RT w rb tb place n l B K Q X):
  Calls Tryz.prog 32 #[ptr tb,.string (bs key)] X fun e X'=>e=.returned (.tuple #[.string (bs ((Tr.got l key).getD [])),.bool (Tr.got l key).isSome,.int .i64 0])∧RH w rb place n l (B+30000) K Q X':=by
 obtain⟨g,b,xb,R,ps,pg,rt,pages,h1,h2,h3,h4,h5,h6⟩:=h.ms
 refine (QV h1).mono ?_
 rintro e X' ⟨rfl,R',k1,k2⟩
 exact⟨rfl,tJ h2 h3 h4 h5 h6 k1 k2⟩
theorem QW (h:RT w rb tb place n l B K Q X) (hk:key.length≤96) (hv:vl.length≤56) (hB:B≤60000000) (hn:2*l.length+38≤n):
  Calls Tryz.prog 45 #[ptr tb,.string (bs key),.string (bs vl)] X fun e X'=>e=.returned (.int .i64 0)∧RH w rb place n (Tr.put l key vl) (B+30000) K Q X':=by
 obtain⟨g,b,xb,R,ps,pg,rt,pages,h1,h2,h3,h4,h5,h6⟩:=h.ms
 refine (QT h1 hk hv (by omega)).mono ?_
 rintro e X' (⟨rfl,R',ps',cP,rt',pages',k1,k2⟩|⟨rfl,k0,R',k1,k2⟩)
 ·exact⟨rfl,tJ h2 h3 h4 h5 h6 k1 k2⟩
 ·have hu:=h1.us
  have hp:=(Ht h1.ok).1
  simp only[List.length_nil] at hu
  omega
theorem QX (h:RT w rb tb place n l B K Q X) (hB:B≤60000000):
  Calls Tryz.prog 36 #[ptr tb,.string (bs key)] X fun e X'=>e=.returned (.tuple #[.bool (Tr.got l key).isSome,.int .i64 0])∧RH w rb place n (Tr.del l key) (B+30000) K Q X':=by
 obtain⟨g,b,xb,R,ps,pg,rt,pages,h1,h2,h3,h4,h5,h6⟩:=h.ms
 refine (QU h1 (by omega)).mono ?_
 rintro e X' ⟨rfl,R',ps',cP,rt',pages',k1,k2⟩
 exact⟨rfl,tJ h2 h3 h4 h5 h6 k1 k2⟩
theorem Og (h:RT w rb tb place n l B K Q X) (lo hi:List UInt8) (lim:Int):
  Calls Tryz.prog 58 #[ptr tb,.string (bs lo),.string (bs hi),.int .i64 lim] X fun e X'=>∃v,e=.returned (.tuple #[v,.int .i64 0])∧qH X.heap.size X' v (l.foldl (eP lim lo hi) [])∧RH w rb place n l (B+30000) K Q X':=by
 obtain⟨g,b,xb,R,ps,pg,rt,pages,h1,h2,h3,h4,h5,h6⟩:=h.ms
 refine (Oe h1 lo hi lim).mono ?_
 rintro e X' ⟨v,rfl,ho,R',k1,k2,_⟩
 exact⟨v,rfl,ho,tJ h2 h3 h4 h5 h6 k1 k2⟩
def Kx (K:Nat→Prop) (a b:Nat):Nat→Prop:=fun k=>K k∨(a≤k∧k<b)
def Qx (K:Nat→Prop) (Q P:World→Prop):World→Prop:=fun X=>(∀X',aE (fun k=>¬K k) X X'→Q X')∧P X
theorem RH.lts (h:RH w rb place n l B K Q X):rb<X.heap.size∧(∀k,K k→k<X.heap.size)∧w.heap.size≤X.heap.size:=by
 obtain⟨g,b,xb,R,ps,pg,rt,pages,h1,h2,h3,h4,h5,h6⟩:=h.ms
 exact⟨h1.rm.blk.lt,fun k hk=>h1.rm.c.lt k (h4 k (.inr hk)),h5.size⟩
theorem RH.box {P:World→Prop} (h:RH w rb place n l B K Q X) (hb:Below X.heap.size X X') (hP:∀X2,aE (fun k=>¬(X.heap.size≤k∧k<X'.heap.size)) X' X2→P X2):RH w rb place n l B (Kx K X.heap.size X'.heap.size) (Qx K Q P) X':=by
 obtain⟨g,b,xb,R,ps,pg,rt,pages,h1,h2,h3,h4,h5,h6⟩:=h.ms
 refine⟨g,b,xb,fun k=>R k∨(X.heap.size≤k∧k<X'.heap.size),ps,pg,rt,pages,h1.iE (aE.aH hb (fun _=>False)) (fun _ _ f=>f.elim) id (fun _ hk=>hk) (.inl h1.rm.rr),h2,h3,fun k hk=> ?_,h5.trans (hb.mono h5.size),fun X2 aP=>⟨fun X3 bY=>h6 X3 (((aE.aH hb (fun k=>¬K k)).trans aP fun _ _ hn hk=>hn (.inl hk)).trans bY fun _ _ hn=>hn),hP X2 (aP.mono fun _ _ hn hk=>hn (.inr hk))⟩⟩
 rcases hk with hk|hk|hk
 ·exact .inl (h4 k (.inl hk))
 ·exact .inl (h4 k (.inr hk))
 ·exact .inr hk
theorem RH.unbox {P:World→Prop} {a b:Nat} (h:RH w rb place n l B (Kx K a b) (Qx K Q P) X):RH w rb place n l B K Q X:=by
 obtain⟨g,b,xb,R,ps,pg,rt,pages,h1,h2,h3,h4,h5,h6⟩:=h.ms
 exact⟨g,b,xb,R,ps,pg,rt,pages,h1,h2,h3,fun k hk=>h4 k (hk.imp_right .inl),h5,(h6 X (aE.refl _ _)).1⟩
theorem RH.store {P P':World→Prop} {a b m:Nat} (h:RH w rb place n l B (Kx K a b) (Qx K Q P) X) (hb:aE (fun k=>k=m) X X') (hm:a≤m∧m<b) (ha:rb<a∧(∀k,K k→k<a)∧w.heap.size≤a) (hP:∀X2,aE (fun k=>¬(a≤k∧k<b)) X' X2→P' X2):RH w rb place n l B (Kx K a b) (Qx K Q P') X':=by
 obtain⟨_,_,_,_,_,_,_,_,_,_,_,_,_,h6⟩:=h.ms
 refine h.iE hb (fun k hk=>⟨.inr (by rw[hk];exact hm),by omega,by omega⟩) fun X2 aP=>⟨fun X3 bY=> ?_,hP X2 (aP.mono fun _ _ hn hk=>hn (.inr hk))⟩
 refine (h6 X (aE.refl _ _)).1 X3 (((hb.mono fun k _ hk hK=> ?_).trans aP fun _ _ hn hk=>hn (.inl hk)).trans bY fun _ _ hn=>hn)
 have:=ha.2.1 k hK
 omega
theorem RH.boxed (h:RH w rb place n l B K Q X) (cs:Array Value) (t:TypeId):∃(K1:Nat→Prop) (Q1:World→Prop),RH w rb place n l B K1 Q1 (X.alloc (.cells cs t))∧
  (∀l' B' Y Y',RH w rb place n l' B' K1 Q1 Y→aE (fun k=>k=X.heap.size) Y Y'→RH w rb place n l' B' K Q Y')∧∀Y,Q1 Y→aS Y X.heap.size t cs.toList:=by
 have hs:(X.alloc (.cells cs t)).heap.size=X.heap.size+1:=bk _ _
 have hl:=h.lts
 refine⟨_,_,h.box (P:=fun Y=>aS Y X.heap.size t cs.toList) ((Below.refl _ X).alloc (af _) (.cells cs t)) fun X2 aP=>(aS.new X cs t).but aP fun hn=>hn ⟨af _,by omega⟩,fun l' B' Y Y' hY hb=> ?_,fun Y hY=>hY.2⟩
 exact (hY.store (P':=fun _=>True) hb ⟨af _,by omega⟩ hl fun _ _=>trivial).unbox
end
end
namespace Pk
open Wl (enc dec cv pQ lT)
abbrev Text:=List UInt8
def lt:Text→Text→Bool
 |_,[]=>false
 |[],_::_=>true
 |a::x,b::y=>a<b||(a==b&&lt x y)
def width (c:UInt8):Nat:=if c=110 then 8 else if c=104 then 4 else if c=98 then 1 else 0
theorem qK (c:UInt8):width c≤8:=by unfold width;split<;>(try split)<;>(try split)<;>omega
def letter (c:UInt8) (last:Bool):Bool:=decide (width c≠0)||decide (c=116)||(decide (c=114)&&last)
def right:Text→Bool
 |[]=>true
 |c::r=>letter c r.isEmpty&&right r
structure Fd where
 n:Nat
 s:Text
deriving DecidableEq
instance:Inhabited Fd:=⟨⟨0,[]⟩⟩
def eN (c:UInt8) (f:Fd):Option Text:=
 if width c≠0 then (if f.s=[]∧f.n<256^width c then some (enc (width c) f.n) else none)
 else if f.n≠0 then none
 else if c=114 then some f.s
 else if f.s.length>65535 then none else some (enc 2 f.s.length++f.s)
def BW:Text→Text→List Fd→Option Text
 |acc,[],[]=>some acc
 |acc,c::k,f::l=>match eN c f with
  |none=>none
  |some a=>BW (acc++a) k l
 |_,_,_=>none
def write (k:Text) (l:List Fd):Option Text:=if right k=true∧k.length=l.length then BW [] k l else none
def cR (c:UInt8) (s:Text):Option (Fd×Text):=
 if c=114 then some (⟨0,s⟩,[])
 else if c=116 then (if s.length<2 then none else if (s.drop 2).length<dec (s.take 2) then none else some (⟨0,(s.drop 2).take (dec (s.take 2))⟩,(s.drop 2).drop (dec (s.take 2))))
 else if s.length<width c then none else some (⟨dec (s.take (width c)),[]⟩,s.drop (width c))
def z8:List Fd→Text→Text→Option (List Fd)
 |acc,[],s=>if s=[] then some acc else none
 |acc,c::k,s=>match cR c s with
  |none=>none
  |some (f,s')=>z8 (acc++[f]) k s'
def read (k s:Text):Option (List Fd):=if right k=true then z8 [] k s else none
theorem qL {c:UInt8} {b:Bool} (h:letter c b=true):(width c≠0∧c≠114∧c≠116)∨(c=116∧width c=0)∨(c=114∧width c=0∧b=true):=by
 unfold letter at h
 simp only[Bool.or_eq_true,decide_eq_true_eq,fy] at h
 rcases h with (h|rfl)|⟨rfl,h⟩
 ·refine .inl ⟨h, ?_, ?_⟩<;>(rintro rfl;exact h (by decide))
 ·exact .inr (.inl ⟨rfl,by decide⟩)
 ·exact .inr (.inr ⟨rfl,by decide,h⟩)
theorem wZ {c:UInt8} {b:Bool} {f:Fd} {a t:Text} (hc:letter c b=true) (hb:b=true→t=[]) (h:eN c f=some a):cR c (a++t)=some (f,t):=by
 obtain⟨n,s⟩:=f
 rcases qL hc with⟨h0,h1,h2⟩|⟨rfl,h0⟩|⟨rfl,h0,h1⟩
 ·unfold eN at h
  rw[if_pos h0] at h
  split at h
  ·next h3=>
   obtain⟨h3,h4⟩:=h3
   simp only at h3 h4
   subst h3
   injection h with h
   subst h
   unfold cR
   rw[if_neg h1,if_neg h2,if_neg (by rw[aq,cv];omega),List.take_left' (cv _ _),List.drop_left' (cv _ _),pQ _ _ h4]
  ·cases h
 ·unfold eN at h
  rw[if_neg (by omega)] at h
  split at h
  ·cases h
  ·next h3=>
   rw[if_neg (by decide)] at h
   split at h
   ·cases h
   ·next h4=>
    injection h with h
    subst h
    have hn:n=0:=by simpa using h3
    subst hn
    unfold cR
    have hd:dec (enc 2 s.length)=s.length:=pQ 2 _ (by simp only at h4;omega)
    rw[if_neg (by decide),if_pos rfl,if_neg (by rw[aq,aq,cv];omega),aB,List.take_left' (cv _ _),List.drop_left' (cv _ _)]
    simp only[hd]
    rw[if_neg (by rw[aq];omega),fF,List.drop_left]
 ·unfold eN at h
  rw[if_neg (by omega)] at h
  split at h
  ·cases h
  ·next h3=>
   rw[if_pos rfl] at h
   injection h with h
   subst h
   have hn:n=0:=by simpa using h3
   subst hn
   unfold cR
   rw[if_pos rfl,hb h1,bh]
theorem Fh:∀(k:Text) (l:List Fd) (acc t:Text),right k=true→BW acc k l=some t→∃b,t=acc++b∧∀acc',z8 acc' k b=some (acc'++l)
 |[],[],acc,t,_,h=>by
  simp only[BW,Option.some.injEq] at h
  subst h
  exact⟨[],by simp,fun acc'=>by simp[z8]⟩
 |[],_::_,_,_,_,h=>by simp[BW] at h
 |_::_,[],_,_,_,h=>by simp[BW] at h
 |c::k,f::l,acc,t,hr,h=>by
  simp only[right,fy] at hr
  rw[BW] at h
  split at h
  ·cases h
  ·next a ha=>
   obtain⟨b,rfl,hb⟩:=Fh k l (acc++a) t hr.2 h
   refine⟨a++b,by rw[aB],fun acc'=> ?_⟩
   rw[z8,wZ hr.1 (fun hk=> ?_) ha]
   ·simp only
    rw[hb,aB];rfl
   ·have hk':k=[]:=by simpa using hk
    subst hk'
    cases l with
    |nil=>
     simp only[BW,Option.some.injEq] at h
     exact List.append_cancel_left (by rw[←h,bh])
    |cons _ _=>simp[BW] at h
theorem Fi:∀(k:Text) (acc l:List Fd) (s:Text),z8 acc k s=some l→∃m,l=acc++m∧m.length=k.length
 |[],acc,l,s,h=>by
  simp only[z8] at h
  split at h
  ·injection h with h;exact⟨[],by simp[h],rfl⟩
  ·cases h
 |c::k,acc,l,s,h=>by
  rw[z8] at h
  split at h
  ·cases h
  ·obtain⟨m,rfl,hm⟩:=Fi k _ l _ h
   exact⟨_::m,by rw[aB];rfl,by simp[hm]⟩
theorem Fk:∀(k:Text) (acc l:List Fd) (s:Text),right k=true→z8 acc k s=some l→k.length≤s.length+1
 |[],_,_,_,_,_=>by simp
 |c::k,acc,l,s,hr,h=>by
  simp only[right,fy] at hr
  rw[z8] at h
  split at h
  ·cases h
  ·next f s' hf=>
   have ih:=Fk k _ l s' hr.2 h
   have hl:(c=114∧k=[])∨s'.length+1≤s.length:=by
    rcases qL hr.1 with⟨h0,h1,h2⟩|⟨rfl,h0⟩|⟨rfl,h0,h1⟩
    ·right
     unfold cR at hf
     rw[if_neg h1,if_neg h2] at hf
     split at hf
     ·cases hf
     ·injection hf with hf
      injection hf with e1 e2
      subst e2
      rw[aT];omega
    ·right
     unfold cR at hf
     rw[if_neg (by decide),if_pos rfl] at hf
     split at hf
     ·cases hf
     ·split at hf
      ·cases hf
      ·injection hf with hf
       injection hf with e1 e2
       subst e2
       rw[aT,aT];omega
    ·exact .inl ⟨rfl,by simpa using h1⟩
   rcases hl with⟨_,rfl⟩|hl
   ·simp
   ·simp only[aW];omega
theorem D8 {k:Text} {l:List Fd} {t:Text} (h:write k l=some t):read k t=some l:=by
 unfold write at h
 split at h
 ·next hr=>
  obtain⟨b,rfl,hb⟩:=Fh k l [] t hr.1 h
  unfold read
  rw[if_pos hr.1]
  simpa using hb []
 ·cases h
theorem Lf {k s:Text} {l:List Fd} (h:read k s=some l):k.length≤s.length+1∧l.length=k.length:=by
 unfold read at h
 split at h
 ·next hr=>
  refine⟨Fk k [] l s hr h, ?_⟩
  obtain⟨m,rfl,hm⟩:=Fi k [] l s h
  simpa using hm
 ·cases h
def cut:Text→Option (Text×Text)
 |[]=>none
 |c::r=>if c=0 then some ([],r) else match cut r with
  |none=>none
  |some (x,y)=>some (c::x,y)
theorem nA:∀(s:Text),cut s=none↔(0:UInt8)∉s
 |[]=>by simp[cut]
 |c::r=>by
  have ih:=nA r
  rw[cut]
  by_cases hc:c=0
  ·rw[if_pos hc];simp[hc]
  ·rw[if_neg hc]
   have xh:¬(0:UInt8)=c:=fun e=>hc e.symm
   cases h:cut r with
   |none=>simp[xh,ih.1 h]
   |some p=>
    have:(0:UInt8)∈r:=by
     apply Classical.byContradiction
     intro hn
     rw[ih.2 hn] at h;cases h
    simp[this]
theorem D9:∀(s:Text) (k:Nat),(0:UInt8)∉s.take k→k<s.length→s[k]?=some 0→cut s=some (s.take k,s.drop (k+1))
 |[],_,_,h,_=>by simp at h
 |c::r,0,_,_,h=>by
  have hc:c=0:=by simpa using h
  rw[cut,if_pos hc];rfl
 |c::r,k+1,h,hk,h0=>by
  rw[List.take_succ_cons] at h ⊢
  have hc:¬c=0:=fun e=>h (by rw[e];exact aA ..)
  rw[cut,if_neg hc,D9 r k (fun hm=>h (aF _ hm)) (by simpa using hk) (by simpa using h0)]
  rfl
theorem Lh (a r:Text) (h:(0:UInt8)∉a):cut (a++[0]++r)=some (a,r):=by
 have:=D9 (a++[0]++r) a.length (by rw[aB,fF];exact h) (by simp) (by simp)
 rw[this,aB,fF]
 congr 2
 rw[←aB,List.drop_left' (by simp)]
theorem Fl:∀(a b x y:Text),(0:UInt8)∉a→(0:UInt8)∉b→a≠b→lt (a++[0]++x) (b++[0]++y)=lt a b
 |[],[],_,_,_,_,h=>absurd rfl h
 |[],d::b,x,y,_,hb,_=>by
  have hd:(0:UInt8)<d:=by
   have:¬(0:UInt8)=d:=fun e=>hb (by rw[e];exact aA ..)
   rw[rZ]
   have h0:¬d.toNat=0:=fun e=>this (UInt8.toNat.inj e.symm)
   exact Nat.pos_of_ne_zero h0
  simp[lt,hd]
 |c::a,[],x,y,ha,_,_=>by
  have hd:(0:UInt8)<c:=by
   have:¬(0:UInt8)=c:=fun e=>ha (by rw[e];exact aA ..)
   rw[rZ]
   have h0:¬c.toNat=0:=fun e=>this (UInt8.toNat.inj e.symm)
   exact Nat.pos_of_ne_zero h0
  have h1:¬c<0:=by rw[rZ] at hd ⊢;omega
  have h2:¬c=0:=fun e=>by rw[e] at hd;exact UInt8.lt_irrefl _ hd
  simp[lt,h1,h2]
 |c::a,d::b,x,y,ha,hb,h=>by
  simp only[gD,lt]
  by_cases hcd:c=d
  ·subst hcd
   rw[Fl a b x y (fun hm=>ha (aF _ hm)) (fun hm=>hb (aF _ hm)) (fun e=>h (by rw[e]))]
  ·have h1:(c==d)=false:=by simpa using hcd
   rw[h1];simp
end Pk
namespace Nm
open Pk
open Wl (enc dec cv pQ)
def letter (c:UInt8):Bool:=(decide (97≤c)&&decide (c≤122))||(decide (48≤c)&&decide (c≤57))||c==45
def bucket (s:Text):Bool:=decide (3≤s.length)&&decide (s.length≤16)&&s.head? !=some 45&&s.getLast? !=some 45&&s.all letter
def item (s:Text):Bool:=decide (1≤s.length)&&decide (s.length≤40)&& !s.contains 0
def under (kind:UInt8) (parts:List Text):Text:=if parts.any (·.contains 0) then [] else kind::parts.flatMap (· ++[0])
def read (kind:UInt8) (s:Text):Option (Text×Text×Text):=
 match s with
 |[]=>none
 |c::r=>if c≠kind then none else match cut r with
  |none=>none
  |some (b,r1)=>match cut r1 with
   |none=>none
   |some (i,t)=>if bucket b&&item i&&decide (t.length=8) then some (b,i,t) else none
theorem Hu {c:UInt8} (h:letter c=true):c≠0:=by
 rintro rfl
 revert h
 decide
theorem eV {s:Text} (h:bucket s=true):(0:UInt8)∉s:=by
 unfold bucket at h
 simp only[fy,List.all_eq_true] at h
 exact fun hm=>Hu (h.2 0 hm) rfl
theorem pH {s:Text} (h:bucket s=true):3≤s.length∧s.length≤16:=by
 unfold bucket at h
 simp only[fy,decide_eq_true_eq] at h
 exact h.1.1.1
def zJ:Text→Text
 |[]=>[]
 |c::r=>if c<255 then (c+1)::r else zJ r
def behind (s:Text):Text:=(zJ s.reverse).reverse
theorem BX (s:Text) (c:UInt8):behind (s++[c])=if c<255 then s++[c+1] else behind s:=by
 unfold behind
 rw[List.reverse_append,List.reverse_singleton,List.singleton_append]
 show (if c<255 then (c+1)::s.reverse else zJ s.reverse).reverse=_
 split
 ·rw[List.reverse_cons,List.reverse_reverse]
 ·rfl
theorem Li (a:Text):a.contains 0=true↔(0:UInt8)∈a:=by
 rw[List.contains_eq_mem,decide_eq_true_eq]
theorem vN {kind:UInt8} {parts:List Text} (h:∀p∈parts,(0:UInt8)∉p):under kind parts=kind::parts.flatMap (· ++[0]):=by
 unfold under
 rw[if_neg]
 intro ha
 obtain⟨p,hp,hz⟩:=List.any_eq_true.1 ha
 exact h p hp ((Li p).1 hz)
end Nm
namespace Bk
open Tr (lt put del got eZ ck)
abbrev Text:=List UInt8
structure B where
 name:Text
 state:Int
 born:Nat
 on:Bool
 pre:Text
 after:Nat
deriving DecidableEq
theorem Lj:∀a b:Text,Pk.lt a b=lt a b
 |[],[]=>rfl
 |_::_,[]=>rfl
 |[],_::_=>rfl
 |a::x,b::y=>by
  show (decide (a<b)||(a==b&&Pk.lt x y))=(decide (a<b)||(a==b&&lt x y))
  rw[Lj x y]
def key (n:Text):Text:=98::(n++[0])
theorem Hv {n:Text} (h:(0:UInt8)∉n):Nm.under 98 [n]=key n:=by
 rw[Nm.vN (by intro p hp;rw[cH.1 hp];exact h)]
 simp[key]
theorem key_inj {a b:Text} (h:key a=key b):a=b:=by
 unfold key at h
 injection h with _ h
 exact List.append_cancel_right h
theorem Ll {a b:Text} (ha:(0:UInt8)∉a) (hb:(0:UInt8)∉b):lt (key a) (key b)=lt a b:=by
 by_cases e:a=b
 ·subst e;rw[Tr.lt_irrefl,Tr.lt_irrefl]
 ·have h:=Pk.Fl a b [] [] ha hb e
  rw[bh,bh,Lj,Lj] at h
  rw[←h]
  unfold key
  show (decide ((98:UInt8)<98)||((98:UInt8)==98&&lt (a++[0]) (b++[0])))=_
  simp
def pI (rec:B→Text) (l:List B):eZ:=l.map fun b=>(key b.name,rec b)
def Good (l:List B):Prop:=(∀b∈l,(0:UInt8)∉b.name)∧l.Pairwise fun a b=>lt a.name b.name=true
def find (l:List B) (n:Text):Option B:=l.find? fun b=>b.name==n
def ins (l:List B) (b:B):List B:=l.filter (fun x=>lt x.name b.name)++b::l.filter (fun x=>lt b.name x.name)
def drop (l:List B) (n:Text):List B:=l.filter fun b=>b.name !=n
def upd (l:List B) (n:Text) (f:B→B):List B:=l.map fun b=>if b.name=n then f b else b
variable {rec:B→Text} {l:List B} {n k:Text}
theorem Good.nil:Good []:=⟨fun _ h=>absurd h List.not_mem_nil,List.Pairwise.nil⟩
theorem Fm (_:(0:UInt8)∉n):got (pI rec l) (key n)=(find l n).map rec:=by
 unfold got pI find
 rw[List.find?_map]
 have:((fun p:Text×Text=>p.1==key n)∘fun b:B=>(key b.name,rec b))=fun b:B=>b.name==n:=by
  funext b
  show (key b.name==key n)=_
  rw[jc,beq_iff_eq,beq_iff_eq]
  exact⟨key_inj,fun e=>by rw[e]⟩
 rw[this,Option.map_map]
 rfl
theorem pJ (f:Text×Text→Bool) (g:B→Bool) (h:∀b∈l,f (key b.name,rec b)=g b):(pI rec l).filter f=pI rec (l.filter g):=by
 unfold pI
 rw[List.filter_map]
 congr 1
 exact List.filter_congr fun b hb=>h b hb
theorem Oh (hg:Good l) (b:B) (hb:(0:UInt8)∉b.name):put (pI rec l) (key b.name) (rec b)=pI rec (ins l b):=by
 unfold put ins
 rw[pJ _ (fun x=>lt x.name b.name) fun x hx=>Ll (hg.1 x hx) hb,pJ _ (fun x=>lt b.name x.name) fun x hx=>Ll hb (hg.1 x hx)]
 simp[pI]
theorem Oi (n:Text):del (pI rec l) (key n)=pI rec (drop l n):=by
 unfold del drop
 refine pJ _ _ fun b _=> ?_
 rw[jc,bne_iff_ne,bne_iff_ne]
 exact⟨fun h e=>h (by show key b.name=_;rw[e]),fun h e=>h (key_inj e)⟩
theorem Good.ins (hg:Good l) (b:B) (hb:(0:UInt8)∉b.name):Good (ins l b):=by
 refine⟨fun x hx=> ?_, ?_⟩
 ·rcases ah.1 hx with hx|hx
  ·exact hg.1 x (dy.1 hx).1
  ·rcases aQ.1 hx with rfl|hx
   ·exact hb
   ·exact hg.1 x (dy.1 hx).1
 ·refine List.pairwise_append.2 ⟨hg.2.sublist pE,cw.2 ⟨fun x hx=>(dy.1 hx).2,hg.2.sublist pE⟩,fun x hx y hy=> ?_⟩
  have h1:=(dy.1 hx).2
  rcases aQ.1 hy with rfl|hy
  ·exact h1
  ·exact Tr.lt_trans h1 (dy.1 hy).2
theorem Good.drop (hg:Good l) (n:Text):Good (drop l n):=⟨fun x hx=>hg.1 x (dy.1 hx).1,hg.2.sublist pE⟩
theorem lJ {b:B} (h:find l n=some b):b∈l∧b.name=n:=by
 unfold find at h
 exact⟨List.mem_of_find?_eq_some h,by simpa using List.find?_some h⟩
theorem Hw (h:find l n=none):∀b∈l,b.name≠n:=by
 unfold find at h
 intro b hb e
 have:=List.find?_eq_none.1 h b hb
 rw[e] at this
 simp at this
theorem Oj {b:B} (hg:Good l) (hb:b∈l):find l b.name=some b:=by
 cases h:find l b.name with
 |none=>exact absurd rfl (Hw h b hb)
 |some c=>
  obtain⟨hc,e⟩:=lJ h
  have hne:∀x∈l,∀y∈l,x.name=y.name→x=y:=by
   have hp:=hg.2
   clear hb hc h hg
   induction l with
   |nil=>intro x hx;cases hx
   |cons a t ih=>
    obtain⟨h1,h2⟩:=cw.1 hp
    intro x hx y hy e
    rcases aQ.1 hx with ea|hx'<;>rcases aQ.1 hy with eb|hy'
    ·rw[ea,eb]
    ·have:=h1 y hy';rw[←ea,e,Tr.lt_irrefl] at this;cases this
    ·have:=h1 x hx';rw[←eb,←e,Tr.lt_irrefl] at this;cases this
    ·exact ih h2 x hx' y hy' e
  rw[hne c hc b hb e]
theorem Hx {b:B} (hg:Good l) (h:(find l b.name).isSome=true):ins l b=upd l b.name fun _=>b:=by
 unfold ins upd
 have hp:=hg.2
 clear hg
 induction l with
 |nil=>cases h
 |cons a t ih=>
  obtain⟨h1,h2⟩:=cw.1 hp
  rw[cS,cS,bH]
  by_cases e:a.name=b.name
  ·rw[if_pos e,e,Tr.lt_irrefl]
   have ha:∀x∈t,lt b.name x.name=true:=fun x hx=>by rw[←e];exact h1 x hx
   rw[List.filter_eq_nil_iff.2 fun x hx=>by rw[Tr.lt_asymm (ha x hx)];decide,List.filter_eq_self.2 ha]
   rw[if_neg (by decide),if_neg (by decide),dF]
   congr 1
   refine (oN fun x hx=> ?_).trans (List.map_id t)|>.symm
   rw[if_neg fun e2=>by have:=ha x hx;rw[e2,Tr.lt_irrefl] at this;cases this]
   rfl
  ·have hf:(find t b.name).isSome=true:=by
    unfold find at h ⊢
    rw[List.find?_cons_of_neg (by simpa using e)] at h
    exact h
   have ih:=ih hf h2
   obtain⟨c,hc⟩:=Option.isSome_iff_exists.1 hf
   obtain⟨hc1,hc2⟩:=lJ hc
   have hlt:lt a.name b.name=true:=by rw[←hc2];exact h1 c hc1
   rw[if_neg e,hlt,if_pos rfl,Tr.lt_asymm hlt,if_neg (by decide),gD,ih]
theorem BZ {b:B}:find (ins l b) n=if n=b.name then some b else find l n:=by
 unfold ins find
 rw[List.find?_append,List.find?_cons]
 by_cases e:n=b.name
 ·subst e
  rw[if_pos rfl,beq_self_eq_true]
  rw[List.find?_eq_none.2 fun x hx=> ?_]
  ·rfl
  ·have:=(dy.1 hx).2
   simp only[beq_iff_eq]
   intro e2
   rw[e2,Tr.lt_irrefl] at this;cases this
 ·rw[if_neg e,show (b.name==n)=false by rw[beq_eq_false_iff_ne];exact fun h=>e h.symm]
  simp only
  have hfl:∀g:B→Bool,(∀x:B,x.name=n→g x=true)→(l.filter g).find? (fun x=>x.name==n)=l.find? fun x=>x.name==n:=fun g hg=>by
   rw[List.find?_filter]
   congr 1
   funext x
   by_cases e3:x.name=n
   ·rw[hg x e3,e3];simp
   ·simp[e3]
  have hno:∀g:B→Bool,(∀x:B,x.name=n→g x=false)→(l.filter g).find? (fun x=>x.name==n)=none:=fun g hg=>List.find?_eq_none.2 fun x hx=>by
   simp only[beq_iff_eq]
   intro e3
   have:=(dy.1 hx).2
   rw[hg x e3] at this;cases this
  cases h1:lt n b.name with
  |true=>
   rw[hfl _ fun x hx=>by rw[hx];exact h1,hno (fun x=>lt b.name x.name) fun x hx=>by rw[hx];exact Tr.lt_asymm h1]
   simp
  |false=>
   cases h2:lt b.name n with
   |true=>
    rw[hno (fun x=>lt x.name b.name) fun x hx=>by rw[hx];exact h1,hfl _ fun x hx=>by rw[hx];exact h2]
    simp
   |false=>exact absurd (Tr.kU _ _ h1 h2) e
theorem Hy (hn:n≠k):find (drop l k) n=find l n:=by
 unfold find drop
 rw[List.find?_filter]
 congr 1
 funext x
 by_cases e:x.name=n
 ·rw[e];simp[hn]
 ·simp[e]
theorem Lm {f:B→B} (hf:∀b,(f b).name=b.name):(upd l n f).map (·.name)=l.map (·.name):=by
 unfold upd
 rw[List.map_map]
 refine oN fun b _=> ?_
 show (if b.name=n then f b else b).name=b.name
 split
 ·exact hf b
 ·rfl
theorem Good.iff:Good l↔(∀x∈l.map (·.name),(0:UInt8)∉x)∧(l.map (·.name)).Pairwise fun a b=>lt a b=true:=by
 unfold Good
 rw[List.pairwise_map]
 simp
theorem Good.upd (hg:Good l) {f:B→B} (hf:∀b,(f b).name=b.name):Good (upd l n f):=by
 rw[Good.iff,Lm hf,←Good.iff];exact hg
theorem Hz {b:B} (hg:Good l) (h:find l n=some b) (f:B→B):upd l n f=upd l n fun _=>f b:=by
 unfold upd
 refine oN fun x hx=> ?_
 by_cases e:x.name=n
 ·rw[if_pos e,if_pos e]
  have:=Oj hg hx
  rw[e,h] at this
  injection this with this
  rw[this]
 ·rw[if_neg e,if_neg e]
theorem B1 {f:B→B} (hf:∀b,(f b).name=b.name) {k:Text}:find (upd l k f) n=if n=k then (find l n).map f else find l n:=by
 unfold find upd
 rw[List.find?_map]
 have hfn:((fun b:B=>b.name==n)∘fun b=>if b.name=k then f b else b)=fun b=>b.name==n:=by
  funext b
  show ((if b.name=k then f b else b).name==n)=_
  split
  ·rw[hf]
  ·rfl
 rw[hfn]
 by_cases e:n=k
 ·rw[if_pos e]
  cases h:l.find? fun b=>b.name==n with
  |none=>rfl
  |some b=>
   have:b.name=n:=by simpa using List.find?_some h
   simp[this,e]
 ·rw[if_neg e]
  cases h:l.find? fun b=>b.name==n with
  |none=>rfl
  |some b=>
   have:b.name=n:=by simpa using List.find?_some h
   simp[this,e]
def err (l:List B) (n:Text):Nat:=if Nm.bucket n=false then 28 else if (find l n).isNone then 20 else 0
def wrong (on:Bool) (pre:Text) (after:Nat):Bool:=decide (20<pre.length)||(!on&&(pre !=[]||after !=0))
def make (l:List B) (n:Text) (now:Nat):List B×Nat:=if Nm.bucket n=false then (l,28) else if (find l n).isSome then (l,21) else (ins l ⟨n,0,now,false,[],0⟩,0)
def setState (l:List B) (n:Text) (s:Int):List B×Nat:=if err l n≠0 then (l,err l n) else if s≠1∧s≠2 then (l,30) else (upd l n fun b=>{b with state:=s},0)
def ed (l:List B) (n:Text) (on:Bool) (pre:Text) (after:Nat):List B×Nat:=if err l n≠0 then (l,err l n) else if wrong on pre after then (l,30) else (upd l n fun b=>{b with on:=on,pre:=pre,after:=after},0)
def restore (l:List B) (b:B):List B×Nat:=if Nm.bucket b.name=false then (l,28) else if b.state<0∨2<b.state∨wrong b.on b.pre b.after=true then (l,30) else (ins l b,0)
def dropped (l:List B) (n:Text):List B×Nat:=if err l n≠0 then (l,err l n) else (drop l n,0)
def Fit (l:List B):Prop:=Good l∧∀b∈l,Nm.bucket b.name=true∧(0≤b.state∧b.state≤2)∧b.born<2^64∧wrong b.on b.pre b.after=false∧b.after<2^64
theorem lU {b x:B} (h:x∈ins l b):x=b∨x∈l:=by
 unfold ins at h
 rcases ah.1 h with h|h
 ·exact .inr (dy.1 h).1
 ·rcases aQ.1 h with h|h
  ·exact .inl h
  ·exact .inr (dy.1 h).1
theorem Fo {f:B→B} {x:B} (h:x∈upd l n f):(∃b∈l,b.name=n∧x=f b)∨x∈l:=by
 unfold upd at h
 obtain⟨b,hb,rfl⟩:=List.mem_map.1 h
 by_cases e:b.name=n
 ·rw[if_pos e];exact .inl ⟨b,hb,e,rfl⟩
 ·rw[if_neg e];exact .inr hb
theorem Fit.nil:Fit []:=⟨Good.nil,fun _ h=>absurd h List.not_mem_nil⟩
theorem Fit.make (h:Fit l) (n:Text) (now:Nat) (hn:now<2^64):Fit (make l n now).1:=by
 unfold Bk.make
 cases h1:Nm.bucket n with
 |false=>exact h
 |true=>
  rw[if_neg (by decide)]
  cases h2:(find l n).isSome with
  |true=>exact h
  |false=>
   rw[if_neg (by decide)]
   refine⟨h.1.ins _ (Nm.eV h1),fun x hx=> ?_⟩
   rcases lU hx with rfl|hx
   ·exact⟨h1,⟨by show (0:Int)≤0;decide,by show (0:Int)≤2;decide⟩,hn,rfl,by show 0<_;decide⟩
   ·exact h.2 x hx
theorem Fit.setState (h:Fit l) (n:Text) (s:Int):Fit (setState l n s).1:=by
 unfold Bk.setState
 split
 ·exact h
 ·split
  ·exact h
  ·next hs=>
   refine⟨h.1.upd fun _=>rfl,fun x hx=> ?_⟩
   rcases Fo hx with⟨b,hb,_,rfl⟩|hx
   ·have:=h.2 b hb
    exact⟨this.1,by show 0≤s∧s≤2;omega,this.2.2⟩
   ·exact h.2 x hx
theorem Fit.ed (h:Fit l) (n:Text) (on:Bool) (pre:Text) (after:Nat) (ha:after<2^64):Fit (ed l n on pre after).1:=by
 unfold Bk.ed
 split
 ·exact h
 ·cases hw:wrong on pre after with
  |true=>exact h
  |false=>
   rw[if_neg (by decide)]
   refine⟨h.1.upd fun _=>rfl,fun x hx=> ?_⟩
   rcases Fo hx with⟨b,hb,_,rfl⟩|hx
   ·have:=h.2 b hb
    exact⟨this.1,this.2.1,this.2.2.1,hw,ha⟩
   ·exact h.2 x hx
theorem Fit.restore (h:Fit l) (b:B) (hb:b.born<2^64) (ha:b.after<2^64):Fit (restore l b).1:=by
 unfold Bk.restore
 cases h1:Nm.bucket b.name with
 |false=>exact h
 |true=>
  rw[if_neg (by decide)]
  split
  ·exact h
  ·next hs=>
   have hw:wrong b.on b.pre b.after=false:=by
    cases hw:wrong b.on b.pre b.after with
    |false=>rfl
    |true=>exact absurd (.inr (.inr hw)) hs
   refine⟨h.1.ins _ (Nm.eV h1),fun x hx=> ?_⟩
   rcases lU hx with rfl|hx
   ·exact⟨h1,by omega,hb,hw,ha⟩
   ·exact h.2 x hx
theorem Fit.dropped (h:Fit l) (n:Text):Fit (dropped l n).1:=by
 unfold Bk.dropped
 split
 ·exact h
 ·exact⟨h.1.drop n,fun x hx=>h.2 x (dy.1 hx).1⟩
theorem H_ {on:Bool} {pre:Text} {after:Nat} (h:wrong on pre after=false):pre.length≤20:=by
 unfold wrong at h
 simp only[Bool.or_eq_false_iff,decide_eq_false_iff_not] at h
 omega
theorem jA (b:B):(ins l b).length≤l.length+1:=by
 unfold ins
 rw[aq,aW]
 have:∀t:List B,(t.filter fun x=>lt x.name b.name).length+(t.filter fun x=>lt b.name x.name).length≤t.length:=by
  intro t
  induction t with
  |nil=>simp
  |cons x t ih=>
   rw[cS,cS]
   cases e:lt x.name b.name with
   |true=>
    rw[Tr.lt_asymm e]
    simp only[if_true,jL,if_false,aW]
    omega
   |false=>
    cases e2:lt b.name x.name with
    |true=>simp only[if_true,jL,if_false,aW];omega
    |false=>simp only[jL,if_false,aW];omega
 have:=this l
 omega
theorem vO {f:B→B}:(upd l n f).length=l.length:=aM _
theorem drop_length:(drop l n).length≤l.length:=List.length_filter_le _ _
theorem D_ {k:Text} (h:k≠n) (now:Nat):find (make l k now).1 n=find l n:=by
 unfold Bk.make
 split
 ·rfl
 ·split
  ·rfl
  ·rw[BZ,if_neg];exact fun e=>h e.symm
theorem vP {k:Text} (h:k≠n) (s:Int):find (setState l k s).1 n=find l n:=by
 unfold Bk.setState
 split
 ·rfl
 ·split
  ·rfl
  ·exact (B1 (f:=fun b=>{b with state:=s}) fun _=>rfl).trans (if_neg fun e=>h e.symm)
theorem w_ {k:Text} (h:k≠n) (on:Bool) (pre:Text) (after:Nat):find (ed l k on pre after).1 n=find l n:=by
 unfold Bk.ed
 split
 ·rfl
 ·split
  ·rfl
  ·exact (B1 (f:=fun b=>{b with on:=on,pre:=pre,after:=after}) fun _=>rfl).trans (if_neg fun e=>h e.symm)
theorem xd {k:Text} (h:k≠n):find (dropped l k).1 n=find l n:=by
 unfold Bk.dropped
 split
 ·rfl
 ·rw[Hy fun e=>h e.symm]
theorem Fp {n:Text} (h:Nm.bucket n=true):(key n).length≤18:=by
 have:=Nm.pH h
 unfold key
 rw[aW,aq,eH]
 omega
end Bk
namespace Bk
structure One (b:B):Prop where
 name:Nm.bucket b.name=true
 low:0≤b.state
 high:b.state≤2
 born:b.born<2^64
 right:wrong b.on b.pre b.after=false
 after:b.after<2^64
theorem Fit.one {l:List B} (h:Fit l) {b:B} (hb:b∈l):One b:=⟨(h.2 b hb).1,(h.2 b hb).2.1.1,(h.2 b hb).2.1.2,(h.2 b hb).2.2.1,(h.2 b hb).2.2.2.1,(h.2 b hb).2.2.2.2⟩
def kinds:Text:=[98,110,98,110,116,114]
def mM (b:Bool):Nat:=if b then 1 else 0
def jY (b:B):List Pk.Fd:=[⟨b.state.toNat,[]⟩,⟨b.born,[]⟩,⟨mM b.on,[]⟩,⟨b.after,[]⟩,⟨0,b.pre⟩,⟨0,bg (20-b.pre.length) 0⟩]
def fV (b:B):Text:=(Pk.write kinds (jY b)).getD []
theorem QY {b:B} (h:One b):∀f∈jY b,f.n<2^64:=by
 have h1:=h.low
 have h2:=h.high
 have h3:=h.born
 have h4:=h.after
 have h5:mM b.on<2^64:=by unfold mM;split<;>decide
 intro f hf
 unfold jY at hf
 simp only[aQ,List.not_mem_nil,or_false] at hf
 rcases hf with rfl|rfl|rfl|rfl|rfl|rfl
 ·show b.state.toNat<2^64;omega
 ·exact h3
 ·exact h5
 ·exact h4
 ·show 0<2^64;decide
 ·show 0<2^64;decide
theorem zK {b:B} (h:One b):b.pre.length≤20:=H_ h.right
theorem QZ {b:B} (h:One b) (i:Nat) (hi:i<(jY b).length):(jY b)[i].s.length≤10000:=by
 have h1:=zK h
 have:∀f∈jY b,f.s.length≤10000:=by
  intro f hf
  unfold jY at hf
  simp only[aQ,List.not_mem_nil,or_false] at hf
  rcases hf with rfl|rfl|rfl|rfl|rfl|rfl
  ·simp
  ·simp
  ·simp
  ·simp
  ·show b.pre.length≤10000;omega
  ·show (bg (20-b.pre.length) (0:UInt8)).length≤10000
   rw[dM];omega
 exact this _ (bB hi)
theorem vQ {b:B} (h:One b):∃t,Pk.write kinds (jY b)=some t∧t.length=40:=by
 have h1:=h.low
 have h2:=h.high
 have h3:=h.born
 have h4:=h.after
 have h5:mM b.on<256:=by unfold mM;split<;>decide
 have h6:=zK h
 have e0:∀n,n<256→Pk.eN 98 ⟨n,[]⟩=some (Wl.enc 1 n):=fun n hn=>by
  have:Pk.width 98=1:=rfl
  unfold Pk.eN
  rw[this,if_pos (by decide),if_pos ⟨rfl,by simpa using hn⟩]
 have e1:∀n,n<2^64→Pk.eN 110 ⟨n,[]⟩=some (Wl.enc 8 n):=fun n hn=>by
  have:Pk.width 110=8:=rfl
  unfold Pk.eN
  rw[this,if_pos (by decide),if_pos ⟨rfl,by simpa using hn⟩]
 have e2:∀s:Text,s.length≤20→Pk.eN 116 ⟨0,s⟩=some (Wl.enc 2 s.length++s):=fun s hs=>by
  have:Pk.width 116=0:=rfl
  unfold Pk.eN
  rw[this,if_neg (by decide),if_neg (by simp),if_neg (by decide),if_neg (by show ¬65535<s.length;omega)]
 have e3:∀s:Text,Pk.eN 114 ⟨0,s⟩=some s:=fun s=>by
  have:Pk.width 114=0:=rfl
  unfold Pk.eN
  rw[this,if_neg (by decide),if_neg (by simp),if_pos rfl]
 refine⟨((((([]++Wl.enc 1 b.state.toNat)++Wl.enc 8 b.born)++Wl.enc 1 (mM b.on))++Wl.enc 8 b.after)++(Wl.enc 2 b.pre.length++b.pre))++bg (20-b.pre.length) 0, ?_, ?_⟩
 ·have hr:Pk.right kinds=true:=by decide
  unfold Pk.write
  rw[if_pos ⟨hr,rfl⟩]
  unfold kinds jY
  simp only[Pk.BW]
  rw[e0 _ (by omega)]
  simp only
  rw[e1 _ h3]
  simp only
  rw[e0 _ h5]
  simp only
  rw[e1 _ h4]
  simp only
  rw[e2 _ h6]
  simp only
  rw[e3]
 ·simp only[aq,Wl.cv,dM,List.length_nil]
  omega
theorem vR {b:B} (h:One b):Pk.write kinds (jY b)=some (fV b):=by
 obtain⟨t,ht,_⟩:=vQ h
 unfold fV
 rw[ht]
 rfl
theorem B2 {b:B} (h:One b):(fV b).length=40:=by
 obtain⟨t,ht,hl⟩:=vQ h
 unfold fV
 rw[ht]
 exact hl
theorem Ia {b:B} (h:One b):Pk.read kinds (fV b)=some (jY b):=Pk.D8 (vR h)
theorem Ol {b:B} (h:One b):Pk.cut ((key b.name).drop 1)=some (b.name,[]):=by
 have:=Pk.Lh b.name [] (Nm.eV h.name)
 rwa [bh] at this
theorem Lp {n:Text} (h:Nm.bucket n=true):Nm.under 98 [n]=key n:=Hv (Nm.eV h)
end Bk
section
open Go.RowKit Lib
def qM (on:Bool) (pre:List UInt8) (after:Nat):Value:=.agg #[.bool on,.string (bs pre),.int .u64 after]
def qV (b:Bk.B):Value:=.agg #[.string (bs b.name),.int .i64 b.state,.int .u64 b.born,.bool b.on,.string (bs b.pre),.int .u64 b.after]
theorem zL {fn:Func} {p u:Tmp} (h:fn.results=#[.cell p 46,.tmp u]) (tmps:Array Value) {w:World} {g:Nat} {v0 v1 v2 v3 v4 v5:Value}
  (hp:tmps.getD p undef=.pointer (some ⟨g,0,none⟩)) (hg:aS w g 46 [v0,v1,v2,v3,v4,v5]):
  (results fn tmps).run Tryz.prog w=.ok (.tuple #[.agg #[v0,v1,v2,v3,v4,v5],tmps.getD u undef]) w:=by
 rw[results_cell_tmp h,hp]
 simp[asAddr,run_loadVar_row w g _ 46 _ (0,0) _ hg Tryz.underlying46 rfl (by kernel_rfl),Result.andThen]
theorem Lr {w:World} {g:Nat} {t:TypeId} {a0 a1 a2 a3 a4 a5:Value} (h:aS w g t [a0,a1,a2,a3,a4,a5]) (v0 v1 v2 v3 v4 v5:Value):
  aS ((((((w.setCell ⟨g,0,none⟩ v0).setCell ⟨g,1,none⟩ v1).setCell ⟨g,2,none⟩ v2).setCell ⟨g,3,none⟩ v3).setCell ⟨g,4,none⟩ v4).setCell ⟨g,5,none⟩ v5) g t [v0,v1,v2,v3,v4,v5]∧
  aE (fun k=>k=g) w ((((((w.setCell ⟨g,0,none⟩ v0).setCell ⟨g,1,none⟩ v1).setCell ⟨g,2,none⟩ v2).setCell ⟨g,3,none⟩ v3).setCell ⟨g,4,none⟩ v4).setCell ⟨g,5,none⟩ v5):=by
 have c:∀(X:World) (j:Nat) (v:Value),aE (fun k=>k=g) w X→aE (fun k=>k=g) w (X.setCell ⟨g,j,none⟩ v):=fun X j v hX=>hX.setCell _ _ fun _=>rfl
 exact⟨(((((h.set 0 v0).set 1 v1).set 2 v2).set 3 v3).set 4 v4).set 5 v5,c _ _ _ (c _ _ _ (c _ _ _ (c _ _ _ (c _ _ _ (c _ _ _ (aE.refl _ w))))))⟩
theorem vS (on:Bool) (pre:List UInt8) (after:Nat) (w:World):Calls Tryz.prog 35 #[qM on pre after] w fun e w'=>e=.returned (.bool (!Bk.wrong on pre after))∧Below w.heap.size w w':=by
 have hs:=aK pre
 unfold qM
 cases on with
 |true=>
  have hV:(!Bk.wrong true pre after)=decide (((bs pre).size:Int)≤20):=by
   unfold Bk.wrong
   rw[hs]
   by_cases h:20<pre.length
   ·rw[decide_eq_true h,decide_eq_false (by omega:¬(pre.length:Int)≤20)];rfl
   ·rw[decide_eq_false h,decide_eq_true (by omega:(pre.length:Int)≤20)];rfl
  rw[hV]
  clear hV
  generalize bs pre=P at*
  clear hs
  go_enter Tryz.func35,Tryz.ntmps35
  go_wp2
  go_ret
  exact⟨rfl,(Below.refl _ w).alloc (af _) _⟩
 |false=>
  have hV:(!Bk.wrong false pre after)=(pre.isEmpty&&decide (after=0)):=by
   unfold Bk.wrong
   cases pre with
   |nil=>by_cases h:after=0<;>simp[h]
   |cons c t=>simp
  rw[hV]
  clear hV
  go_enter Tryz.func35,Tryz.ntmps35
  go_wp2
  all_goals go_ret
  all_goals simp_all[bE]
  all_goals exact (Below.refl _ w).alloc (af _) _
theorem qN (b:Bk.B) (w:World):Calls Tryz.prog 37 #[qV b] w fun e w'=>e=.returned (.bool (decide (0≤b.state)&&decide (b.state≤2)&& !Bk.wrong b.on b.pre b.after))∧Below w.heap.size w w':=by
 have HR:=aa (fun W=>vS b.on b.pre b.after W)
 unfold qM at HR
 unfold qV
 generalize Bk.wrong b.on b.pre b.after=V at*
 generalize bs b.name=P1 at*
 generalize bs b.pre=P2 at*
 generalize b.on=on at*
 generalize b.state=s at*
 by_cases h0:0≤s∧s≤2
 ·have hV:(decide (0≤s)&&decide (s≤2)&& !V)= !V:=by rw[decide_eq_true h0.1,decide_eq_true h0.2];rfl
  rw[hV]
  have h1:s=0∨s=1∨s=2:=by omega
  clear hV h0
  rcases h1 with rfl|rfl|rfl
  all_goals
   go_enter Tryz.func37,Tryz.ntmps37
   go_wp2_with fail
   refine (HR.o _).mono ?_
   rintro e w1 ⟨rfl,bF⟩
   go_wp2
   go_ret
   exact⟨rfl,((Below.refl _ w).alloc (af _) _).trans (bF.mono (by rw[bk];omega))⟩
 ·have hV:(decide (0≤s)&&decide (s≤2)&& !V)=false:=by
   by_cases h1:0≤s
   ·rw[decide_eq_false (by omega:¬s≤2)];simp
   ·rw[decide_eq_false h1];rfl
  rw[hV]
  have h1:(s==0)=false:=by rw[beq_eq_false_iff_ne];omega
  have h2:(s==1)=false:=by rw[beq_eq_false_iff_ne];omega
  have h3:(s==2)=false:=by rw[beq_eq_false_iff_ne];omega
  clear hV h0
  go_enter Tryz.func37,Tryz.ntmps37
  go_wp2
  go_ret
  exact⟨rfl,(Below.refl _ w).alloc (af _) _⟩
namespace Pk
theorem zM (c:UInt8):(c=110∧(c.toNat:Int)=110∧width c=8∧∀b,letter c b=true)∨(c=104∧(c.toNat:Int)=104∧width c=4∧∀b,letter c b=true)∨(c=98∧(c.toNat:Int)=98∧width c=1∧∀b,letter c b=true)∨
  (c=116∧(c.toNat:Int)=116∧width c=0∧∀b,letter c b=true)∨(c=114∧(c.toNat:Int)=114∧width c=0∧∀b,letter c b=b)∨
  (((c.toNat:Int)≠110∧(c.toNat:Int)≠104∧(c.toNat:Int)≠98∧(c.toNat:Int)≠116∧(c.toNat:Int)≠114)∧width c=0∧∀b,letter c b=false):=by
 by_cases h1:c=110
 ·subst h1;exact .inl ⟨rfl,rfl,rfl,fun b=>by cases b<;>rfl⟩
 by_cases h2:c=104
 ·subst h2;exact .inr (.inl ⟨rfl,rfl,rfl,fun b=>by cases b<;>rfl⟩)
 by_cases h3:c=98
 ·subst h3;exact .inr (.inr (.inl ⟨rfl,rfl,rfl,fun b=>by cases b<;>rfl⟩))
 by_cases h4:c=116
 ·subst h4;exact .inr (.inr (.inr (.inl ⟨rfl,rfl,rfl,fun b=>by cases b<;>rfl⟩)))
 by_cases h5:c=114
 ·subst h5;exact .inr (.inr (.inr (.inr (.inl ⟨rfl,rfl,rfl,fun b=>by cases b<;>rfl⟩))))
 have hne:∀d:UInt8,¬c=d→(c.toNat:Int)≠(d.toNat:Int):=fun d h e=>h (UInt8.toNat.inj (by omega))
 have hw:width c=0:=by unfold width;rw[if_neg h1,if_neg h2,if_neg h3]
 exact .inr (.inr (.inr (.inr (.inr ⟨⟨hne 110 h1,hne 104 h2,hne 98 h3,hne 116 h4,hne 114 h5⟩,hw,fun b=>by unfold letter;simp[hw,h4,h5]⟩))))
theorem Ea (l:Text) (k:Nat) (h:k<l.length):right (l.drop k)=(letter l[k] (decide (k+1=l.length))&&right (l.drop (k+1))):=by
 rw[cm h,right]
 congr 2
 rw[jc,List.isEmpty_iff,decide_eq_true_eq,List.drop_eq_nil_iff]
 omega
theorem B3 (s:ByteArray) (k:Nat) (h:k<s.size):right (s.data.toList.drop k)=(letter s[k] (decide (k+1=s.size))&&right (s.data.toList.drop (k+1))):=Ea s.data.toList k h
end Pk
theorem mB (c:UInt8) (w:World):Calls Tryz.prog 128 #[.int .u8 c.toNat] w fun e w'=>e=.returned (.int .i64 (Pk.width c:Nat))∧w'=w:=by
 rcases Pk.zM c with⟨_,h,hw,_⟩|⟨_,h,hw,_⟩|⟨_,h,hw,_⟩|⟨_,h,hw,_⟩|⟨_,h,hw,_⟩|⟨⟨h1,h2,h3,_,_⟩,hw,_⟩<;>rw[hw]<;>clear hw<;>(try rw[h])<;>
 ·generalize (c.toNat:Int)=x at*
  go_enter Tryz.func128,Tryz.ntmps128
  go_wp2
  go_ret
  exact⟨rfl,rfl⟩
theorem nV (s:ByteArray) (w:World) (hs:s.size≤1000):Calls Tryz.prog 85 #[.string s] w fun e w'=>e=.returned (.bool (Pk.right s.data.toList))∧w'=w:=by
 have xk:(s.size:Int)≤1000:=by omega
 go_enter Tryz.func85,Tryz.ntmps85
 go_wp2
 go_loop [3] (fun i=>∃k:Nat,k≤s.size∧i=.int .i64 k∧Hid (Pk.right s.data.toList=Pk.right (s.data.toList.drop k))) (fun i=>s.size-(RowKit.intOf i).toNat)
 case atStart=>exact⟨0,aC _,rfl,aa rfl⟩
 case round=>
  obtain⟨k,hk,rfl,HR⟩:=hrel
  by_cases hlt:k<s.size
  ·have HS:=aa (HR.o.trans (Pk.B3 s k hlt))
   clear HR
   have kX:(k:Int)<s.size:=by omega
   have hk1:(k:Int)≤1000:=by omega
   rcases Pk.zM s[k] with⟨_,h,_,hw⟩|⟨_,h,_,hw⟩|⟨_,h,_,hw⟩|⟨_,h,_,hw⟩|⟨_,h,_,hw⟩|⟨⟨h1,h2,h3,h4,h5⟩,_,hw⟩
   iterate 4
    ·rw[hw] at HS
     clear hw
     go_wp2
     go_round
     case rel=>exact⟨k+1,by omega,by go_num,aa (by rw[HS.o];rfl)⟩
     case measure=>simp[RowKit.intOf];omega
   ·rw[hw] at HS
    clear hw
    by_cases hend:k+1=s.size
    ·have hE:((k:Int)==(s.size:Int)-1)=true:=by rw[beq_iff_eq];omega
     go_wp2
     go_round
     case rel=>exact⟨k+1,by omega,by go_num,aa (by rw[HS.o,decide_eq_true hend];rfl)⟩
     case measure=>simp[RowKit.intOf];omega
    ·have hE:((k:Int)==(s.size:Int)-1)=false:=by rw[beq_eq_false_iff_ne];omega
     go_wp2
     go_ret
     exact⟨by rw[HS.o,decide_eq_false hend];rfl,rfl⟩
   ·rw[hw] at HS
    clear hw
    go_wp2
    go_ret
    exact⟨by rw[HS.o];rfl,rfl⟩
  ·have yB:k=s.size:=by omega
   subst yB
   go_wp2
   go_ret
   refine⟨?_,rfl⟩
   rw[HR.o,pK (by rw[aZ];exact af _)]
   rfl
theorem r4 (s:ByteArray) (n:Nat) (w:World) (hs:s.size≤1000000) (hn:n≤1000000):
  Calls Tryz.prog 126 #[.string s,.int .i64 n] w fun e w'=>e=.returned (.tuple (if s.size<n then #[.string ⟨#[]⟩,.string ⟨#[]⟩,.bool false] else #[.string (bs (s.data.toList.take n)),.string (bs (s.data.toList.drop n)),.bool true]))∧Below w.heap.size w w':=by
 have xk:(s.size:Int)≤1000000:=by omega
 have OB:(n:Int)≤1000000:=by omega
 have e1:=jz s n
 have e2:s.extract n s.size=bs (s.data.toList.drop n):=by
  apply ByteArray.ext;apply Array.ext';rw[kP];rfl
 by_cases h:s.size<n
 ·have hI:(s.size:Int)<n:=by omega
  rw[if_pos h]
  go_enter Tryz.func126,Tryz.ntmps126
  go_wp2
  go_ret3
  exact⟨rfl,Below.refl _ _⟩
 ·have hI:¬(s.size:Int)<n:=by omega
  have LR:(n:Int)≤s.size:=by omega
  rw[if_neg h]
  rw[←e1,←e2]
  clear e1 e2
  go_enter Tryz.func126,Tryz.ntmps126
  go_wp2_with fail
  go_region
  go_wp2
  go_ret3
  exact⟨rfl,by first|exact Below.refl _ _|exact ep w 1⟩
theorem kL (s:ByteArray) (w:World) (hs:s.size≤8):
  Calls Tryz.prog 127 #[.string s] w fun e w'=>e=.returned (.int .u64 (Wl.dec s.data.toList:Nat))∧w'=w:=by
 have xk:(s.size:Int)≤8:=by omega
 go_enter Tryz.func127,Tryz.ntmps127
 go_wp2
 go_loop [3,4] (fun n i=>∃k:Nat,k≤s.size∧i=.int .i64 k∧n=.int .u64 (Wl.dec (s.data.toList.take k):Nat)) (fun _ i=>s.size-(RowKit.intOf i).toNat)
 case atStart=>exact⟨0,aC _,rfl,rfl⟩
 case round=>
  obtain⟨k,hk,rfl,rfl⟩:=hrel
  by_cases hlt:k<s.size
  ·have hb:=s[k].toNat_lt
   have hd:Wl.dec (s.data.toList.take k)<2^56:=by
    have h1:=Wl.mR (s.data.toList.take k)
    have h2:(s.data.toList.take k).length=k:=by rw[aN,aZ];exact b_ hk
    rw[h2] at h1
    have h3:256^k≤256^7:=Nat.pow_le_pow_right (by decide) (by omega)
    have h4:(256:Nat)^7=2^56:=by decide
    omega
   have HS:=aa (show Wl.dec (s.data.toList.take (k+1))=Wl.dec (s.data.toList.take k)*256+s[k].toNat by rw[kT s k hlt,Wl.lT])
   have HO:=aa (EA _ _ hd hb)
   generalize Wl.dec (s.data.toList.take k)=a at*
   have MZ:(a:Int)<72057594037927936:=by omega
   have ha0:(0:Int)≤a:=by omega
   clear hd
   go_wp2
   go_round
   case rel=>exact⟨k+1,by omega,by go_num,by rw[HO.o,HS.o]⟩
   case measure=>simp[RowKit.intOf];omega
  ·have yB:k=s.size:=by omega
   subst yB
   go_wp2
   go_ret
   refine⟨?_,rfl⟩
   rw[bZ (by rw[aZ];exact af _)]
   rfl
theorem Ls (w:World):(convert 94 9 (.slice none 0 0)).run Tryz.prog w=.ok (.string (bs [])) w:=by kernel_rfl
theorem gi.back {B:Nat} {w:World} {v:Value} {l:List UInt8} (h:gi B w v l):(convert 94 9 v).run Tryz.prog w=.ok (.string (bs l)) w:=by
 rcases h.2 with⟨rfl,h0⟩|⟨g,cap,cur,rfl,_⟩
 ·have:l=[]:=List.eq_nil_of_length_eq_zero h0
  subst this
  exact Ls w
 ·exact (eO.Sg h).back
theorem ku (B:Nat) (w:World) (v:Value) (l:List UInt8) (n width:Nat) (hown:gi B w v l) (hB:B≤w.heap.size) (hl:l.length≤800000000) (hn:n<2^64) (hw:width≤8):
  Calls Tryz.prog 156 #[v,.int .u64 n,.int .i64 width] w fun e w'=>∃v',e=.returned v'∧gi B w' v' (l++Wl.enc width n)∧aE (fun k=>v.ownBlock=some k) w w'∧(v'.ownBlock=v.ownBlock∨∀k,v'.ownBlock=some k→w.heap.size≤k):=by
 have Wn:(width:Int)≤8:=by omega
 have HO:=aa hown
 have HB:=aa hB
 have HN:=aa hn
 clear hown hB hn
 go_enter Tryz.func156,Tryz.ntmps156
 go_wp2
 go_loopw [0,7] (fun u i wr=>∃j:Nat,j≤width∧i=.int .i64 ((width:Int)-1-j)∧Hid (gi B wr u (l++Wl.enc j (n/256^(width-j))))∧Hid (aE (fun k=>v.ownBlock=some k) w wr)∧Hid (u.ownBlock=v.ownBlock∨∀k,u.ownBlock=some k→w.heap.size≤k)) (fun _ i _=>((RowKit.intOf i)+1).toNat)
 case atStart=>
  refine⟨0,aC _,by simp,aa ?_,aa (aE.refl _ _),aa (.inl rfl)⟩
  rw[Wl.enc,bh];exact HO.o
 case round=>
  obtain⟨j,hj,rfl,ho,hb,Px⟩:=hrel
  by_cases hlt:j<width
  ·obtain⟨k,hk⟩:∃k:Nat,(width:Int)-1-j=k:=⟨width-1-j,by omega⟩
   have hk7:(k:Int)≤7:=by omega
   have oh:(0:Int)≤k:=by omega
   have HK:=aa (show k=width-(j+1) by omega)
   have HJ:=aa (And.intro hlt hj)
   rw[hk]
   have Sh:=aa hk
   clear hk hlt hj Wn
   have Si:=aa (q8 n k)
   go_wp2_with (at_builtin;refine Hid.o ?_)
   refine aa ?_
   rw[Si.o]
   refine eS I_ rfl _ _ rfl rfl (ho.o.alloc _) (by have:=HB.o;have:=hb.o.size;simp;omega) wr.heap.size 0 1 1 [aY (n/256^k)] rfl rfl (a_.gh (aS.new wr #[.int .u8 ((aY (n/256^k)).toNat:Int)] 5) rfl) (by rw[aq,Wl.cv];have:=HJ.o;omega) ?_
   intro v' w4 fW j6 wB
   have HR:=aa (show gi B w4 v' (l++Wl.enc (j+1) (n/256^(width-(j+1))))∧aE (fun k=>v.ownBlock=some k) w w4∧(v'.ownBlock=v.ownBlock∨∀k,v'.ownBlock=some k→w.heap.size≤k) by
    have hsz:=hb.o.size
    refine⟨?_, ?_, ?_⟩
    ·rw[Ao width j n HJ.o.1,←aB,←HK.o];exact fW
    ·refine (hb.o.alloc _).trans (aE.pV j6) fun i hi e=> ?_
     rcases Px.o with h|h
     ·rw[←h];exact e
     ·have:=h i e;omega
    ·rcases wB with h|h
     ·rw[h];exact Px.o
     ·exact .inr fun k hk=>by have:=h k hk;simp at this;omega)
   clear fW j6 wB
   go_wp2
   go_roundw
   case rel=>exact⟨j+1,HJ.o.1,congrArg (Value.int .i64) (by have:=Sh.o;omega),aa HR.o.1,aa HR.o.2.1,aa HR.o.2.2⟩
   case measure=>have:=Sh.o;simp[RowKit.intOf]<;>omega
  ·have Wo:j=width:=by omega
   subst Wo
   have hneg:(j:Int)-1-j=-1:=by omega
   rw[hneg]
   go_wp2
   go_ret
   refine⟨_,rfl, ?_,hb.o,Px.o⟩
   have:=ho.o
   rwa [Nat.sub_self,Nat.pow_zero,Nat.div_one] at this
theorem zN (s:ByteArray) (w:World) (hlim:s.size≤1000000):
  Calls Tryz.prog 83 #[.string s] w fun e w'=>e=.returned (.string s)∧Below w.heap.size w w':=by
 by_cases h0:s.size=0
 ·have hs:s=⟨#[]⟩:=by
   apply ByteArray.ext
   exact Array.eq_empty_of_size_eq_zero h0
  subst hs
  go_enter Tryz.func83,Tryz.ntmps83
  go_wp2
  go_ret
  exact⟨rfl,Below.refl _ _⟩
 ·have hinfo:(Tryz.prog.info? 5).map (·.size)=some 1:=by kernel_rfl
  have Va:Tryz.prog.cellsOf 5=1:=by kernel_rfl
  obtain⟨M,hM⟩:∃M,M=(bg s.size (Value.int .u8 0)).toArray:=⟨_,rfl⟩
  have hMs:M.size=s.size:=by rw[hM];simp
  have hmk:=fun W:World=>tM W s.size hlim
  rw[←hM] at hmk
  clear hM
  have IB:=Lib.run_copy_row_string (P:=Tryz.prog) (w.alloc (.cells M 5)) 94 9 3 5 w.heap.size 0 s.size s.size s M 5 Tryz.underlying94 hinfo (heap_alloc_new w _) (af _) (by omega)
  obtain⟨Y,hY⟩:∃Y,Y=(M.toList.take 0++Lib.byteCells s.data.toList++M.toList.drop (0+s.size)).toArray:=⟨_,rfl⟩
  rw[←hY] at IB
  have OL:Y.toList=Lib.byteCells s.data.toList:=by
   rw[hY,List.toList_toArray,List.take_zero,dF,pK (by rw[aZ];omega),bh]
  have hYs:Y.size=s.size:=by rw[←aZ,OL,Lib.byteCells_length,←Lib.size_eq]
  have SN:((w.alloc (.cells M 5)).setRow w.heap.size Y).heap[w.heap.size]?=some (.cells Y 5 (0,0)):=setRow_heap _ _ M _ 5 (0,0) (heap_alloc_new w _)
  have hne:s.data.toList≠[]:=fun e=>h0 (by rw[Lib.size_eq,e];rfl)
  have WE:=Lib.run_unsafeString_row (P:=Tryz.prog) ((w.alloc (.cells M 5)).setRow w.heap.size Y) 207 3 9 5 Tryz.underlying207 Va w.heap.size Y.size (by unfold World.shape?;rw[SN]) s.data.toList hne (by rw[←Lib.size_eq];omega) (by rw[←Lib.size_eq];omega)
   (fun j x hx=>Lib.cells_of_row SN Y.size j _ (by rw[bZ (by rw[aZ];exact af _),OL];simp[Lib.byteCells,hx]))
  rw[←Lib.size_eq] at WE
  clear hY
  go_enter Tryz.func83,Tryz.ntmps83
  go_wp2
  go_ret
  have bF:Below w.heap.size w (w.alloc (.cells M 5)):=(Below.refl _ w).alloc (af _) _
  have aP:Below w.heap.size (w.alloc (.cells M 5)) ((w.alloc (.cells M 5)).setRow w.heap.size Y):=⟨rfl,rfl,rfl,by simp,fun k hk=>setRow_other _ _ _ _ (by omega)⟩
  exact⟨rfl,Lib.below_freeze (bF.trans aP) (p:=⟨w.heap.size,0,none⟩) (af _) _⟩
theorem mC (s:ByteArray) (w:World) (hlim:s.size≤1000000):
  Calls Tryz.prog 53 #[.string s] w fun e w'=>e=.returned (.string s)∧Below w.heap.size w w':=by
 go_enter Tryz.func53,Tryz.ntmps53
 go_wp2_with fail
 refine (zN s w hlim).mono ?_
 rintro e w1 ⟨rfl,hb⟩
 have HB:=aa hb
 clear hb
 go_wp2
 go_ret
 exact⟨rfl,HB.o⟩
end
end Go.Proofs.YtebbahjombdalaaGreatDoor
