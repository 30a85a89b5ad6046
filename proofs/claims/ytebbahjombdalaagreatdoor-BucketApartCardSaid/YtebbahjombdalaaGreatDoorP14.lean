/- Elder texts, cut down and merged (14). -/
import Derived.Test.YtebbahjombdalaaGreatDoorP13
import Derived.Test.YtebbahjombdalaaGreatDoorP8
import Derived.Test.YtebbahjombdalaaGreatDoorP4
import Derived.Test.YtebbahjombdalaaGreatDoorP9
import Derived.Test.YtebbahjombdalaaGreatDoorP12
import Derived.Test.YtebbahjombdalaaGreatDoorP5
import Derived.Test.YtebbahjombdalaaGreatDoorP7
import Derived.Test.YtebbahjombdalaaGreatDoorP10
import Derived.Test.YtebbahjombdalaaGreatDoorPTk
set_option maxRecDepth 100000
set_option maxHeartbeats 8000000
namespace Go.Proofs.YtebbahjombdalaaGreatDoor
open List renaming mem_cons_of_mem→aF,mem_cons_self→aA,nodup_cons→cD,mem_append→ah,nodup_append→aL,length_append→aq,length_cons→aW,mem_cons→aQ,append_assoc→aB,length_eq_zero_iff→ef,length_map→aM,map_append→bI,setIfInBounds_toArray→az,set_cons_succ→ay,set_cons_zero→au,map_cons→bH,sum_cons→jJ,filter_cons→cS,length_set→bP,length_pos_iff→ej
open World renaming size_alloc→bk,block_lt_of_cell?→bt,drew→bD
open Nat renaming le_refl→af,zero_le→aC,le_trans→aG,succ_ne_zero→cT,lt_or_ge→dw
section
open Go.RowKit Lib
section
variable {E:Ev} {X0 X X' V:World} {R0 R R':Nat→Prop} {ps:List (Nat×List UInt8)} {pg:List (Option Wl.Text)} {rt:List Nat} {M M':Nat→Option NV} {k q sb K:Nat} {sv:Value} {l0:List Int} {lo hi:List UInt8} {c0 c:Tr.E (k+1)} {T:Tr.E (K+1)} {path:List Nat} {pre post tgt:List (Tr.Tx×Tr.Tx)} {out F sp:List Nat} {d:Nat}
structure Zip (E:Ev) (X0:World) (R0 R:Nat→Prop) (ps:List (Nat×List UInt8)) (pg:List (Option Wl.Text)) (rt:List Nat) (M:Nat→Option NV) (X:World) (sb:Nat) (sv:Value) (k q:Nat) (lo hi:List UInt8) (c0 c:Tr.E (k+1)) (K:Nat) (T:Tr.E (K+1)) (path:List Nat) (pre post tgt:List (Tr.Tx×Tr.Tx)) (out F sp:List Nat) (d:Nat):Prop where
 ss:SS E X0 R0 R ps pg rt M X sb sv (gy sp)
 above:ia M pg k q lo hi c0 K T path pre post out
 xQ:dx M pg k q c F
 kI:∃m,M q=some m∧m.was=Tr.sz k (Tr.its c0)∧m.lo=lo∧m.hi=hi
 near:Tr.ig k lo (iV hi) c
 page:(Tr.hd c).page=(Tr.hd c0).page
 old:path≠[]→Tr.Old (k+1) c
 nd:(path++F).Nodup
 ct:pre++Tr.ct k (Tr.its c)++post=tgt
 b8:(out++Tr.b8 (k+1) c++sp).Perm (Tr.b8 (K+1) T)
 eT:Tr.eT (k+1) c≤d+k
 few:(Tr.b8 (K+1) T).length≤40000
 wO:K≤15
 quiet:d=0→Tr.eT (k+1) c=0∧Tr.sz k (Tr.its c)≤510
theorem py {pg:List (Option Wl.Text)}:∀{k:Nat} {n:Tr.E (k+1)},cK pg (k+1) n→Tr.eT (k+1) n=0
 |0,n,h=>by
  obtain⟨⟨page,hp,_⟩,_,_⟩:=h
  rw[Tr.bR,hp]
  have:∀l:List (Tr.Tx×Tr.E 0),Tr.jP 0 l=0:=by
   intro l
   induction l with
   |nil=>rfl
   |cons x l ih=>rw[Tr.ew,ih];rfl
  rw[this];rfl
 |k+1,n,h=>by
  obtain⟨⟨page,hp,_⟩,_,hk⟩:=h
  rw[Tr.bR,hp]
  have:∀l:List (Tr.Tx×Tr.E (k+1)),(∀p∈l,cK pg (k+1) p.2)→Tr.jP (k+1) l=0:=by
   intro l
   induction l with
   |nil=>intro _;rfl
   |cons x l ih=>intro hl;rw[Tr.ew,ih (fun p hp=>hl p (aF _ hp)),py (hl x aA)]
  rw[this _ hk];rfl
theorem mA {l:List (Tr.Tx×Tr.E (k+1))} (h:∀p∈l,cK pg (k+1) p.2):Tr.jP (k+1) l=0:=by
 induction l with
 |nil=>rfl
 |cons x l ih=>rw[Tr.ew,ih (fun p hp=>h p (aF _ hp)),py (h x aA)]
theorem Kr {p:Nat} (z:Zip E X0 R0 R ps pg rt M X sb sv k q lo hi c0 c K T (p::path) pre post tgt out F sp d):
  Calls Tryz.prog 87 #[ptr sb,ptr p,ptr q] X fun e X'=>e=.returned (.int .i64 0)∧∃R' M' eC lo' hi' c0' c' pre' post' out' F' sp',Zip E X0 R0 R' ps pg rt M' X' sb eC (k+1) p lo' hi' c0' c' K T path pre' post' tgt out' F' sp' d∧lQ R M X sb sv R' M' eC X'∧(Tr.hd c').page.isSome=true:=by
 obtain⟨ss,above,xQ,⟨m,kI,was,-,-⟩,near,page,old,nd,qB,vu,Ny,few,wO,quiet⟩:=z
 have oS:=above.level
 generalize VF:p::path=pp at above
 cases above with
 |top=>cases VF
 |@up _ p' _ n h A B kc _ _ _ ps' pre post out hat fA jI hown mI hidx Kq hfit hfresh hu=>
  obtain⟨rfl,rfl⟩:=List.cons.inj VF
  have hnd:=cD.1 nd
  have XX:(p::F).Nodup:=cD.2 ⟨fun hm=>hnd.1 (ah.2 (.inr hm)),(aL.1 hnd.2).2.1⟩
  have ho:=old (by simp)
  have s:Slot pg M k p q n m h A B kc c0 c F:=⟨hat,fA,jI,hown,mI,hidx,xQ,kI,near,page,ho,was,hfit,hfresh,XX⟩
  have hsp:sp.length≤40000:=by
   have:=vu.length_eq
   rw[aq] at this
   omega
  rw[aW] at oS
  refine (sX (l0:=[]) s ss (by omega) (by rw[List.length_nil];omega)).mono ?_
  rintro e X' ⟨rfl,R',M',eC,n',t',F',sp',hss,hst,XY,⟨h1,h2,h3,h4⟩,Kf,cy,ow,nr,hnew,hsame⟩
  refine⟨rfl,R',M',eC,n.lo,n.hi,Tr.mk h (A++(kc,c0)::B),t',_,_,_,F',sp',⟨hss,hu.frame fun r hr=> ?_,Kf,⟨n',XY,by rw[h3];exact Kq,h1,h2⟩,⟨?_,ow.row⟩,cy,fun hne=>⟨?_,fun x hx=> ?_⟩, ?_, ?_, ?_, ?_,few,wO,fun hd=> ?_⟩,hst, ?_⟩
  ·obtain⟨y,hy⟩:=hu.dom r hr
   rw[hy]
   refine hsame r y (fun hm=> ?_) hy
   rcases aQ.1 hm with rfl|hm
   ·grind
   ·grind
  ·have hz:=ow.size
   have hb:=zy k kc c
   rw[zu (c0:=c0)] at hz
   omega
  ·obtain⟨cP,e,_⟩:=mI.held hfresh
   rw[cy]
   have e:h.page=some cP:=e
   rw[e];rfl
  ·refine ow.old (fun y hy=> ?_) x hx
   rcases ah.1 hy with hy|hy
   ·grind [jH]
   ·grind [jH]
  ·refine aL.2 ⟨(aL.1 hnd.2).1,nr,fun r hr r' hr' e=> ?_⟩
   subst e
   rcases hnew r hr' with hm|hm
   ·grind
   ·obtain⟨y,hy⟩:=hu.dom r hr
    have:=(ss.ts.mem.lt hy).1
    omega
  ·rw[ow.ct,←qB,Tr.bJ,show (kc,c)::B=[(kc,c)]++B from rfl,Tr.bJ,Tr.dK]
   simp only[aB]
  ·refine List.Perm.trans ?_ vu
   have e1:Tr.b8 (k+1+1) t'=h.page.toList++Tr.dI (k+1) (Tr.its t'):=by rw[Tr.bp,cy]
   rw[e1]
   have e2:=ow.b8
   rw[Tr.bK,Tr.fI] at e2
   rw[List.perm_iff_count] at e2 ⊢
   intro a
   have e3:=e2 a
   simp only[List.count_append] at e3 ⊢
   have e4:List.count a (Tr.b8 (k+1) (kc,c).2)=List.count a (Tr.b8 (k+1) c):=rfl
   omega
  ·have e1:=ow.eT
   rw[Tr.cz,Tr.ew,mA (fun x hx=>jI x (.inl hx)),mA (fun x hx=>jI x (.inr hx))] at e1
   have hb:=zy k kc c
   have hp':(Tr.hd t').page.isSome=true:=by
    obtain⟨cP,e,_⟩:=mI.held hfresh
    rw[cy]
    have e:h.page=some cP:=e
    rw[e];rfl
   rw[Tr.bR,if_pos hp']
   have e4:Tr.eT (k+1) (kc,c).2=Tr.eT (k+1) c:=rfl
   omega
  ·obtain⟨q1,q2⟩:=quiet hd
   have hb0:Tr.big k [(kc,c)]=0:=by
    unfold Tr.big
    rw[if_pos q2]
    rfl
   have hz:=ow.size
   rw[zu (c0:=c0),hb0] at hz
   have e1:=ow.eT
   rw[Tr.cz,Tr.ew,mA (fun x hx=>jI x (.inl hx)),mA (fun x hx=>jI x (.inr hx)),hb0] at e1
   have hp':(Tr.hd t').page.isSome=true:=by
    obtain⟨cP,e,_⟩:=mI.held hfresh
    rw[cy]
    have e:h.page=some cP:=e
    rw[e];rfl
   rw[Tr.bR,if_pos hp']
   have e4:Tr.eT (k+1) (kc,c).2=Tr.eT (k+1) c:=rfl
   exact⟨by omega,by omega⟩
  ·obtain⟨cP,e,_⟩:=mI.held hfresh
   rw[cy]
   have e:h.page=some cP:=e
   rw[e];rfl
end
section
variable {w:World} {p sb tb:Nat} {n:NV} {sv:Value} {l:List Int}
def Qr (w:World) (sb tb:Nat) (sv:Value) (l:List Int) (e:Ending) (w':World):Prop:=e=.returned (.tuple #[.pointer none,.int .i64 0])∧jD w sb tb sv l (.returned (.tuple #[])) w'
theorem GN (hs:aS w sb 169 [ptr tb,sv]) (ho:mZ 0 w sv l) (h:Nd w p n) (hl:l.length≤1000000) (hn:n.its=[]):
  Calls Tryz.prog 88 #[ptr sb,ptr p] w fun e w'=>Qr w sb tb sv (l++[n.page]) e w':=by
 have c1:=h.c1
 rw[hn] at c1
 have c1':w.cell? ⟨p,1,none⟩=some (.slice (some ⟨n.rg,n.ro,none⟩) 0 n.cap):=c1
 have HL:=aa (iH w sb tb p sv l n hs ho h hl)
 clear h hs ho c1
 go_enter Tryz.func88,Tryz.ntmps88
 unfold ptr at HL ⊢
 go_wp2_with fail
 refine HL.o.mono ?_
 intro e w2 h2
 have H2:=aa h2
 obtain⟨rfl,-⟩:=h2
 clear HL
 go_wp2_with fail
 go_ret2
 exact⟨rfl,H2.o⟩
theorem GO (h:Nd w p n) (hn:n.its≠[]) (h1:n.level=0∨n.its.length≠1) (hz:cj n.its≤510):
  Calls Tryz.prog 88 #[ptr sb,ptr p] w fun e w'=>e=.returned (.tuple #[ptr p,.int .i64 0])∧Below w.heap.size w w':=by
 have c0:=h.c0
 have c1:=h.c1
 have iY:(n.its.length:Int)≤400:=by have:=h.small.len;omega
 have HF:=aa (iF h)
 rw[decide_eq_true hz] at HF
 obtain⟨L,hL⟩:∃L,L=n.its.length:=⟨_,rfl⟩
 rw[←hL] at c1 iY h1
 have JX:((L:Int)==0)=false:=by rw[beq_eq_false_iff_ne];intro e;exact hn (ef.1 (by omega))
 clear h hn hL
 by_cases hv:n.level=0
 ·have MD:decide ((n.level:Int)>0)=false:=decide_eq_false (by omega)
  have Nz:¬(n.level:Int)>0:=by omega
  clear h1
  go_enter Tryz.func88,Tryz.ntmps88
  unfold ptr at HF ⊢
  go_wp2_with fail
  refine HF.o.mono ?_
  rintro e w2 ⟨rfl,aP⟩
  have H2:=aa aP
  clear aP HF
  go_wp2_with fail
  go_ret2
  exact⟨rfl,H2.o⟩
 ·have MD:decide ((n.level:Int)>0)=true:=decide_eq_true (by omega)
  have Nz:(n.level:Int)>0:=by omega
  have Gt:((L:Int)==1)=false:=by rw[beq_eq_false_iff_ne];rcases h1 with e|e<;>omega
  clear h1
  go_enter Tryz.func88,Tryz.ntmps88
  unfold ptr at HF ⊢
  go_wp2_with fail
  refine HF.o.mono ?_
  rintro e w2 ⟨rfl,aP⟩
  have H2:=aa aP
  clear aP HF
  go_wp2_with fail
  go_ret2
  exact⟨rfl,H2.o⟩
theorem GQ {Q:Value→Int→World→Prop} (hs:aS w sb 169 [ptr tb,sv]) (ho:mZ 0 w sv l) (h:Nd w p n) (hl:l.length≤1000000) (hv:n.level≠0) (hn:n.its.length=1)
  (hj:∀w1,jD w sb tb sv (l++[n.page]) (.returned (.tuple #[])) w1→Calls Tryz.prog 79 #[ptr tb,ptr p,.int .i64 (0:Nat)] w1 fun e w'=>∃(v:Value) (x:Int),e=.returned (.tuple #[v,.int .i64 x])∧Q v x w'):
  Calls Tryz.prog 88 #[ptr sb,ptr p] w fun e w'=>∃(v:Value) (x:Int),e=.returned (.tuple #[v,.int .i64 x])∧Q v x w':=by
 have c0:=h.c0
 have c1:=h.c1
 rw[hn] at c1
 have MD:decide ((n.level:Int)>0)=true:=decide_eq_true (by omega)
 have Nz:(n.level:Int)>0:=by omega
 have HL:=aa (iH w sb tb p sv l n hs ho h hl)
 have HJ:=aa hj
 clear h hs ho hl hj hn hv
 go_enter Tryz.func88,Tryz.ntmps88
 unfold ptr at HL HJ ⊢
 go_wp2_with fail
 refine HL.o.mono ?_
 intro e w2 h2
 obtain⟨rfl,eC,kN,h3⟩:=id h2
 have H2:=aa (HJ.o w2 h2)
 have s0:=kN.cell (j:=0) rfl
 unfold ptr at s0
 clear HL HJ h2 kN h3
 go_wp2_with fail
 refine H2.o.mono ?_
 rintro e w3 ⟨v,x,rfl,hQ⟩
 have H3:=aa hQ
 clear hQ
 go_wp2_with fail
 go_ret2
 exact⟨v,x,rfl,H3.o⟩
end
section
variable {X:World} {M:Nat→Option NV} {p sb:Nat} {n:NV}
def rootOf (n:NV) (p q rg H:Nat):NV:=⟨n.level+1,[⟨[],pv 0,some p⟩,⟨between n H,pv 0,some q⟩],rg,0,2,-1,[],[],0,0,true,true⟩
def Ks (X:World) (M:Nat→Option NV) (p:Nat) (n:NV) (H:Nat) (e:Ending) (X':World):Prop:=
 ∃r q rg,e=.returned (.tuple #[ptr r,.int .i64 0])∧Mem X' (upd (upd (upd M p (fZ n H)) q (jd n H)) r (rootOf n p q rg H))∧X.heap.size≤q∧X.heap.size≤r∧X.heap.size≤rg∧aE (fun k=>k=p∨k=n.rg) X X'∧q<r
theorem Bt {q H:Nat} {w5:World} (h:Mem w5 (upd (upd M p (fZ n H)) q (jd n H))) (hb:aE (fun k=>k=p∨k=n.rg) X w5) (hq:X.heap.size≤q) (td:(between n H).length≤200):
  Ks X M p n H (.returned (.tuple #[ptr (w5.heap.size+1),.int .i64 0])) ((w5.alloc (.cells #[.string ⟨#[]⟩,.string (bs (pv 0)),ptr p,.string (bs (between n H)),.string (bs (pv 0)),ptr q] 122)).alloc (.cells #[.int .i64 ((n.level:Int)+1),.slice (some ⟨w5.heap.size,0,none⟩) 2 2,.int .i64 (-1),.string ⟨#[]⟩,.string ⟨#[]⟩,.int .i64 0,.int .i64 0,.bool true] 127)):=by
 have ho:=rH w5 [⟨[],pv 0,some p⟩,⟨between n H,pv 0,some q⟩] [.string ⟨#[]⟩,.string (bs (pv 0)),ptr p,.string (bs (between n H)),.string (bs (pv 0)),ptr q] rfl (show 2≤400 by decide) (L:=2) rfl
 obtain⟨w6,PS⟩:∃w6,w6=w5.alloc (.cells #[.string ⟨#[]⟩,.string (bs (pv 0)),ptr p,.string (bs (between n H)),.string (bs (pv 0)),ptr q] 122):=⟨_,rfl⟩
 have VG:w6.heap.size=w5.heap.size+1:=by rw[PS,bk]
 have ho6:aR w5.heap.size w6 (.slice (some ⟨w5.heap.size,0,none⟩) 2 2) [⟨[],pv 0,some p⟩,⟨between n H,pv 0,some q⟩]:=by rw[PS];exact ho
 have yQ:Below w5.heap.size w5 w6:=by rw[PS];exact (Below.refl _ w5).alloc (af _) _
 rw[←PS,←VG]
 have iR:=ho6.alloc (.cells #[.int .i64 ((n.level:Int)+1),.slice (some ⟨w5.heap.size,0,none⟩) 2 2,.int .i64 (-1),.string ⟨#[]⟩,.string ⟨#[]⟩,.int .i64 0,.int .i64 0,.bool true] 127)
 have iN:=yQ.alloc (show w5.heap.size≤w6.heap.size by omega) (.cells #[.int .i64 ((n.level:Int)+1),.slice (some ⟨w5.heap.size,0,none⟩) 2 2,.int .i64 (-1),.string ⟨#[]⟩,.string ⟨#[]⟩,.int .i64 0,.int .i64 0,.bool true] 127)
 have hn7:=aS.new w6 #[.int .i64 ((n.level:Int)+1),.slice (some ⟨w5.heap.size,0,none⟩) 2 2,.int .i64 (-1),.string ⟨#[]⟩,.string ⟨#[]⟩,.int .i64 0,.int .i64 0,.bool true] 127
 have hpv:(pv 0).length≤200:=by decide
 refine⟨_,q,w5.heap.size,rfl,h.add iN (by omega) (af _) ⟨?_,Own.lies iR,⟨show 2≤400 by decide, ?_,show 2≤2∧2≤maxLen from⟨af _,by unfold maxLen;omega⟩⟩⟩ ⟨rfl,Own.mono iR (aC _)⟩,hq, ?_,hb.size,hb.trans (aE.aH iN (fun _=>False)) (fun _ _ h=>h.elim),by have:=(h.lt (p:=q) (n:=jd n H) (bz _ _ _)).1;omega⟩
 ·exact hn7
 ·intro i hi
  have:i=⟨[],pv 0,some p⟩∨i=⟨between n H,pv 0,some q⟩:=by
   rcases aQ.1 hi with e|hi
   ·exact .inl e
   ·grind
  rcases this with rfl|rfl
  ·grind
  ·exact⟨td,hpv⟩
 ·have:=hb.size;omega
theorem DH (h:Mem X M) (hp:M p=some n) (H:Nat) (hH:H=eL (cj n.its) 0 n.its) (h0:0<H) (hk:n.level=0→Tr.lt ((n.its.map It.key).getD (H-1) []) ((n.its.map It.key).getD H [])=true) (hz:¬cj n.its≤510) (hlv:n.level<15) (td:(between n H).length≤200):
  Calls Tryz.prog 88 #[ptr sb,ptr p] X fun e X'=>Ks X M p n H e X':=by
 have hne:n.its≠[]:=by rintro e;rw[e] at hz;exact hz (by decide)
 have hlt:H<n.its.length:=by rw[hH];exact nO _ _ _ hne
 have hnd:=h.nd p n hp
 have c0:=hnd.c0
 have c1:=hnd.c1
 have iY:(n.its.length:Int)≤400:=by have:=hnd.small.len;omega
 have HF:=aa (iF hnd)
 rw[decide_eq_false hz] at HF
 obtain⟨L,hL⟩:∃L,L=n.its.length:=⟨_,rfl⟩
 rw[←hL] at c1 iY hlt
 have JX:((L:Int)==0)=false:=by rw[beq_eq_false_iff_ne];omega
 have Gt:((L:Int)==1)=false:=by rw[beq_eq_false_iff_ne];omega
 have aaQ:((n.level:Int)==15)=false:=by rw[beq_eq_false_iff_ne];omega
 have Av:(n.level:Int)≤15:=by omega
 have HI:=aa (And.intro h (And.intro hp (And.intro hH (And.intro h0 (And.intro hk td)))))
 obtain⟨b,hb⟩:∃b,b=decide ((n.level:Int)>0):=⟨_,rfl⟩
 clear h hp hH h0 hk hz hne hlt hL td
 have XZ:b=true∨b=false:=by cases b<;>simp
 rcases XZ with rfl|rfl
 ·have MD:decide ((n.level:Int)>0)=true:=hb.symm
  have Nz:(n.level:Int)>0:=of_decide_eq_true MD
  clear hb
  go_enter Tryz.func88,Tryz.ntmps88
  unfold ptr at HF ⊢
  go_wp2_with fail
  refine HF.o.mono ?_
  rintro e w2 ⟨rfl,aP⟩
  have HS:=aa (oX (HI.o.1.still aP) HI.o.2.1 H HI.o.2.2.1 HI.o.2.2.2.1 HI.o.2.2.2.2.1)
  have d0:=(hnd.still aP).c0
  have H2:=aa (show Below X.heap.size X w2 from aP)
  clear aP HF c0 c1
  unfold ptr at HS
  go_wp2_with fail
  refine HS.o.mono ?_
  rintro e w3 ⟨q,rfl,EC,OT,bY⟩
  have H3:=aa (show Mem w3 (upd (upd M p (fZ n H)) q (jd n H))∧X.heap.size≤q∧aE (fun k=>k=p∨k=n.rg) X w3 from⟨EC,aG H2.o.size OT,(aE.aH H2.o _).trans bY fun _ _ h=>h⟩)
  have NA:=aa (jE w3 ⟨#[]⟩ p)
  have mN:=aa (fun W=>jE W (bs (between n H)) q)
  clear HS EC OT bY d0
  unfold ptr at NA mN ⊢
  go_wp2_with fail
  refine NA.o.mono ?_
  rintro e w4 ⟨rfl,hb4⟩
  have H4:=aa hb4
  clear hb4 NA
  go_wp2_with fail
  refine (mN.o w4).mono ?_
  rintro e w5 ⟨rfl,dX⟩
  have DI:Below w3.heap.size w3 w5:=H4.o.trans (dX.mono H4.o.size)
  have H5:=aa (show Mem w5 (upd (upd M p (fZ n H)) q (jd n H))∧aE (fun k=>k=p∨k=n.rg) X w5 from⟨H3.o.1.still DI,H3.o.2.2.trans (aE.aH DI (fun _=>False)) fun _ _ h=>h.elim⟩)
  have hpq:p≠q:=by have:=(HI.o.1.lt HI.o.2.1).1;have:=H3.o.2.1;omega
  have d0:w5.cell? ⟨p,0,none⟩=some (.int .i64 n.level):=(H5.o.1.nd p (fZ n H) ((aO hpq).trans (bz _ _ _))).c0
  have dH:p<w5.heap.size:=(H5.o.1.nd p (fZ n H) ((aO hpq).trans (bz _ _ _))).blk.lt
  have HE:=aa (Bt H5.o.1 H5.o.2 H3.o.2.1 HI.o.2.2.2.2.2)
  unfold ptr at HE
  clear dX DI mN hpq
  go_wp2_with fail
  go_ret2
  exact HE.o
 ·have MD:decide ((n.level:Int)>0)=false:=hb.symm
  have Nz:¬(n.level:Int)>0:=of_decide_eq_false MD
  clear hb
  go_enter Tryz.func88,Tryz.ntmps88
  unfold ptr at HF ⊢
  go_wp2_with fail
  refine HF.o.mono ?_
  rintro e w2 ⟨rfl,aP⟩
  have HS:=aa (oX (HI.o.1.still aP) HI.o.2.1 H HI.o.2.2.1 HI.o.2.2.2.1 HI.o.2.2.2.2.1)
  have d0:=(hnd.still aP).c0
  have H2:=aa (show Below X.heap.size X w2 from aP)
  clear aP HF c0 c1
  unfold ptr at HS
  go_wp2_with fail
  refine HS.o.mono ?_
  rintro e w3 ⟨q,rfl,EC,OT,bY⟩
  have H3:=aa (show Mem w3 (upd (upd M p (fZ n H)) q (jd n H))∧X.heap.size≤q∧aE (fun k=>k=p∨k=n.rg) X w3 from⟨EC,aG H2.o.size OT,(aE.aH H2.o _).trans bY fun _ _ h=>h⟩)
  have NA:=aa (jE w3 ⟨#[]⟩ p)
  have mN:=aa (fun W=>jE W (bs (between n H)) q)
  clear HS EC OT bY d0
  unfold ptr at NA mN ⊢
  go_wp2_with fail
  refine NA.o.mono ?_
  rintro e w4 ⟨rfl,hb4⟩
  have H4:=aa hb4
  clear hb4 NA
  go_wp2_with fail
  refine (mN.o w4).mono ?_
  rintro e w5 ⟨rfl,dX⟩
  have DI:Below w3.heap.size w3 w5:=H4.o.trans (dX.mono H4.o.size)
  have H5:=aa (show Mem w5 (upd (upd M p (fZ n H)) q (jd n H))∧aE (fun k=>k=p∨k=n.rg) X w5 from⟨H3.o.1.still DI,H3.o.2.2.trans (aE.aH DI (fun _=>False)) fun _ _ h=>h.elim⟩)
  have hpq:p≠q:=by have:=(HI.o.1.lt HI.o.2.1).1;have:=H3.o.2.1;omega
  have d0:w5.cell? ⟨p,0,none⟩=some (.int .i64 n.level):=(H5.o.1.nd p (fZ n H) ((aO hpq).trans (bz _ _ _))).c0
  have dH:p<w5.heap.size:=(H5.o.1.nd p (fZ n H) ((aO hpq).trans (bz _ _ _))).blk.lt
  have HE:=aa (Bt H5.o.1 H5.o.2 H3.o.2.1 HI.o.2.2.2.2.2)
  unfold ptr at HE
  clear dX DI mN hpq
  go_wp2_with fail
  go_ret2
  exact HE.o
end
section
variable {E:Ev} {X0 X X' V:World} {R0 R R':Nat→Prop} {ps:List (Nat×List UInt8)} {pg:List (Option Wl.Text)} {rt:List Nat} {M M':Nat→Option NV} {k q sb:Nat} {sv:Value} {c:Tr.E (k+1)} {F sp:List Nat} {m:NV}
def E2 (E:Ev) (X0:World) (R0:Nat→Prop) (ps:List (Nat×List UInt8)) (pg:List (Option Wl.Text)) (rt:List Nat) (sb k:Nat) (c:Tr.E (k+1)) (sp:List Nat) (v:Value) (X':World):Prop:=
 ∃R' M' eC sp',SS E X0 R0 R' ps pg rt M' X' sb eC (gy sp')∧((v=.pointer none∧Tr.its c=[]∧sp'=sp++(Tr.hd c).page.toList)∨
  ∃(r k':Nat) (c':Tr.E (k'+1)) (F':List Nat),v=ptr r∧dx M' pg k' r c' F'∧F'.Nodup∧Tr.Ok (k'+1) [] none c'∧k'≤15∧Tr.ct k' (Tr.its c')=Tr.ct k (Tr.its c)∧(Tr.b8 (k'+1) c'++sp').Perm (Tr.b8 (k+1) c++sp)∧Tr.eT (k'+1) c'≤Tr.eT (k+1) c+2∧(Tr.sz k (Tr.its c)≤510→Tr.eT (k'+1) c'≤Tr.eT (k+1) c))
theorem NC {low up:Tr.E (k+1)} {key:Tr.Tx} (h1:Tr.Ok (k+1) [] (some key) low) (h2:Tr.Ok (k+1) key none up) (hl:key.length≤96) (hc:Tr.cut (k+1) low key up):Tr.Ok (k+2) [] none (Tr.mk ⟨none,true⟩ [([],low),(key,up)]):=by
 refine⟨by simp, ?_, ?_, ?_⟩
 ·show 2+0+2+(2+key.length+2+0)≤510
  omega
 ·intro p hp
  cases hp
  rfl
 ·show Tr.cV (Tr.Ok (k+1)) (Tr.cut (k+1)) none [([],low),(key,up)]
  exact⟨h1,⟨h1.lt,hl,hc⟩,h2⟩
theorem Bu (h:SS E X0 R0 R ps pg rt M X sb sv (gy sp)) (hr:dx M pg k q c F) (hm:M q=some m) (hF:F.Nodup) (hn:Tr.ig k [] none c) (hlo:m.lo=[]∧m.hi=[]) (hp:(Tr.hd c).page.isSome=true∨(k=0∧Tr.its c≠[])) (hk:k≤15) (hsp:510<Tr.sz k (Tr.its c)→k<15) (hl:sp.length≤100000):
  Calls Tryz.prog 88 #[ptr sb,ptr q] X fun e X'=>∃v,e=.returned (.tuple #[v,.int .i64 0])∧E2 E X0 R0 ps pg rt sb k c sp v X':=by
 have hnd:=h.ts.mem.nd q m hm
 have hz:=hr.sz hm
 obtain⟨m',hm',ho,hqF⟩:=hr.head
 rw[hm] at hm'
 cases hm'
 have GR:(gy sp).length≤1000000:=by unfold gy;rw[aM];omega
 by_cases h0:Tr.its c=[]
 ·have hm0:m.its=[]:=ef.1 (by rw[hz.2.2,h0];rfl)
  refine (GN h.blk h.sp hnd GR hm0).mono ?_
  rintro e X' ⟨rfl,hlf⟩
  have hps:=hp.resolve_right (fun hne=>hne.2 h0)
  obtain⟨eC,R',s',h1,h2,h3,h4⟩:=h.left hlf
  rw[ho.page,iK hps] at s'
  exact⟨_,rfl,R',M,eC,sp++(Tr.hd c).page.toList,by unfold gy at s' ⊢;rw[bI];exact s',.inl ⟨rfl,h0,rfl⟩⟩
 ·have X6:m.its≠[]:=fun e=>h0 (ef.1 (by rw[←hz.2.2,e];rfl))
  by_cases h1:0<k∧m.its.length=1
  ·obtain⟨oh,xz⟩:=h1
   match k,c,hr,hn,hp,hsp,hz,ho,h0,hk,oh with
   |k+1,c,hr,hn,hp,hsp,hz,ho,h0,hk,_=>
    obtain⟨m',fs,hm',ho',hks,rfl⟩:=hr
    rw[hm] at hm'
    cases hm'
    obtain⟨i,hi⟩:∃i,m.its=[i]:=List.length_eq_one_iff.1 xz
    obtain⟨x,hx⟩:∃x,Tr.its c=[x]:=List.length_eq_one_iff.1 (by rw[←hz.2.2];exact xz)
    have aaR:=hks
    rw[hi,hx] at hks
    obtain⟨i',Ru,f,fs',e1,rfl,ki,qy⟩:=hks.cons_inv
    obtain⟨rfl,rfl⟩:=List.cons.inj e1
    obtain⟨-,rfl⟩:=qy.tE
    rw[show [f].flatten=f by simp] at hF
    have hps:(Tr.hd c).page.isSome=true:=hp.resolve_right (fun hne=>absurd hne.1 (cT k))
    have iX:Tr.Ok (k+1) [] none x.2:=by
     obtain⟨_,_,GU⟩:=hn
     rw[Tr.dr,hx] at GU
     exact GU
    have wR:eF m 0=[]∧iV (dW m 0)=none:=by
     refine⟨by unfold eF;rw[if_pos rfl];exact hlo.1, ?_⟩
     unfold dW
     rw[if_neg (by rw[hi];simp),hlo.2]
     rfl
    refine (GQ (sb:=sb) (tb:=E.tb) (Q:=fun v x' X'=>x'=0∧E2 E X0 R0 ps pg rt sb (k+1) c sp v X') h.blk h.sp hnd GR (by rw[ho.level];omega) xz (fun w1 hlf=> ?_)).mono ?_
    ·obtain⟨eC,R',s',g1,g2,g3,g4⟩:=h.left hlf
     have hk1:iW pg k (dx M pg k) i (x.1,x.2) f:=ki
     refine (xT (I1:=[]) (I2:=[]) (key:=x.1) s'.ts (Below.refl _ _) hm ho.level hi hk1 (fun _=>by rw[show ([]:List It).length=0 from rfl,wR.1,wR.2];exact iX) (cD.1 hF).1 (cD.1 hF).2 (by omega) rfl).mono ?_
     rintro e X' ⟨q',M',R2,fq,rfl,b⟩
     have wv:∀b,b=m.rg→MB M b:=fun b e=>⟨q,m,hm,.inr e⟩
     have hss:=s'.nodes b.ts b.but wv b.sub b.mb
     rw[ho.page] at hss
     ·rw[iK hps] at hss
      refine⟨_,0,rfl,rfl,R2,M',eC,sp++(Tr.hd c).page.toList,by unfold gy at hss ⊢;rw[bI];exact hss,.inr ⟨q',k,x.2,fq,rfl,b.xQ,b.nd,iX,by omega, ?_, ?_, ?_⟩⟩
      ·rw[hx,Tr.dK]
      ·rw[Tr.bp (k+1) c,hx,Tr.gC,List.perm_iff_count]
       intro a
       simp only[List.count_append]
       omega
      ·rw[Tr.bR (k+1) c,hx,Tr.gW];exact⟨by omega,fun _=>by omega⟩
    ·rintro e X' ⟨v,x',rfl,rfl,ht⟩
     exact⟨v,rfl,ht⟩
  ·by_cases hs:Tr.sz k (Tr.its c)≤510
   ·refine (GO (sb:=sb) hnd X6 (by rw[ho.level];omega) (by rw[hz.1];exact hs)).mono ?_
    rintro e X' ⟨rfl,hb⟩
    exact⟨_,rfl,R,M,sv,sp,h.still hb,.inr ⟨q,k,c,F,rfl,hr,hF,hn.ok h0 hs,hk,rfl,List.Perm.refl _,Nat.le_add_right _ _,fun _=>af _⟩⟩
   ·obtain⟨H,hH⟩:∃H,H=eL (cj m.its) 0 m.its:=⟨_,rfl⟩
    have dX:510<Tr.sz k (Tr.its c):=by omega
    obtain⟨g0,gk0⟩:=A9 hr hm dX hH
    have P:=Tr.nJ k hn dX
    have X8:between m H=(Tr.part k c).key:=(uT (q:=X.heap.size) hr hm hF (fun hh=>by obtain⟨y,hy⟩:=hr.dom _ hh;have:=(h.ts.mem.lt hy).1;omega) dX hH rfl).1
    refine (DH (sb:=sb) h.ts.mem hm H hH g0 gk0 (by rw[hz.1];exact hs) (by rw[ho.level];exact hsp dX) (by rw[X8];have:=P.len;omega)).mono ?_
    rintro e X' ⟨r,q',rg,rfl,hmem,lN,hr',aaS,jG,Ve⟩
    obtain⟨M1,hM1⟩:∃M1,M1=upd (upd M q (fZ m H)) q' (jd m H):=⟨_,rfl⟩
    rw[←hM1] at hmem
    have TY:q'∉F:=fun hh=>by obtain⟨y,hy⟩:=hr.dom q' hh;have:=(h.ts.mem.lt hy).1;omega
    obtain⟨wy,F1,F2,r1,r2,jg,X_⟩:=uT hr hm hF TY dX hH hM1
    have EZ:=(h.ts.mem.lt hm).1
    have Vf:∀x∈F1++F2,x≠r:=fun x hx e=>by
     rcases X_ x hx with h3|h3
     ·obtain⟨y,hy⟩:=hr.dom x h3
      have:=(h.ts.mem.lt hy).1
      omega
     ·omega
    obtain⟨M2,hM2⟩:∃M2,M2=upd M1 r (rootOf m q q' rg H):=⟨_,rfl⟩
    rw[←hM2] at hmem
    have f1:dx M2 pg k q (Tr.part k c).low F1:=r1.frame fun x hx=>by rw[hM2,aO (Vf x (ah.2 (.inl hx)))]
    have f2:dx M2 pg k q' (Tr.part k c).up F2:=r2.frame fun x hx=>by rw[hM2,aO (Vf x (ah.2 (.inr hx)))]
    have hmb:∀b,MB M2 b→MB M b∨b=q'∨b=r∨b=rg:=by
     rintro b ⟨x,y,hx,hb⟩
     rw[hM2] at hx
     rcases aI hx with⟨rfl,rfl⟩|⟨_,hx⟩
     ·rcases hb with rfl|rfl
      ·omega
      ·omega
     ·rw[hM1] at hx
      rcases aI hx with⟨rfl,rfl⟩|⟨_,hx⟩
      ·rcases hb with rfl|rfl
       ·exact .inr (.inl rfl)
       ·exact .inl ⟨q,m,hm,.inr rfl⟩
      ·rcases aI hx with⟨rfl,rfl⟩|⟨_,hx⟩
       ·exact .inl ⟨_,m,hm,hb⟩
       ·exact .inl ⟨x,y,hx,hb⟩
    have RB:∀b,(b=q∨b=m.rg)→MB M b:=fun b hb=>⟨q,m,hm,hb⟩
    have hrl:=(hmem.lt (p:=r) (n:=rootOf m q q' rg H) (by rw[hM2,bz]))
    have aaT:rg<X'.heap.size:=hrl.2
    have hnew:∀b,(b=q'∨b=r∨b=rg)→X.heap.size≤b∧b<X'.heap.size:=by
     omega
    have hts:TS E X0 R0 (fun b=>R b∨b=q'∨b=r∨b=rg) ps pg rt M2 X':=h.ts.own jG (fun b _ hb=>h.ts.jR b (RB b hb)) hmem (fun b hb=>by
     rcases hmb b hb with hb|hb
     ·exact⟨.inl (h.ts.jR b hb).1,(h.ts.jR b hb).2⟩
     ·exact⟨.inr hb,aG h.ts.but.size (hnew b hb).1⟩) (fun _ h=>.inl h) (fun b hb=>hb.imp_right fun hb=>hnew b hb)
    have hss:=h.nodes hts jG RB (fun _ h=>.inl h) (fun b hb=>(hmb b hb).imp_right fun hb=>(hnew b hb).1)
    have Uf:=NC P.low P.up P.len P.cut
    refine⟨_,rfl,_,M2,sv,sp,hss,.inr ⟨r,k+1,Tr.mk ⟨none,true⟩ [([],(Tr.part k c).low),((Tr.part k c).key,(Tr.part k c).up)],r::[F1,F2].flatten,rfl,⟨rootOf m q q' rg H,[F1,F2],by rw[hM2,bz],⟨?_,rfl,rfl, ?_,fun e=>(by cases e)⟩, ?_,rfl⟩, ?_,Uf,by have:=hsp dX;omega, ?_, ?_, ?_⟩⟩
    ·show m.level+1=k+1
     rw[ho.level]
    ·exact Uf.near
    ·exact⟨⟨rfl,rfl,.inr ⟨q,rfl,f1⟩⟩,⟨wy,rfl,.inr ⟨q',rfl,f2⟩⟩,trivial⟩
    ·grind
    ·rw[Tr.its_mk,show [([],(Tr.part k c).low),((Tr.part k c).key,(Tr.part k c).up)]=[([],(Tr.part k c).low)]++[((Tr.part k c).key,(Tr.part k c).up)] from rfl,Tr.bJ,Tr.dK,Tr.dK]
     exact P.ct
    ·rw[Tr.bp (k+1),Tr.hd_mk,Tr.its_mk,Tr.fI,Tr.gC,←P.b8]
     exact List.Perm.refl _
    ·rw[Tr.bR (k+1),Tr.hd_mk,Tr.its_mk,Tr.ew,Tr.gW]
     have:=P.eT
     refine⟨?_,fun hq=>absurd hq (by omega)⟩
     show 1+_≤_
     dsimp only
     omega
end
structure Ya (sb tb rb:Nat) (place:Int) (Fr:Nat→Option Addr→Nat→Nat→World→Prop) (G:Int→World→Prop):Prop where
 free:∀num a L i X,Fr num a L i X→i<L→X.cell? ⟨sb,0,none⟩=some (.pointer (some ⟨tb,0,none⟩))∧X.cell? ⟨tb,0,none⟩=some (.pointer (some ⟨rb,0,none⟩))∧∃g o x,a=some ⟨g,o,none⟩∧X.cell? ⟨g,o+i,none⟩=some (.int .i64 x)∧Calls Tryz.prog 140 #[ptr rb,.int .i64 x] X fun e X'=>e=.returned (.int .i64 0)∧Fr num a L (i+1) X'
 root:∀num a L X,Fr num a L L X→X.cell? ⟨sb,0,none⟩=some (.pointer (some ⟨tb,0,none⟩))∧X.cell? ⟨tb,0,none⟩=some (.pointer (some ⟨rb,0,none⟩))∧X.cell? ⟨tb,1,none⟩=some (.int .i64 place)∧Calls Tryz.prog 47 #[ptr rb,.int .i64 place] X.drew fun e X'=>∃before:Nat,e=.returned (.tuple #[.int .u64 before,.int .i64 0])∧
  X'.cell? ⟨sb,0,none⟩=some (.pointer (some ⟨tb,0,none⟩))∧X'.cell? ⟨tb,0,none⟩=some (.pointer (some ⟨rb,0,none⟩))∧X'.cell? ⟨tb,1,none⟩=some (.int .i64 place)∧(before=num→G 0 X')∧
  (before≠num→Calls Tryz.prog 141 #[ptr rb,.int .i64 place,.int .u64 num] X'.drew fun e gm=>e=.returned (.int .i64 0)∧gm.cell? ⟨sb,0,none⟩=some (.pointer (some ⟨tb,0,none⟩))∧gm.cell? ⟨tb,0,none⟩=some (.pointer (some ⟨rb,0,none⟩))∧gm.cell? ⟨tb,1,none⟩=some (.int .i64 place)∧G 0 gm)
section
variable {w:World} {sb tb rb:Nat}
theorem DJ {place:Int} {Fr:Nat→Option Addr→Nat→Nat→World→Prop} {G:Int→World→Prop} {a:Option Addr} {L c:Nat} (hW:Ya sb tb rb place Fr G) (c1:w.cell? ⟨sb,1,none⟩=some (.slice a L c)) (hL:L≤70000) (S7:L≤c) (hF:Fr 0 a L 0 w):
  Calls Tryz.prog 90 #[ptr sb,.pointer none] w fun e w'=>∃c:Int,e=.returned (.int .i64 c)∧G c w':=by
 have HW:=aa hW
 obtain⟨num,GV⟩:∃num,num=0:=⟨_,rfl⟩
 have VH:=aa (show Fr num a L 0 w by rw[GV];exact hF)
 have HN:=aa GV
 have Dl:(L:Int)≤70000:=by omega
 have Cm:(L:Int)≤c:=by omega
 clear hW hL hF GV S7
 unfold ptr at HW ⊢
 go_enter Tryz.func90,Tryz.ntmps90
 go_wp2_with fail
 have hz:Value.int .u64 0=Value.int .u64 ((num:Nat):Int):=by rw[HN.o];rfl
 rw[hz]
 clear hz
 go_loopw [8,9,31] (fun _ _ iv wr=>∃i:Nat,i≤L∧iv=.int .i64 i∧Hid (Fr num a L i wr)) (fun _ _ iv _=>L-(RowKit.intOf iv).toNat)
 case atStart=>exact⟨0,aC _,rfl,VH⟩
 case round=>
  obtain⟨i,hi,rfl,hF⟩:=hrel
  by_cases hlt:i<L
  ·have hI:(i:Int)<L:=by omega
   obtain⟨s0,t0,g,o,x,rfl,gx,cG⟩:=HW.o.free _ _ _ _ _ hF.o hlt
   have HC:=aa cG
   clear cG
   go_wp2_with fail
   refine HC.o.mono ?_
   rintro e w5 ⟨rfl,Ug⟩
   have Yb:=aa Ug
   clear Ug gx s0 t0
   go_wp2_with fail
   go_roundw
   case rel=>exact⟨i+1,hlt,by go_num,Yb⟩
   case measure=>simp[RowKit.intOf];omega
  ·obtain rfl:i=L:=by omega
   have hI:¬(i:Int)<i:=by omega
   obtain⟨s0,t0,t1,hroot⟩:=HW.o.root _ _ _ _ hF.o
   have Qs:=aa hroot
   clear hroot
   go_wp2_with fail
   go_wp2_with (refine wp_region_held_drew (S:=(fun X=>X.cell? ⟨sb,0,none⟩=some (.pointer (some ⟨tb,0,none⟩))∧X.cell? ⟨tb,0,none⟩=some (.pointer (some ⟨rb,0,none⟩))∧X.cell? ⟨tb,1,none⟩=some (.int .i64 place))) (by kernel_rfl) ?_ (fun aD=> ?_);focus skip;rotate_left;refine Hid.o ?_)
   refine aa ?_
   ·first|trivial|exact⟨s0,t0,t1⟩
   refine aU 0 aD ?_
   refine aU 1 aD ?_
   refine aU 2 aD ?_
   refine aU 3 aD ?_
   refine aU 4 aD ?_
   refine aU 5 aD ?_
   refine aU 6 aD ?_
   refine aU 7 aD ?_
   refine aU 8 aD ?_
   refine aU 9 aD ?_
   refine aU 10 aD ?_
   refine aU 11 aD ?_
   refine aU 12 aD ?_
   refine aU 13 aD ?_
   try simp only[Act.put,az,ay,au]
   refine iL [14] (iM fun K hK=> ?_)
   go_simp
   refine Qs.o.mono ?_
   rintro e w6 ⟨before,rfl,s0',t0',t1',Uh,Ui⟩
   have Gn:=aa (And.intro Uh Ui)
   refine hK.out _ _ ⟨s0',t0',t1'⟩ (fun aD=> ?_);clear hK K Uh Ui
   refine aU 15 aD ?_
   refine aU 16 aD ?_
   refine aU 17 aD ?_
   refine aU 18 aD ?_
   refine aU 19 aD ?_
   refine wpAnyH_done (by kernel_rfl) ?_ _
   try simp only[Act.put,az,ay,au]
   by_cases Kt:before=num
   ·subst Kt
    have Yc:((before:Int)==before)=true:=by simp
    have HG:=aa (Gn.o.1 rfl)
    go_wp2_with fail
    go_ret
    exact⟨0,rfl,HG.o⟩
   ·have Yc:((before:Int)==num)=false:=by rw[beq_eq_false_iff_ne];omega
    have GX:=aa (Gn.o.2 Kt)
    go_wp2_with fail
    go_wp2_with (refine wp_region_held_drew (S:=(fun X=>X.cell? ⟨sb,0,none⟩=some (.pointer (some ⟨tb,0,none⟩))∧X.cell? ⟨tb,0,none⟩=some (.pointer (some ⟨rb,0,none⟩))∧X.cell? ⟨tb,1,none⟩=some (.int .i64 place))) (by kernel_rfl) ?_ (fun aD=> ?_);focus skip;rotate_left;refine Hid.o ?_)
    refine aa ?_
    ·first|trivial|exact⟨s0',t0',t1'⟩
    refine aU 0 aD ?_
    refine aU 1 aD ?_
    refine aU 2 aD ?_
    refine aU 3 aD ?_
    refine aU 4 aD ?_
    refine aU 5 aD ?_
    refine aU 6 aD ?_
    refine aU 7 aD ?_
    refine aU 8 aD ?_
    refine aU 9 aD ?_
    refine aU 10 aD ?_
    refine aU 11 aD ?_
    refine aU 12 aD ?_
    refine aU 13 aD ?_
    refine aU 14 aD ?_
    try simp only[Act.put,az,ay,au]
    refine iL [15] (iM fun K hK=> ?_)
    go_simp
    refine GX.o.mono ?_
    rintro e w7 ⟨rfl,s0',t0',t1',hG⟩
    have HG:=aa hG
    refine hK.out _ _ ⟨s0',t0',t1'⟩ (fun aD=> ?_);clear hK K hG
    refine aU 16 aD ?_
    refine wpAnyH_done (by kernel_rfl) ?_ _
    try simp only[Act.put,az,ay,au]
    go_wp2_with fail
    go_ret
    exact⟨0,rfl,HG.o⟩
theorem DK {place:Int} {Fr:Nat→Option Addr→Nat→Nat→World→Prop} {G:Int→World→Prop} {r:Nat} (hW:Ya sb tb rb place Fr G)
  (hC:Calls Tryz.prog 139 #[ptr sb,ptr r] w fun e X'=>(∃page:Nat,e=.returned (.int .i64 0)∧X'.cell? ⟨r,2,none⟩=some (.int .i64 page)∧page<65536∧∃a L c,X'.cell? ⟨sb,1,none⟩=some (.slice a L c)∧L≤70000∧L≤c∧Fr (page+1) a L 0 X')∨(∃c:Int,e=.returned (.int .i64 c)∧c≠0∧G c X')):
  Calls Tryz.prog 90 #[ptr sb,ptr r] w fun e w'=>∃c:Int,e=.returned (.int .i64 c)∧G c w':=by
 have HW:=aa hW
 have IE:=aa hC
 clear hW hC
 unfold ptr at HW IE ⊢
 go_enter Tryz.func90,Tryz.ntmps90
 go_wp2_with fail
 refine IE.o.mono ?_
 rintro e w3 (⟨page,rfl,r2,nP,a,L,c,c1,hL,S7,hF⟩|⟨c,rfl,hc,hG⟩)
 ·have VH:=aa hF
  have Dl:(L:Int)≤70000:=by omega
  have Cm:(L:Int)≤c:=by omega
  have OE:(page:Int)<65536:=by omega
  obtain⟨num,GV⟩:∃num,num=page+1:=⟨_,rfl⟩
  rw[←GV] at VH
  have OB:(page:Int)+1=((num:Nat):Int):=by omega
  clear hF hL S7 GV
  go_wp2_with fail
  clear r2 OE nP OB
  go_loopw [8,9,31] (fun _ _ iv wr=>∃i:Nat,i≤L∧iv=.int .i64 i∧Hid (Fr num a L i wr)) (fun _ _ iv _=>L-(RowKit.intOf iv).toNat)
  case atStart=>exact⟨0,aC _,rfl,VH⟩
  case round=>
   obtain⟨i,hi,rfl,hF⟩:=hrel
   by_cases hlt:i<L
   ·have hI:(i:Int)<L:=by omega
    obtain⟨s0,t0,g,o,x,rfl,gx,cG⟩:=HW.o.free _ _ _ _ _ hF.o hlt
    have HC:=aa cG
    clear cG
    go_wp2_with fail
    refine HC.o.mono ?_
    rintro e w5 ⟨rfl,Ug⟩
    have Yb:=aa Ug
    clear Ug gx s0 t0
    go_wp2_with fail
    go_roundw
    case rel=>exact⟨i+1,hlt,by go_num,Yb⟩
    case measure=>simp[RowKit.intOf];omega
   ·obtain rfl:i=L:=by omega
    have hI:¬(i:Int)<i:=by omega
    obtain⟨s0,t0,t1,hroot⟩:=HW.o.root _ _ _ _ hF.o
    have Qs:=aa hroot
    clear hroot
    go_wp2_with fail
    go_wp2_with (refine wp_region_held_drew (S:=(fun X=>X.cell? ⟨sb,0,none⟩=some (.pointer (some ⟨tb,0,none⟩))∧X.cell? ⟨tb,0,none⟩=some (.pointer (some ⟨rb,0,none⟩))∧X.cell? ⟨tb,1,none⟩=some (.int .i64 place))) (by kernel_rfl) ?_ (fun aD=> ?_);focus skip;rotate_left;refine Hid.o ?_)
    refine aa ?_
    ·first|trivial|exact⟨s0,t0,t1⟩
    refine aU 0 aD ?_
    refine aU 1 aD ?_
    refine aU 2 aD ?_
    refine aU 3 aD ?_
    refine aU 4 aD ?_
    refine aU 5 aD ?_
    refine aU 6 aD ?_
    refine aU 7 aD ?_
    refine aU 8 aD ?_
    refine aU 9 aD ?_
    refine aU 10 aD ?_
    refine aU 11 aD ?_
    refine aU 12 aD ?_
    refine aU 13 aD ?_
    try simp only[Act.put,az,ay,au]
    refine iL [14] (iM fun K hK=> ?_)
    go_simp
    refine Qs.o.mono ?_
    rintro e w6 ⟨before,rfl,s0',t0',t1',Uh,Ui⟩
    have Gn:=aa (And.intro Uh Ui)
    refine hK.out _ _ ⟨s0',t0',t1'⟩ (fun aD=> ?_);clear hK K Uh Ui
    refine aU 15 aD ?_
    refine aU 16 aD ?_
    refine aU 17 aD ?_
    refine aU 18 aD ?_
    refine aU 19 aD ?_
    refine wpAnyH_done (by kernel_rfl) ?_ _
    try simp only[Act.put,az,ay,au]
    by_cases Kt:before=num
    ·subst Kt
     have Yc:((before:Int)==before)=true:=by simp
     have HG:=aa (Gn.o.1 rfl)
     go_wp2_with fail
     go_ret
     exact⟨0,rfl,HG.o⟩
    ·have Yc:((before:Int)==num)=false:=by rw[beq_eq_false_iff_ne];omega
     have GX:=aa (Gn.o.2 Kt)
     go_wp2_with fail
     go_wp2_with (refine wp_region_held_drew (S:=(fun X=>X.cell? ⟨sb,0,none⟩=some (.pointer (some ⟨tb,0,none⟩))∧X.cell? ⟨tb,0,none⟩=some (.pointer (some ⟨rb,0,none⟩))∧X.cell? ⟨tb,1,none⟩=some (.int .i64 place))) (by kernel_rfl) ?_ (fun aD=> ?_);focus skip;rotate_left;refine Hid.o ?_)
     refine aa ?_
     ·first|trivial|exact⟨s0',t0',t1'⟩
     refine aU 0 aD ?_
     refine aU 1 aD ?_
     refine aU 2 aD ?_
     refine aU 3 aD ?_
     refine aU 4 aD ?_
     refine aU 5 aD ?_
     refine aU 6 aD ?_
     refine aU 7 aD ?_
     refine aU 8 aD ?_
     refine aU 9 aD ?_
     refine aU 10 aD ?_
     refine aU 11 aD ?_
     refine aU 12 aD ?_
     refine aU 13 aD ?_
     refine aU 14 aD ?_
     try simp only[Act.put,az,ay,au]
     refine iL [15] (iM fun K hK=> ?_)
     go_simp
     refine GX.o.mono ?_
     rintro e w7 ⟨rfl,s0',t0',t1',hG⟩
     have HG:=aa hG
     refine hK.out _ _ ⟨s0',t0',t1'⟩ (fun aD=> ?_);clear hK K hG
     refine aU 16 aD ?_
     refine wpAnyH_done (by kernel_rfl) ?_ _
     try simp only[Act.put,az,ay,au]
     go_wp2_with fail
     go_ret
     exact⟨0,rfl,HG.o⟩
 ·have HG:=aa hG
  have rE:(c !=0)=true:=by simpa using hc
  clear hG
  go_wp2_with fail
  go_ret
  exact⟨c,rfl,HG.o⟩
end
end
namespace Tr
def lH {α:Type} (R:α→α→Prop):List (Tx×α)→List (Tx×α)→Prop
 |[],[]=>True
 |x::xs,y::ys=>(x.1=y.1∧R x.2 y.2)∧lH R xs ys
 |_,_=>False
def Sm:(k:Nat)→E k→E k→Prop
 |0,a,b=>a=b
 |k+1,a,b=>lH (Sm k) (its a) (its b)
section
variable {α:Type} {R:α→α→Prop}
theorem lH.refl (h:∀a,R a a):∀l:List (Tx×α),lH R l l
 |[]=>trivial
 |_::l=>⟨⟨rfl,h _⟩,lH.refl h l⟩
theorem lH.len:∀{a b:List (Tx×α)},lH R a b→a.length=b.length
 |[],[],_=>rfl
 |_::_,_::_,h=>by rw[aW,aW,lH.len h.2]
 |[],_::_,h=>h.elim
 |_::_,[],h=>h.elim
theorem lH.append:∀{a b a' b':List (Tx×α)},lH R a b→lH R a' b'→lH R (a++a') (b++b')
 |[],[],_,_,_,h=>h
 |_::_,_::_,_,_,h,h'=>⟨h.1,lH.append h.2 h'⟩
 |[],_::_,_,_,h,_=>h.elim
 |_::_,[],_,_,h,_=>h.elim
end
theorem Sm.refl:∀(k:Nat) (a:E k),Sm k a a
 |0,_=>rfl
 |k+1,_=>lH.refl (Sm.refl k) _
theorem Sm.FR:∀{k:Nat} {a b:E k},Sm k a b→FR k a=FR k b
 |0,_,_,h=>by cases h;rfl
 |_+1,_,_,_=>rfl
theorem lH.sz {k:Nat}:∀{a b:List (Tx×E k)},lH (Sm k) a b→sz k a=sz k b
 |[],[],_=>rfl
 |x::a,y::b,h=>by
  have e:iQ k x=iQ k y:=by unfold iQ;rw[h.1.1,h.1.2.FR]
  rw[Tr.sz,Tr.sz,lH.sz h.2,e]
 |[],_::_,h=>h.elim
 |_::_,[],h=>h.elim
theorem Sm.sz {k:Nat} {a b:E (k+1)} (h:Sm (k+1) a b):Tr.sz k (its a)=Tr.sz k (its b):=lH.sz h
theorem Sm.ct:∀{k:Nat} {a b:List (Tx×E k)},lH (Sm k) a b→ct k a=ct k b
 |0,[],[],_=>rfl
 |0,x::a,y::b,h=>by
  have ih:=Sm.ct (k:=0) h.2
  have e:x=y:=Prod.ext h.1.1 h.1.2
  show x::a=y::b
  rw[e]
  exact congrArg _ ih
 |_+1,[],[],_=>rfl
 |k+1,x::a,y::b,h=>by
  have ih:=Sm.ct (k:=k+1) h.2
  have e:Tr.ct k (its x.2)=Tr.ct k (its y.2):=Sm.ct h.1.2
  show Tr.ct (k+1) ([x]++a)=Tr.ct (k+1) ([y]++b)
  rw[bJ,bJ,dK,dK,ih,e]
 |_,[],_::_,h=>h.elim
 |_,_::_,[],h=>h.elim
theorem Sm.cut:∀{k:Nat} {a a' b b':E k} {x:Tx},Sm k a a'→Sm k b b'→cut k a x b→cut k a' x b'
 |0,_,_,_,_,_,_,_,_=>trivial
 |k+1,a,a',b,b',x,h1,h2,h=>by
  have h':510<Tr.sz k (its a)+Tr.sz k (its b)+(if k=0 then 0 else x.length):=h
  show 510<Tr.sz k (its a')+Tr.sz k (its b')+(if k=0 then 0 else x.length)
  rw[←h1.sz,←h2.sz]
  exact h'
theorem lH.seg {k:Nat} {h:Option Tx} (hO:∀{lo:Tx} {u:Option Tx} {a b:E k},Sm k a b→Ok k lo u a→Ok k lo u b):∀{a b:List (Tx×E k)},lH (Sm k) a b→cV (Ok k) (Tr.cut k) h a→cV (Ok k) (Tr.cut k) h b
 |[],[],_,_=>trivial
 |[x],[y],hs,s=>by
  have s1:Ok k x.1 h x.2:=s
  show Ok k y.1 h y.2
  rw[←hs.1.1]
  exact hO hs.1.2 s1
 |x::x2::a,y::y2::b,hs,s=>by
  obtain⟨s1,s2,s3⟩:=s
  refine⟨?_, ?_,lH.seg hO hs.2 s3⟩
  ·rw[←hs.1.1,←hs.2.1.1];exact hO hs.1.2 s1
  ·rw[←hs.1.1,←hs.2.1.1];exact⟨s2.1,s2.2.1,Sm.cut hs.1.2 hs.2.1.2 s2.2.2⟩
 |[],_::_,h,_=>h.elim
 |_::_,[],h,_=>h.elim
 |[_],_::_::_,h,_=>h.2.elim
 |_::_::_,[_],h,_=>h.2.elim
theorem lH.bA {α:Type} {R:α→α→Prop} (x:Tx):∀{a b:List (Tx×α)},lH R a b→lH R (bA x a) (bA x b)
 |[],[],_=>trivial
 |_::_,_::_,h=>⟨⟨rfl,h.1.2⟩,h.2⟩
 |[],_::_,h=>h.elim
 |_::_,[],h=>h.elim
theorem lH.qT {k:Nat} {lo:Tx} {a b:List (Tx×E k)} (h:lH (Sm k) a b):lH (Sm k) (qT k lo a) (qT k lo b):=by
 unfold Tr.qT
 split
 ·exact h
 ·exact h.bA lo
theorem lH.head {k:Nat} {lo:Tx} {a b:List (Tx×E k)} (h:lH (Sm k) a b) (hh:Head k lo a):Head k lo b:=by
 intro p hp
 match a,b,h with
 |[],[],_=>cases hp
 |x::a,y::b,h=>
  cases hp
  have:=hh x rfl
  rw[h.1.1] at this
  exact this
 |[],_::_,h=>exact h.elim
 |_::_,[],h=>exact h.elim
theorem Sm.ok:∀{k:Nat} {lo:Tx} {u:Option Tx} {a b:E k},Sm k a b→Ok k lo u a→Ok k lo u b
 |0,_,_,_,_,h,o=>by cases h;exact o
 |k+1,lo,u,a,b,h,o=>by
  obtain⟨o1,o2,o3,o4⟩:=o
  refine⟨fun e=>o1 (ef.1 (by rw[lH.len h,e];rfl)),by rw[←h.sz];exact o2,lH.head h o3,lH.seg (fun hs ho=>Sm.ok hs ho) (lH.qT h) o4⟩
theorem Sm.cons {k:Nat} {h h':Hd} {l l':List (Tx×E k)} (hs:lH (Sm k) l l'):Sm (k+1) (mk h l) (mk h' l'):=hs
def cnt:(k:Nat)→E k→Nat
 |0,_=>0
 |k+1,n=>1+((its n).map fun p=>cnt k p.2).sum
theorem zC:∀(k:Nat) (n:E k),cnt k n=(b8 k n).length+eT k n
 |0,_=>rfl
 |k+1,n=>by
  have h1:∀l:List (Tx×E k),(l.map fun p=>cnt k p.2).sum=(dI k l).length+jP k l:=by
   intro l
   induction l with
   |nil=>rfl
   |cons x l ih=>rw[bH,jJ,ih,zC k x.2,fI,ew,aq];omega
  show 1+_=_
  rw[h1,bp,bR,aq]
  cases (hd n).page with
  |none=>simp;omega
  |some x=>simp;omega
end Tr
section
open Go.RowKit Lib
section
variable {pg cP:List (Option Wl.Text)} {M M':Nat→Option NV}
theorem nS {k:Nat} {x:Nat} {p:Tr.Tx×Tr.E k} {l:List (Tr.Tx×Tr.E k)} (hp:p∈l) (hx:x∈Tr.b8 k p.2):x∈Tr.dI k l:=List.mem_flatMap.2 ⟨p,hp,hx⟩
theorem eY:∀{k:Nat} {t:Tr.E k},cK pg k t→(∀x∈Tr.b8 k t,cP.getD x none=pg.getD x none)→cK cP k t
 |0,_,_,_=>trivial
 |k+1,t,h,hs=>by
  obtain⟨⟨page,hp,hlt,wP⟩,hf,hk⟩:=h
  refine⟨⟨page,hp,hlt, ?_⟩,hf,fun p hm=>eY (hk p hm) fun x hx=>hs x ?_⟩
  ·rw[hs page (by rw[Tr.bp,hp];exact aA)]
   exact wP
  ·rw[Tr.bp]
   exact ah.2 (.inr (nS hm hx))
theorem vw {k:Nat} {n:NV} {t:Tr.E (k+1)} (o:jU pg k n t) (hs:∀x∈Tr.b8 (k+1) t,cP.getD x none=pg.getD x none):jU cP k n t:=by
 refine⟨o.level,o.page,o.fresh,o.near,fun hf=> ?_⟩
 obtain⟨page,hp,hlt,wP,hr⟩:=o.held hf
 exact⟨page,hp,hlt,by rw[hs page (by rw[Tr.bp,hp];exact aA)];exact wP,hr⟩
theorem vA {k:Nat} {R R':Nat→Tr.E (k+1)→List Nat→Prop}:∀{is:List It} {xs:List (Tr.Tx×Tr.E (k+1))} {fs:List (List Nat)},aX pg k R is xs fs→(∀x∈Tr.dI (k+1) xs,cP.getD x none=pg.getD x none)→(∀q c f,f∈fs→R q c f→(∀x∈Tr.b8 (k+1) c,cP.getD x none=pg.getD x none)→R' q c f)→aX cP k R' is xs fs
 |[],[],[],_,_,_=>trivial
 |i::is,x::xs,f::fs,h,hs,hR=>by
  rw[Tr.fI] at hs
  refine⟨⟨h.1.1,h.1.2.1, ?_⟩,vA h.2 (fun y hy=>hs y (ah.2 (.inr hy))) fun q c g hg=>hR q c g (aF _ hg)⟩
  rcases h.1.2.2 with⟨h1,h2,h3,h4⟩|⟨q,hq,hr⟩
  ·grind [eY]
  ·grind
 |[],[],_::_,h,_,_=>h.elim
 |[],_::_,_,h,_,_=>h.elim
 |_::_,[],_,h,_,_=>h.elim
 |_::_,_::_,[],h,_,_=>h.elim
theorem yd:∀{k p:Nat} {t:Tr.E (k+1)} {F:List Nat},dx M pg k p t F→(∀q∈F,M' q=M q)→(∀x∈Tr.b8 (k+1) t,cP.getD x none=pg.getD x none)→dx M' cP k p t F
 |0,p,t,F,⟨n,h1,h2,h3,h4⟩,hF,hs=>⟨n,by rw[hF p (by rw[h4];exact aA)];exact h1,vw h2 hs,h3,h4⟩
 |k+1,p,t,F,⟨n,fs,h1,h2,h3,h4⟩,hF,hs=>⟨n,fs,by rw[hF p (by rw[h4];exact aA)];exact h1,vw h2 hs,vA h3 (fun x hx=>hs x (by rw[Tr.bp];exact ah.2 (.inr hx))) (fun _ _ f hf hr hx=>yd hr (fun q hq=>hF q (by rw[h4];exact aF _ (List.mem_flatten.2 ⟨f,hf,hq⟩))) hx),h4⟩
structure iq (pg cP:List (Option Wl.Text)) (Ku al:List Nat):Prop where
 len:cP.length=pg.length
 same:∀x,x∉Ku→cP.getD x none=pg.getD x none
 jX:∀x,x∈Ku∨x∈al→(cP.getD x none).isSome=true
 free:∀x∈al,pg.getD x none=none∧x<pg.length
 nd:al.Nodup
 used:Rm.used cP=Rm.used pg+al.length
theorem iq.refl (pg:List (Option Wl.Text)):iq pg pg [] []:=⟨rfl,fun _ _=>rfl,fun _ h=>(by rcases h with h|h<;>cases h),fun _ h=>(by cases h),List.nodup_nil,rfl⟩
theorem iq.trans {mK:List (Option Wl.Text)} {t1 t2 a1 a2:List Nat} (h1:iq pg cP t1 a1) (h2:iq cP mK t2 a2):iq pg mK (t1++t2) (a1++a2):=by
 have hn:∀x∈a2,x∉t1∧x∉a1:=fun x hx=>by
  have h:=(h2.free x hx).1
  refine⟨fun hm=> ?_,fun hm=> ?_⟩
  ·have:=h1.jX x (.inl hm);rw[h] at this;cases this
  ·have:=h1.jX x (.inr hm);rw[h] at this;cases this
 have hs:∀x,(cP.getD x none).isSome=true→(mK.getD x none).isSome=true:=fun x hx=>by
  by_cases e:x∈t2
  ·exact h2.jX x (.inl e)
  ·rw[h2.same x e];exact hx
 refine⟨h2.len.trans h1.len,fun x hx=> ?_,fun x hx=> ?_,fun x hx=> ?_,aL.2 ⟨h1.nd,h2.nd,fun x hx y hy e=> ?_⟩, ?_⟩
 ·rw[h2.same x fun h=>hx (ah.2 (.inr h)),h1.same x fun h=>hx (ah.2 (.inl h))]
 ·rcases hx with hx|hx
  ·rcases ah.1 hx with hx|hx
   ·exact hs x (h1.jX x (.inl hx))
   ·exact h2.jX x (.inl hx)
  ·rcases ah.1 hx with hx|hx
   ·exact hs x (h1.jX x (.inr hx))
   ·exact h2.jX x (.inr hx)
 ·rcases ah.1 hx with hx|hx
  ·exact h1.free x hx
  ·have:=h2.free x hx
   rw[h1.same x (hn x hx).1,h1.len] at this
   exact this
 ·grind
 ·rw[h2.used,h1.used,aq];omega
theorem iq.keeps {Ku al:List Nat} (h:iq pg cP Ku al) {x:Nat} (hx:(pg.getD x none).isSome=true):(cP.getD x none).isSome=true:=by
 by_cases e:x∈Ku
 ·exact h.jX x (.inl e)
 ·rw[h.same x e];exact hx
theorem vB:∀{pg:List (Option Wl.Text)} {p:Nat} {o:Option Wl.Text},p<pg.length→Rm.used (pg.set p o)+(if (pg.getD p none).isSome then 1 else 0)=Rm.used pg+(if o.isSome then 1 else 0)
 |[],_,_,h=>by cases h
 |a::pg,0,o,_=>by
  show Rm.used (o::pg)+(if a.isSome then 1 else 0)=_
  unfold Rm.used
  cases a<;>cases o<;>simp
 |a::pg,p+1,o,h=>by
  have ih:=vB (pg:=pg) (p:=p) (o:=o) (by simpa using h)
  show Rm.used (a::pg.set p o)+(if (pg.getD p none).isSome then 1 else 0)=_
  unfold Rm.used at ih ⊢
  cases a<;>simp only[cS,Option.isSome] at ih ⊢<;>simp at ih ⊢<;>omega
theorem nw {pg:List (Option Wl.Text)} {p x:Nat} {o:Option Wl.Text} (hp:p<pg.length):(pg.set p o).getD x none=if x=p then o else pg.getD x none:=Rm.dx.dG pg p x o none hp
theorem iq.one {p:Nat} {t:Wl.Text} (hp:p<pg.length):iq pg (pg.set p (some t)) [p] (if (pg.getD p none).isSome then [] else [p]):=by
 have hu:=vB (pg:=pg) (p:=p) (o:=some t) hp
 refine⟨bP,fun x hx=> ?_,fun x hx=> ?_,fun x hx=> ?_, ?_, ?_⟩
 ·grind
 ·grind
 ·simp_all
 ·grind
 ·grind
end
structure Yd (sb p tb rb L rg ro cap:Nat) (P:Nat→World→Prop) (Z:Nat→World→Prop) (G:Int→World→Prop):Prop where
 cells:∀j X,P j X→X.cell? ⟨p,1,none⟩=some (.slice (some ⟨rg,ro,none⟩) L cap)
 item:∀j X,P j X→j<L→∃i:It,uK X rg ro j i∧(i.node=none→∀V,Below X.heap.size X V→P (j+1) V)∧
  ∀q,i.node=some q→∀V ib,Below X.heap.size X V→X.heap.size≤ib→ib<V.heap.size→Calls Tryz.prog 139 #[ptr sb,ptr q] V fun e X'=>
   (∃page:Nat,e=.returned (.int .i64 0)∧(∀o v,V.cell? ⟨ib,o,none⟩=some v→X'.cell? ⟨ib,o,none⟩=some v)∧X'.cell? ⟨p,1,none⟩=some (.slice (some ⟨rg,ro,none⟩) L cap)∧X'.cell? ⟨q,2,none⟩=some (.int .i64 page)∧page<65536∧(∃v,X'.cell? ⟨rg,ro+j*3+1,none⟩=some v)∧(∀W,Below X'.heap.size X' W→W.frozen? ⟨rg,ro+j*3+1,none⟩=false)∧
    ∀W,Below X'.heap.size X' W→P (j+1) (W.setCell ⟨rg,ro+j*3+1,none⟩ (.string (bs (pv page)))))∨
   (∃c:Int,e=.returned (.int .i64 c)∧c≠0∧G c X')
 fresh:∀X,P L X→∃f,X.cell? ⟨p,7,none⟩=some (.bool f)∧(f=false→G 0 X)∧
  (f=true→∃pg:Int,X.cell? ⟨p,2,none⟩=some (.int .i64 pg)∧((pg=-1∧Calls Tryz.prog 180 #[ptr sb] X fun e X'=>(∃page:Nat,e=.returned (.tuple #[.int .i64 page,.int .i64 0])∧(∃v,X'.cell? ⟨p,2,none⟩=some v)∧X'.frozen? ⟨p,2,none⟩=false∧Z page (X'.setCell ⟨p,2,none⟩ (.int .i64 page)))∨(∃v c:Int,e=.returned (.tuple #[.int .i64 v,.int .i64 c])∧c≠0∧G c X'))∨∃page:Nat,pg=page∧Z page X))
 write:∀page X,Z page X→X.cell? ⟨sb,0,none⟩=some (.pointer (some ⟨tb,0,none⟩))∧X.cell? ⟨tb,0,none⟩=some (.pointer (some ⟨rb,0,none⟩))∧X.cell? ⟨p,2,none⟩=some (.int .i64 page)∧∃txt:ByteArray,
  (∀V,Below X.heap.size X V→Calls Tryz.prog 182 #[ptr p] V fun e V'=>e=.returned (.string txt)∧Below V.heap.size V V')∧∀V,Below X.heap.size X V→Calls Tryz.prog 181 #[ptr rb,.int .i64 page,.string txt] V fun e X'=>∃c:Int,e=.returned (.int .i64 c)∧G c X'∧X'.cell? ⟨sb,0,none⟩=some (.pointer (some ⟨tb,0,none⟩))∧X'.cell? ⟨tb,0,none⟩=some (.pointer (some ⟨rb,0,none⟩))∧X'.cell? ⟨p,2,none⟩=some (.int .i64 page)
section
variable {w:World} {p sb tb rb:Nat}
theorem vC {L rg ro cap:Nat} {P Z:Nat→World→Prop} {G:Int→World→Prop} (hW:Yd sb p tb rb L rg ro cap P Z G) (hP:P 0 w) (hL:L≤400) (IB:L≤cap):
  Calls Tryz.prog 139 #[ptr sb,ptr p] w fun e w'=>∃c:Int,e=.returned (.int .i64 c)∧G c w':=by
 have HW:=aa hW
 have HP:=aa hP
 have c1:=hW.cells 0 _ hP
 have Dl:(L:Int)≤400:=by omega
 have Cm:(L:Int)≤cap:=by omega
 clear hW hP hL IB
 unfold ptr at HW ⊢
 go_enter Tryz.func139,Tryz.ntmps139
 go_wp2_with fail
 go_loopw [5,6,7,15] (fun _ _ _ kv wr=>∃j:Nat,j≤L∧kv=.int .i64 j∧Hid (P j wr)) (fun _ _ _ kv _=>L-(RowKit.intOf kv).toNat)
 case atStart=>exact⟨0,aC _,rfl,HP⟩
 case round=>
  clear c1
  obtain⟨j,hj,rfl,hPj⟩:=hrel
  by_cases hlt:j<L
  ·have hI:(j:Int)<L:=by omega
   obtain⟨i,hit,hnone,hsome⟩:=HW.o.item j _ hPj.o hlt
   have a0:=hit.key
   have a1:=hit.val
   have a2:=hit.node
   have ND:=aa hnone
   have HSO:=aa hsome
   clear hnone hsome
   obtain⟨W1,jQ⟩:∃W1,W1=wr.alloc (.cells #[.string (bs i.key),.string (bs i.val),.pointer (pa i.node)] 122):=⟨_,rfl⟩
   obtain⟨ib,hib⟩:∃ib,ib=wr.heap.size:=⟨_,rfl⟩
   have k2:W1.cell? ⟨ib,2,none⟩=some (.pointer (pa i.node)):=by rw[jQ,hib];exact (aS.new wr _ _).cell rfl
   have hbW:Below wr.heap.size wr W1:=by rw[jQ];exact (Below.refl _ wr).alloc (af _) _
   have OX:=aa (show Below wr.heap.size wr W1∧wr.heap.size≤ib∧ib<W1.heap.size from⟨hbW,by omega,by rw[jQ,hib];simp[bk]⟩)
   clear hbW
   cases hn:i.node with
   |none=>
    rw[hn] at a2 k2 jQ
    have HD:=aa (ND.o hn _ OX.o.1)
    generalize bs i.key=kb at*
    generalize bs i.val=vb at*
    rw[show pa none=none from rfl] at a2 k2 jQ
    go_wp2_with fail
    exact⟨⟨j+1,hlt,by go_num,by rw[←jQ];exact HD⟩,by simp[RowKit.intOf];omega⟩
   |some q=>
    rw[hn] at a2 k2 jQ
    have IE:=aa (HSO.o q hn W1 ib OX.o.1 OX.o.2.1 OX.o.2.2)
    generalize bs i.key=kb at*
    generalize bs i.val=vb at*
    rw[show pa (some q)=some ⟨q,0,none⟩ from rfl] at a2 k2 jQ
    go_wp2_with fail
    rw[←jQ,←hib]
    refine IE.o.mono ?_
    rintro e w3 (⟨page,rfl,kx,d1,dq,nP,⟨v1,d4⟩,fz,hPN⟩|⟨c,rfl,hc,hG⟩)
    ·have k2:=kx 2 _ k2
     have GY:=aa hPN
     have HF:=aa (And.intro nP (And.intro (bt _ _ d1) (And.intro (bt _ _ d4) fz)))
     clear kx hPN fz a0 a1 a2 jQ hib
     go_wp2_with fail
     go_wp2_with (refine wp_region_any (by kernel_rfl) ?_;refine Hid.o ?_)
     refine aa ?_
     try (change wpAny _ _ _ _ _ _ _ (bD _))
     refine tk 0 ?_
     refine tk 1 ?_
     refine tk 2 ?_
     refine tk 4 ?_
     refine tk 5 ?_
     try simp only[Act.put,az,ay,au]
     refine rd [3,6] (AllReady.cons rfl (fun K hK=> ?_) (rn fun K hK=> ?_))
     focus
      go_simp
      refine hK _ _ ?_;clear hK K
      refine rd [6] (rn fun K hK=> ?_)
      go_simp
      refine hK _ _ ?_;clear hK K
      refine rd [7] (rn fun K hK=> ?_)
      go_simp
      refine hK _ _ ?_;clear hK K
      refine rd [8] (rn fun K hK=> ?_)
      go_simp
      refine hK _ _ ?_;clear hK K
      refine rd [9] (rn fun K hK=> ?_)
      go_simp
      refine hK _ _ ?_;clear hK K
      refine rd [10] (rn fun K hK=> ?_)
      go_simp
      refine (fJ _ page HF.o.1).mono ?_
      rintro e w5 ⟨rfl,dX⟩
      have dX:Below w3.heap.size w3 w5:=((Below.refl w3.heap.size w3).drew).trans dX
      have d1:=(dX.cell HF.o.2.1).trans d1
      have d4:=(dX.cell HF.o.2.2.1).trans d4
      have fz:=HF.o.2.2.2 _ dX
      have GY:=aa (GY.o _ dX)
      clear dX
      refine hK _ _ ?_;clear hK K
     rotate_left
     focus
      go_simp
      refine hK _ _ ?_;clear hK K
      refine rd [3,7] (AllReady.cons rfl (fun K hK=> ?_) (rn fun K hK=> ?_))
      focus
       go_simp
       refine hK _ _ ?_;clear hK K
       refine rd [7] (rn fun K hK=> ?_)
       go_simp
       refine hK _ _ ?_;clear hK K
       refine rd [8] (rn fun K hK=> ?_)
       go_simp
       refine hK _ _ ?_;clear hK K
       refine rd [9] (rn fun K hK=> ?_)
       go_simp
       refine hK _ _ ?_;clear hK K
       refine rd [10] (rn fun K hK=> ?_)
       go_simp
       refine (fJ _ page HF.o.1).mono ?_
       rintro e w5 ⟨rfl,dX⟩
       have dX:Below w3.heap.size w3 w5:=((Below.refl w3.heap.size w3).drew).trans dX
       have d1:=(dX.cell HF.o.2.1).trans d1
       have d4:=(dX.cell HF.o.2.2.1).trans d4
       have fz:=HF.o.2.2.2 _ dX
       have GY:=aa (GY.o _ dX)
       clear dX
       refine hK _ _ ?_;clear hK K
      rotate_left
      focus
       go_simp
       refine hK _ _ ?_;clear hK K
       refine rd [3,8] (AllReady.cons rfl (fun K hK=> ?_) (rn fun K hK=> ?_))
       focus
        go_simp
        refine hK _ _ ?_;clear hK K
        refine rd [8] (rn fun K hK=> ?_)
        go_simp
        refine hK _ _ ?_;clear hK K
        refine rd [9] (rn fun K hK=> ?_)
        go_simp
        refine hK _ _ ?_;clear hK K
        refine rd [10] (rn fun K hK=> ?_)
        go_simp
        refine (fJ _ page HF.o.1).mono ?_
        rintro e w5 ⟨rfl,dX⟩
        have dX:Below w3.heap.size w3 w5:=((Below.refl w3.heap.size w3).drew).trans dX
        have d1:=(dX.cell HF.o.2.1).trans d1
        have d4:=(dX.cell HF.o.2.2.1).trans d4
        have fz:=HF.o.2.2.2 _ dX
        have GY:=aa (GY.o _ dX)
        clear dX
        refine hK _ _ ?_;clear hK K
       rotate_left
       focus
        go_simp
        refine hK _ _ ?_;clear hK K
        refine rd [3,9] (AllReady.cons rfl (fun K hK=> ?_) (rn fun K hK=> ?_))
        focus
         go_simp
         refine hK _ _ ?_;clear hK K
         refine rd [9] (rn fun K hK=> ?_)
         go_simp
         refine hK _ _ ?_;clear hK K
         refine rd [10] (rn fun K hK=> ?_)
         go_simp
         refine (fJ _ page HF.o.1).mono ?_
         rintro e w5 ⟨rfl,dX⟩
         have dX:Below w3.heap.size w3 w5:=((Below.refl w3.heap.size w3).drew).trans dX
         have d1:=(dX.cell HF.o.2.1).trans d1
         have d4:=(dX.cell HF.o.2.2.1).trans d4
         have fz:=HF.o.2.2.2 _ dX
         have GY:=aa (GY.o _ dX)
         clear dX
         refine hK _ _ ?_;clear hK K
        rotate_left
        focus
         go_simp
         refine hK _ _ ?_;clear hK K
         refine rd [3,10] (AllReady.cons rfl (fun K hK=> ?_) (rn fun K hK=> ?_))
         focus
          go_simp
          refine hK _ _ ?_;clear hK K
          refine rd [10] (rn fun K hK=> ?_)
          go_simp
          refine (fJ _ page HF.o.1).mono ?_
          rintro e w5 ⟨rfl,dX⟩
          have dX:Below w3.heap.size w3 w5:=((Below.refl w3.heap.size w3).drew).trans dX
          have d1:=(dX.cell HF.o.2.1).trans d1
          have d4:=(dX.cell HF.o.2.2.1).trans d4
          have fz:=HF.o.2.2.2 _ dX
          have GY:=aa (GY.o _ dX)
          clear dX
          refine hK _ _ ?_;clear hK K
         rotate_left
         focus
          go_simp
          refine (fJ _ page HF.o.1).mono ?_
          rintro e w5 ⟨rfl,dX⟩
          have dX:Below w3.heap.size w3 w5:=((Below.refl w3.heap.size w3).drew).trans dX
          have d1:=(dX.cell HF.o.2.1).trans d1
          have d4:=(dX.cell HF.o.2.2.1).trans d4
          have fz:=HF.o.2.2.2 _ dX
          have GY:=aa (GY.o _ dX)
          clear dX
          refine hK _ _ ?_;clear hK K
          refine rd [3] (rn fun K hK=> ?_)
          go_simp
          refine hK _ _ ?_;clear hK K
     all_goals
      try simp only[Act.put,az,ay,au]
      refine tk 11 ?_
      refine tk 12 ?_
      refine tk 13 ?_
      try simp only[Act.put,az,ay,au]
      refine rd [14] (rn fun K hK=> ?_)
      go_simp
      refine hK _ _ ?_;clear hK K
      refine wpAny_done (by kernel_rfl) ?_ _
      go_wp2_with fail
      go_roundw
      case rel=>exact⟨j+1,hlt,by go_num,GY⟩
      case measure=>simp[RowKit.intOf];omega
    ·have HG:=aa hG
     have rE:(c !=0)=true:=by simpa using hc
     clear hG a0 a1 a2 k2 jQ hib
     go_wp2_with fail
     go_ret
     exact⟨c,rfl,HG.o⟩
  ·obtain rfl:j=L:=by omega
   have hI:¬(j:Int)<j:=by omega
   obtain⟨f,d7,Sd,VI⟩:=HW.o.fresh _ hPj.o
   cases f with
   |false=>
    have HG:=aa (Sd rfl)
    clear Sd VI
    go_wp2_with fail
    go_ret
    exact⟨0,rfl,HG.o⟩
   |true=>
    obtain⟨pg,d2,⟨rfl,ht⟩|⟨page,rfl,hz⟩⟩:=VI rfl
    ·have HT:=aa ht
     clear Sd VI ht
     go_wp2_with fail
     refine HT.o.mono ?_
     rintro e w3 (⟨page,rfl,⟨v2,d2'⟩,f2,hz⟩|⟨v,c,rfl,hc,hG⟩)
     ·obtain⟨X1,Gk⟩:∃X1,X1=w3.setCell ⟨p,2,none⟩ (.int .i64 page):=⟨_,rfl⟩
      rw[←Gk] at hz
      have HZ:=aa hz
      have GZ:=aa ((Below.refl X1.heap.size X1).drew)
      clear hz d2 d7
      go_wp2_with fail
      rw[←Gk]
      clear Gk d2' f2
      obtain⟨s0,t0,d2,txt,hpt,hwr⟩:=HW.o.write _ _ HZ.o
      have pM:=aa hpt
      have RI:=aa hwr
      have dJ:=aa (And.intro (bt _ _ s0) (And.intro (bt _ _ t0) (bt _ _ d2)))
      clear hpt hwr
      go_wp2_with fail
      go_wp2_with (refine wp_region_held_drew (S:=(fun X=>X.cell? ⟨sb,0,none⟩=some (.pointer (some ⟨tb,0,none⟩))∧X.cell? ⟨tb,0,none⟩=some (.pointer (some ⟨rb,0,none⟩))∧X.cell? ⟨p,2,none⟩=some (.int .i64 page))) (by kernel_rfl) ?_ (fun aD=> ?_);focus skip;rotate_left;refine Hid.o ?_)
      refine aa ?_
      ·first|trivial|exact⟨s0,t0,d2⟩
      refine aU 0 aD ?_
      refine aU 1 aD ?_
      refine aU 2 aD ?_
      refine aU 3 aD ?_
      refine aU 4 aD ?_
      refine aU 5 aD ?_
      refine aU 6 aD ?_
      refine aU 7 aD ?_
      refine aU 8 aD ?_
      refine aU 9 aD ?_
      refine aU 10 aD ?_
      refine aU 11 aD ?_
      try simp only[Act.put,az,ay,au]
      refine iL [12] (iM fun K hK=> ?_)
      go_simp
      refine (pM.o _ GZ.o).mono ?_
      rintro e w6 ⟨rfl,yQ⟩
      have z6:=aa (GZ.o.trans (yQ.mono GZ.o.size))
      refine hK.out _ _ ⟨(z6.o.cell dJ.o.1).trans s0,(z6.o.cell dJ.o.2.1).trans t0,(z6.o.cell dJ.o.2.2).trans d2⟩ (fun aD=> ?_);clear hK K yQ
      refine iL [13] (iM fun K hK=> ?_)
      go_simp
      refine (RI.o _ z6.o).mono ?_
      rintro e w7 ⟨c,rfl,hG,s0',t0',d2'⟩
      have HG:=aa hG
      refine hK.out _ _ ⟨s0',t0',d2'⟩ (fun aD=> ?_);clear hK K hG
      refine aU 14 aD ?_
      refine wpAnyH_done (by kernel_rfl) ?_ _
      go_wp2_with fail
      go_ret
      exact⟨c,rfl,HG.o⟩
     ·have HG:=aa hG
      have rE:(c !=0)=true:=by simpa using hc
      clear hG
      go_wp2_with fail
      go_ret
      exact⟨c,rfl,HG.o⟩
    ·have HZ:=aa hz
     clear Sd VI hz
     have hne:((page:Int)==-1)=false:=by rw[beq_eq_false_iff_ne];omega
     have GZ:=aa ((Below.refl wr.heap.size wr).drew)
     go_wp2_with fail
     clear d2 d7
     obtain⟨s0,t0,d2,txt,hpt,hwr⟩:=HW.o.write _ _ HZ.o
     have pM:=aa hpt
     have RI:=aa hwr
     have dJ:=aa (And.intro (bt _ _ s0) (And.intro (bt _ _ t0) (bt _ _ d2)))
     clear hpt hwr
     go_wp2_with fail
     go_wp2_with (refine wp_region_held_drew (S:=(fun X=>X.cell? ⟨sb,0,none⟩=some (.pointer (some ⟨tb,0,none⟩))∧X.cell? ⟨tb,0,none⟩=some (.pointer (some ⟨rb,0,none⟩))∧X.cell? ⟨p,2,none⟩=some (.int .i64 page))) (by kernel_rfl) ?_ (fun aD=> ?_);focus skip;rotate_left;refine Hid.o ?_)
     refine aa ?_
     ·first|trivial|exact⟨s0,t0,d2⟩
     refine aU 0 aD ?_
     refine aU 1 aD ?_
     refine aU 2 aD ?_
     refine aU 3 aD ?_
     refine aU 4 aD ?_
     refine aU 5 aD ?_
     refine aU 6 aD ?_
     refine aU 7 aD ?_
     refine aU 8 aD ?_
     refine aU 9 aD ?_
     refine aU 10 aD ?_
     refine aU 11 aD ?_
     try simp only[Act.put,az,ay,au]
     refine iL [12] (iM fun K hK=> ?_)
     go_simp
     refine (pM.o _ GZ.o).mono ?_
     rintro e w6 ⟨rfl,yQ⟩
     have z6:=aa (GZ.o.trans (yQ.mono GZ.o.size))
     refine hK.out _ _ ⟨(z6.o.cell dJ.o.1).trans s0,(z6.o.cell dJ.o.2.1).trans t0,(z6.o.cell dJ.o.2.2).trans d2⟩ (fun aD=> ?_);clear hK K yQ
     refine iL [13] (iM fun K hK=> ?_)
     go_simp
     refine (RI.o _ z6.o).mono ?_
     rintro e w7 ⟨c,rfl,hG,s0',t0',d2'⟩
     have HG:=aa hG
     refine hK.out _ _ ⟨s0',t0',d2'⟩ (fun aD=> ?_);clear hK K hG
     refine aU 14 aD ?_
     refine wpAnyH_done (by kernel_rfl) ?_ _
     go_wp2_with fail
     go_ret
     exact⟨c,rfl,HG.o⟩
end
section
variable {w:World} {sb tb:Nat} {l:List Int} {x:Int}
def NF (w:World) (sb tb g:Nat) (x:Int) (l:List Int) (e:Ending) (w':World):Prop:=
 e=.returned (.tuple #[.int .i64 x,.int .i64 0])∧∃o c,aS w' sb 169 [ptr tb,.slice (some ⟨g,o,none⟩) l.length c]∧l.length≤c∧a_ (fP .i64) w' g o l∧aE (fun k=>k=sb) w w'
theorem DL {g o c:Nat} (hs:aS w sb 169 [ptr tb,.slice (some ⟨g,o,none⟩) (x::l).length c]) (hc:(x::l).length≤c) (hl:a_ (fP .i64) w g o (x::l)) (hg:g≠sb) (hm:l.length≤1000000):
  Calls Tryz.prog 180 #[ptr sb] w fun e w'=>NF w sb tb g x l e w':=by
 have c1:=hs.cell (j:=1) rfl
 have f1:=hs.frozen 1
 have i0:w.cell? ⟨g,o,none⟩=some (.int .i64 x):=hl 0 _ rfl
 have xz:a_ (fP .i64) w g (o+1) l:=by
  have:=hl.part 1 l.length (by simp only[aW];omega)
  rw[Nat.one_mul,List.drop_one,List.tail_cons,List.take_length] at this
  exact this
 obtain⟨L,hL⟩:∃L,L=l.length:=⟨_,rfl⟩
 have HL:=aa (And.intro hs (And.intro xz (And.intro hg hL)))
 rw[aW,←hL] at c1 hc
 have h1:(1:Int)≤(L:Int)+1:=by omega
 have h0:(0:Int)<(L:Int)+1:=by omega
 have hz:(((L:Int)+1)==0)=false:=by rw[beq_eq_false_iff_ne];omega
 have Dl:(L:Int)≤1000000:=by omega
 clear hs hl xz hg hL hm
 go_enter Tryz.func180,Tryz.ntmps180
 unfold ptr
 by_cases hc1:c=1
 ·subst hc1
  go_wp2_with fail
  go_ret2
  obtain⟨h1,h2,h3,h4⟩:=HL.o
  obtain rfl:l=[]:=List.eq_nil_of_length_eq_zero (by omega)
  exact⟨rfl,o,0,h1.set 1 _,af _,fun j u hu=>by simp[Elem.cells] at hu,(aE.refl (fun k=>k=sb) w).setCell _ _ fun _=>rfl⟩
 ·go_wp2_with fail
  go_ret2
  obtain⟨h1,h2,h3,h4⟩:=HL.o
  have hb:aE (fun k=>k=sb) w (w.setCell ⟨sb,1,none⟩ (.slice (some ⟨g,o+1,none⟩) L (c-1))):=(aE.refl (fun k=>k=sb) w).setCell _ _ fun _=>rfl
  exact⟨rfl,o+1,c-1,by rw[←h4];exact h1.set 1 _,by omega,h2.but hb h3,hb⟩
end
section
variable {E:Ev} {X0 X:World} {R0 R:Nat→Prop} {ps:List (Nat×List UInt8)} {pg:List (Option Wl.Text)} {rt:List Nat} {M:Nat→Option NV}
def Kv (E:Ev) (R:Nat→Prop) (ps:List (Nat×List UInt8)) (pg:List (Option Wl.Text)) (rt:List Nat) (X:World) (e:Ending) (X':World):Prop:=
 e=.returned (.tuple #[.int .i64 (Rm.alloc pg).1,.int .i64 (Rm.alloc pg).2])∧yV R E.ring E.g E.N E.lb E.xb E.rb E.H ps (Rm.kf pg) rt X X'
theorem DM (h:TS E X0 R0 R ps pg rt M X) {sb c:Nat} {a:Option Addr} (hs:aS X sb 169 [ptr E.tb,.slice a 0 c]) (hq:ps.length≤80000000):
  Calls Tryz.prog 180 #[ptr sb] X fun e X'=>Kv E R ps pg rt X e X':=by
 have c0:=hs.cell (j:=0) rfl
 have c1:=hs.cell (j:=1) rfl
 have t0:=h.tree.cell (j:=0) rfl
 have HC:=aa (De h.rm hq)
 clear h hs
 go_enter Tryz.func180,Tryz.ntmps180
 unfold ptr at c0 t0 ⊢
 go_wp2_with fail
 refine HC.o.mono ?_
 rintro e w2 ⟨rfl,hd⟩
 have HD:=aa hd
 clear hd
 go_wp2_with fail
 go_ret2
 exact⟨rfl,HD.o⟩
end
section
variable {E:Ev} {X0 X X' V:World} {R0 R R' S:Nat→Prop} {ps ps':List (Nat×List UInt8)} {pg cP:List (Option Wl.Text)} {rt:List Nat} {M M':Nat→Option NV} {k p q sb:Nat} {n m:NV} {sv:Value} {l:List Int} {x:Int}
structure SW (E:Ev) (X0:World) (R0 R:Nat→Prop) (ps:List (Nat×List UInt8)) (pg:List (Option Wl.Text)) (rt:List Nat) (M:Nat→Option NV) (X:World) (sb:Nat) (l:List Int):Prop where
 ts:TS E X0 R0 R ps pg rt M X
 tF:R sb∧X0.heap.size≤sb∧¬MB M sb
 sp:∃a c,aS X sb 169 [ptr E.tb,.slice a l.length c]∧l.length≤c∧(l≠[]→∃g o,a=some ⟨g,o,none⟩∧a_ (fP .i64) X g o l∧R g∧¬MB M g∧g≠sb)
theorem SS.sw (h:SS E X0 R0 R ps pg rt M X sb sv l):SW E X0 R0 R ps pg rt M X sb l:=by
 refine⟨h.ts,h.tF, ?_⟩
 obtain⟨a,c,rfl,hc⟩:=Own.slice h.sp
 refine⟨a,c,h.blk,hc,fun hl=> ?_⟩
 obtain⟨g,c',hv,-,-,-⟩:=Own.form h.sp (ej.2 hl)
 have ha:a=some ⟨g,0,none⟩:=by injection hv
 subst ha
 have hg:=h.Nk g rfl
 exact⟨g,0,rfl,Own.lies h.sp,hg.1,hg.2.2,fun e=>Own.cY h.sp h.blk (by decide) (by rw[←e];rfl)⟩
theorem SW.Ye (h:SW E X0 R0 R ps pg rt M X sb l):sb<X.heap.size:=h.ts.Gg sb h.tF.1
theorem SW.step (h:SW E X0 R0 R ps pg rt M X sb l) (ht:TS E X0 R0 R' ps' cP rt M' X') (hb:aE S X X') (hS:∀b,R b→S b→MB M b) (hR:∀b,R b→R' b) (hm:∀b,MB M' b→MB M b):SW E X0 R0 R' ps' cP rt M' X' sb l:=by
 obtain⟨a,c,hblk,hc,hl⟩:=h.sp
 refine⟨ht,⟨hR _ h.tF.1,h.tF.2.1,fun hk=>h.tF.2.2 (hm _ hk)⟩,a,c,hblk.but hb fun hs=>h.tF.2.2 (hS _ h.tF.1 hs),hc,fun hne=> ?_⟩
 obtain⟨g,o,rfl,Bv,h1,h2,h3⟩:=hl hne
 exact⟨g,o,rfl,Bv.but hb fun hs=>h2 (hS _ h1 hs),hR _ h1,fun hk=>h2 (hm _ hk),h3⟩
theorem SW.still (h:SW E X0 R0 R ps pg rt M X sb l) (hb:Below X.heap.size X X') (h1:∀k,R k→R' k) (h2:∀k,R' k→R k∨(X.heap.size≤k∧k<X'.heap.size)):SW E X0 R0 R' ps pg rt M X' sb l:=
 h.step (h.ts.still hb h1 h2) (aE.aH hb (fun _=>False)) (fun _ _ f=>f.elim) h1 (fun _ hk=>hk)
theorem SW.room (h:SW E X0 R0 R ps pg rt M X sb l) (hr:iZ R E.ring E.g E.N E.lb E.xb E.rb E.H ps' cP rt X') (hb:aE (fun k=>¬R k) X X'):SW E X0 R0 R ps' cP rt M X' sb l:=
 h.step (h.ts.uH hr hb) hb (fun _ hr hn=>absurd hr hn) (fun _ h=>h) (fun _ h=>h)
theorem SW.cell (h:SW E X0 R0 R ps pg rt M X sb l) (hp:M p=some n) (n':NV) (j:Nat) (v:Value) (hi:n'.its=n.its) (hg:n'.rg=n.rg) (ho:n'.ro=n.ro) (hc:n'.cap=n.cap) (hw:n'.own=n.own) (hcs:n.cells.set j v=n'.cells):SW E X0 R0 R ps pg rt (upd M p n') (X.setCell ⟨p,j,none⟩ v) sb l:=by
 have hb:aE (fun b=>b=p) X (X.setCell ⟨p,j,none⟩ v):=(aE.refl (fun b=>b=p) X).setCell _ _ fun _=>rfl
 have hmb:∀b,MB (upd M p n') b→MB M b:=by
  rintro b ⟨r,y,hr,hk⟩
  rcases aI hr with⟨rfl,rfl⟩|⟨_,hr⟩
  ·exact⟨_,n,hp,by rw[hg] at hk;exact hk⟩
  ·exact⟨r,y,hr,hk⟩
 exact h.step (h.ts.own hb (fun b _ e=>by rw[e];exact h.ts.jR p ⟨p,n,hp,.inl rfl⟩) (h.ts.mem.cell hp n' j v hi hg ho hc hw hcs) (fun b hb=>h.ts.jR b (hmb b hb)) (fun _ h=>h) (fun _ h=>.inl h)) hb (fun b _ e=>by rw[e];exact⟨p,n,hp,.inl rfl⟩) (fun _ h=>h) hmb
theorem SW.item (h:SW E X0 R0 R ps pg rt M X sb l) (hp:M p=some n) (j f:Nat) (hj:j<n.its.length) (hf:f<3) (it:It) (v:Value) (he:aj.enc it=(aj.enc n.its[j]).set f v) (hs:it.key.length≤200∧it.val.length≤200):
  SW E X0 R0 R ps pg rt (upd M p {n with its:=n.its.set j it}) (X.setCell ⟨n.rg,n.ro+(j*3+f),none⟩ v) sb l:=by
 have hb:aE (fun b=>b=n.rg) X (X.setCell ⟨n.rg,n.ro+(j*3+f),none⟩ v):=(aE.refl (fun b=>b=n.rg) X).setCell _ _ fun _=>rfl
 have hmb:∀b,MB (upd M p {n with its:=n.its.set j it}) b→MB M b:=by
  rintro b ⟨r,y,hr,hk⟩
  rcases aI hr with⟨rfl,rfl⟩|⟨_,hr⟩
  ·exact⟨_,n,hp,hk⟩
  ·exact⟨r,y,hr,hk⟩
 exact h.step (h.ts.own hb (fun b _ e=>by rw[e];exact h.ts.jR _ ⟨p,n,hp,.inr rfl⟩) (h.ts.mem.item hp j f hj hf it v he hs) (fun b hb=>h.ts.jR b (hmb b hb)) (fun _ h=>h) (fun _ h=>.inl h)) hb (fun b _ e=>by rw[e];exact⟨p,n,hp,.inr rfl⟩) (fun _ h=>h) hmb
theorem SW.take (h:SW E X0 R0 R ps pg rt M X sb (x::l)) (hl:l.length≤1000000):
  Calls Tryz.prog 180 #[ptr sb] X fun e X'=>e=.returned (.tuple #[.int .i64 x,.int .i64 0])∧SW E X0 R0 R ps pg rt M X' sb l∧aE (fun b=>b=sb) X X':=by
 obtain⟨a,c,hblk,hc,hne⟩:=h.sp
 obtain⟨g,o,rfl,Bv,h1,h2,h3⟩:=hne (by simp)
 refine (DL hblk hc Bv h3 hl).mono ?_
 rintro e X' ⟨rfl,o',c',Uj,xh,Yf,hb⟩
 have hmem:=h.ts.mem.keep hb fun b hb e=>h.tF.2.2 (by rw[←e];exact hb)
 refine⟨rfl,⟨h.ts.own hb (fun b _ e=>by rw[e];exact⟨h.tF.1,h.tF.2.1⟩) hmem (fun b hb=>h.ts.jR b hb) (fun _ h=>h) (fun _ h=>.inl h),h.tF,some ⟨g,o',none⟩,c',Uj,xh,fun _=>⟨g,o',rfl,Yf,h1,h2,h3⟩⟩,hb⟩
structure O_ (E:Ev) (X0:World) (R0:Nat→Prop) (rt:List Nat) (sb:Nat) (R:Nat→Prop) (ps:List (Nat×List UInt8)) (pg:List (Option Wl.Text)) (M:Nat→Option NV) (X:World) (sp:List Nat) (k p:Nat) (t:Tr.E (k+1)) (F:List Nat) (R':Nat→Prop) (ps':List (Nat×List UInt8)) (cP:List (Option Wl.Text)) (M':Nat→Option NV) (t':Tr.E (k+1)) (sp' al:List Nat) (X':World):Prop where
 sw:SW E X0 R0 R' ps' cP rt M' X' sb (gy sp')
 pre:ps<+:ps'
 few:ps'.length≤ps.length+4*Tr.cnt (k+1) t
 sm:Tr.Sm (k+1) t t'
 st:cK cP (k+1) t'
 at_:∃n',M' p=some n'∧n'.page=xP (Tr.hd t').page
 keep:(Tr.hd t).page.isSome=true→(Tr.hd t').page=(Tr.hd t).page
 b8:(Tr.b8 (k+1) t'++sp').Perm (Tr.b8 (k+1) t++sp++al)
 pg:iq pg cP (Tr.b8 (k+1) t') al
 eT:al.length≤Tr.eT (k+1) t
 same:∀r,r∉F→M' r=M r
 but:aE (fun b=>¬R b∨b=sb∨MB M b) X X'
 sub:∀b,R b→R' b
 new:∀b,R' b→R b∨X.heap.size≤b
 mb:∀b,MB M' b→MB M b
def Bw (E:Ev) (X0:World) (R0:Nat→Prop) (rt:List Nat) (ps:List (Nat×List UInt8)) (pg:List (Option Wl.Text)) (a b:Nat) (X':World):Prop:=
 ∃R' M' ps' cP,TS E X0 R0 R' ps' cP rt M' X'∧ps<+:ps'∧ps'.length≤ps.length+4*a∧pg.length<Rm.used pg+b
def nT (E:Ev) (X0:World) (R0:Nat→Prop) (rt:List Nat) (sb:Nat) (R:Nat→Prop) (ps:List (Nat×List UInt8)) (pg:List (Option Wl.Text)) (M:Nat→Option NV) (X:World) (sp:List Nat) (k p:Nat) (t:Tr.E (k+1)) (F:List Nat) (c:Int) (X':World):Prop:=
 (c=0∧∃R' ps' cP M' t' sp' al,O_ E X0 R0 rt sb R ps pg M X sp k p t F R' ps' cP M' t' sp' al X')∨(c=4∧Bw E X0 R0 rt ps pg (Tr.cnt (k+1) t) (Tr.eT (k+1) t) X')
def kv (i:It):List UInt8×List UInt8:=(i.key,i.val)
theorem E3:∀{a b:List It},a.map kv=b.map kv→a.flatMap dR=b.flatMap dR
 |[],[],_=>rfl
 |x::a,y::b,h=>by
  obtain⟨h1,h2⟩:=List.cons.inj h
  rw[List.flatMap_cons,List.flatMap_cons,E3 h2]
  unfold dR
  rw[show x.key=y.key from (Prod.mk.inj h1).1,show x.val=y.val from (Prod.mk.inj h1).2]
 |[],_::_,h=>by cases h
 |_::_,[],h=>by cases h
theorem G1 {level:Nat} {a b:List It} (h:a.map kv=b.map kv):cB level a=cB level b:=by
 grind [cB,E3,List.length,aM]
theorem iq.more {Ku al:List Nat} {x:Nat} (h:iq pg cP Ku al) (hx:(cP.getD x none).isSome=true):iq pg cP (x::Ku) al:=
 ⟨h.len,fun y hy=>h.same y fun hm=>hy (aF _ hm),fun y hy=>by
  rcases hy with hy|hy
  ·rcases aQ.1 hy with rfl|hy
   ·exact hx
   ·exact h.jX y (.inl hy)
  ·exact h.jX y (.inr hy),h.free,h.nd,h.used⟩
theorem G2 {pg:List (Option Wl.Text)} (h:Rm.firstFree pg=none):pg.length≤Rm.used pg:=by
 rcases dw (Rm.used pg) pg.length with h1|h1
 ·obtain⟨p,hp⟩:=Bl.j9 h1
  rw[h] at hp;cases hp
 ·exact h1
structure Kids (E:Ev) (X0:World) (R0:Nat→Prop) (rt:List Nat) (sb:Nat) (R:Nat→Prop) (ps:List (Nat×List UInt8)) (pg:List (Option Wl.Text)) (M:Nat→Option NV) (X:World) (sp:List Nat) (k p:Nat) (t:Tr.E (k+1)) (F:List Nat) (n1:NV) (l':List (Tr.Tx×Tr.E k)) (R1:Nat→Prop) (ps1:List (Nat×List UInt8)) (fO:List (Option Wl.Text)) (M1:Nat→Option NV) (ju al:List Nat) (X1:World):Prop where
 sw:SW E X0 R0 R1 ps1 fO rt M1 X1 sb (gy ju)
 pre:ps<+:ps1
 few:ps1.length+4≤ps.length+4*Tr.cnt (k+1) t
 sm:Tr.lH (Tr.Sm k) (Tr.its t) l'
 st:∀x∈l',cK fO k x.2
 at_:M1 p=some n1
 kvs:n1.its.map kv=(ak k l').map kv
 b8:(Tr.dI k l'++ju).Perm (Tr.dI k (Tr.its t)++sp++al)
 pg:iq pg fO (Tr.dI k l') al
 eT:al.length≤Tr.jP k (Tr.its t)
 same:∀r,r∉F→M1 r=M r
 but:aE (fun b=>¬R b∨b=sb∨MB M b) X X1
 sub:∀b,R b→R1 b
 new:∀b,R1 b→R b∨X.heap.size≤b
 mb:∀b,MB M1 b→MB M b
end
end
end Go.Proofs.YtebbahjombdalaaGreatDoor
