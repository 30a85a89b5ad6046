/- Elder texts, cut down and merged (2). -/
import Derived.Test.YtebbahjombdalaaGreatDoorP1
import Derived.Maps.OwnSet
import Derived.Maps.RangeWalk
import Derived.Maps.Ext
import Derived.Lib.Hide
import Derived.Lib.SlKeysI
import Derived.Laws.Tables
import Derived.Laws.Rows
import Derived.ChangeSlices
import Derived.Deep.Grids
import Derived.WalkKit
import Derived.ProofKit
import Derived.OpenShut
import Derived.ShutString
import Derived.Deep.DeepHandedRow
import Derived.Test.YtebbahjombdalaaGreatDoorCards
import Derived.Test.YtebbahjombdalaaGreatDoorTie
import Derived.Lib.SlBytesConst
import Derived.Laws.Bits128
import Derived.BigQuiet
import Derived.Deep.RegionLaw
import Derived.BigRegion
import Derived.Deep.DeepFit
import Derived.Outline
import Derived.Test.YtebbahjombdalaaGreatDoorPTk
set_option maxRecDepth 100000
set_option maxHeartbeats 8000000
namespace Go.Proofs.YtebbahjombdalaaGreatDoor
open UInt8 renaming ofNat→aY,toNat_ofNat'→dY
open List renaming map_cons→bH,length_map→aM,filter_cons→cS,mem_cons_self→aA,mem_cons_of_mem→aF,pairwise_cons→cw,mem_cons→aQ,length_cons→aW,length_drop→aT,replicate→bg,nil_append→dF,length_set→bP,length_replicate→dM,getElem?_set_ne→qZ,getElem?_replicate→mQ,getElem?_map→cJ,getElem?_eq_getElem→aJ,getD_eq_getElem?_getD→bT,length_append→aq,getElem_mem→bB,take_of_length_le→bZ,length_singleton→eH,take_succ_eq_append_getElem→cI,map_append→bI,length_take→aN,append_nil→bh,append_assoc→aB
open _root_.Array renaming getElem?_eq_some_iff→iA,length_toList→aZ
open Nat renaming zero_le→aC,le_refl→af,lt_of_lt_of_le→cW,add_assoc→gd,mod_eq_of_lt→kC,min_eq_left→b_,lt_or_ge→dw,add_zero→dN
open World renaming block_lt_of_cell?→bt
open Bool renaming and_eq_true→fy
open Int renaming toNat_natCast→cX
section
open Go.RowKit Go.Maps
open Wl (eE ins ck)
structure ME where
 enc:List UInt8→Value
 R:Value→Option (DataW Unit×List MemPlace)
 fits:List UInt8→Prop
 read:∀l,fits l→R (enc l)=some (.lit (.string l),[])
 inv:∀v y,R v=some y→∃l,v=enc l∧fits l∧y=(.lit (.string l),[])
def ctext (l:List UInt8):Value:=.agg (l.map bL).toArray
def tT:Value→Option UInt8
 |.int .u8 n=>if 0≤n∧n≤255 then some (aY n.toNat) else none
 |_=>none
def nI:List Value→Option (List UInt8)
 |[]=>some []
 |v::r=>match tT v,nI r with
  |some b,some l=>some (b::l)
  |_,_=>none
def Ab:Value→Option (DataW Unit×List MemPlace)
 |.agg cs=>match nI cs.toList with
  |some l=>if l.length=512 then some (.lit (.string l),[]) else none
  |none=>none
 |_=>none
theorem yC (b:UInt8):tT (bL b)=some b:=by
 have:=b.toNat_lt
 unfold tT bL
 simp only
 rw[if_pos (by omega)]
 simp
theorem r8:∀l:List UInt8,nI (l.map bL)=some l
 |[]=>rfl
 |b::l=>by simp only[bH,nI,yC,r8 l]
theorem Cx {v:Value} {b:UInt8} (h:tT v=some b):v=bL b:=by
 unfold tT at h
 split at h
 ·rename_i n
  split at h
  ·injection h with h
   subst h
   unfold bL
   rw[dY]
   congr 1
   omega
  ·cases h
 ·cases h
theorem r9:∀{cs:List Value} {l:List UInt8},nI cs=some l→cs=l.map bL
 |[],l,h=>by injection h with h;subst h;rfl
 |v::r,l,h=>by
  unfold nI at h
  split at h
  ·rename_i b l' h1 h2
   injection h with h
   subst h
   rw[bH,Cx h1,r9 h2]
  ·cases h
theorem Ac {l:List UInt8} (h:l.length=512):Ab (ctext l)=some (.lit (.string l),[]):=by
 unfold Ab ctext
 simp only[r8]
 rw[if_pos h]
theorem FF {v:Value} {y:DataW Unit×List MemPlace} (h:Ab v=some y):∃l,v=ctext l∧l.length=512∧y=(.lit (.string l),[]):=by
 unfold Ab at h
 split at h
 ·rename_i cs
  split at h
  ·rename_i l hl
   split at h
   ·rename_i h5
    injection h with h
    refine⟨l, ?_,h5,h.symm⟩
    unfold ctext
    rw[←r9 hl]
   ·cases h
  ·cases h
 ·cases h
def pS:ME:=⟨ctext,Ab,fun l=>l.length=512,fun _ h=>Ac h,fun _ _ h=>FF h⟩
def qY (x:Nat×List UInt8):Lit×DataW Unit:=(.int .i64 x.1,.lit (.string x.2))
def dat (m:eE):DataW Unit:=.map (m.map qY)
theorem kR (x:Nat×List UInt8) (k:Nat):(qY x).1.sameKey (.int .i64 k)=decide (x.1=k):=by
 simp only[qY,Lit.sameKey,true_and]
 exact decide_eq_decide.2 ⟨fun h=>by omega,fun h=>by omega⟩
theorem Ad (m:eE) (k:Nat):((m.map qY).find? (fun p=>p.1.sameKey (.int .i64 k))).map (·.2)=(Wl.look k m).map fun t=>.lit (.string t):=by
 induction m with
 |nil=>rfl
 |cons x m ih=>
  rw[bH,List.find?_cons,kR]
  unfold Wl.look
  by_cases h:x.1=k
  ·rw[if_pos h,decide_eq_true h];rfl
  ·rw[if_neg h,decide_eq_false h];exact ih
theorem r_ {m:eE} {k:Nat} {t:List UInt8} (h:Wl.look k m=some t) (z:DataW Unit):(dat m).atKey (.int .i64 k) z=.lit (.string t):=by
 have:=Ad m k
 rw[h] at this
 unfold dat DataW.atKey
 simp only
 cases e:(m.map qY).find? (fun p=>p.1.sameKey (.int .i64 k)) with
 |none=>rw[e] at this;cases this
 |some p=>rw[e] at this;injection this
theorem Ae {m:eE} {k:Nat} (h:Wl.look k m=none) (z:DataW Unit):(dat m).atKey (.int .i64 k) z=z:=by
 have:=Ad m k
 rw[h] at this
 unfold dat DataW.atKey
 simp only
 cases e:(m.map qY).find? (fun p=>p.1.sameKey (.int .i64 k)) with
 |none=>rfl
 |some p=>rw[e] at this;cases this
theorem Ew (m:eE) (k:Nat):Maps.has (dat m) (.int .i64 k)=(Wl.look k m).isSome:=by
 show (m.map qY).any (fun p=>p.1.sameKey (.int .i64 k))=_
 induction m with
 |nil=>rfl
 |cons x m ih=>
  rw[bH,List.any_cons,kR]
  unfold Wl.look
  by_cases h:x.1=k
  ·rw[if_pos h,decide_eq_true h];rfl
  ·rw[if_neg h,decide_eq_false h,ih];rfl
theorem I4 (m:eE):Maps.size (dat m)=m.length:=by show (m.map qY).length=_;rw[aM]
theorem lV (k:Nat):∀m:eE,(∀x∈m,k<x.1)→(m.map qY).filter (fun p=> !p.1.sameKey (.int .i64 k))=m.map qY
 |[],_=>rfl
 |x::m,h=>by
  rw[bH,cS,kR,decide_eq_false (by have:=h x aA;omega),lV k m fun y hy=>h y (aF _ hy)]
  rfl
theorem pT (k:Nat) (t:List UInt8):∀m:eE,(∀x∈m,k<x.1)→DataW.insert (qY (k,t)) (m.map qY)=qY (k,t)::m.map qY
 |[],_=>rfl
 |x::m,h=>by
  have hb:(qY (k,t)).1.before (qY x).1=true:=by
   have:=h x aA
   show decide ((k:Int)<(x.1:Int))=true
   exact decide_eq_true (by omega)
  rw[bH]
  unfold DataW.insert
  rw[if_pos hb]
theorem Ex (k:Nat) (t:List UInt8):∀m:eE,ck m→DataW.insert (qY (k,t)) ((m.map qY).filter (fun p=> !p.1.sameKey (.int .i64 k)))=(ins k t m).map qY
 |[],_=>rfl
 |x::m,hr=>by
  obtain⟨h1,h2⟩:=cw.1 hr
  unfold ins
  by_cases hk:k<x.1
  ·rw[if_pos hk,lV k (x::m) (fun y hy=>by
    rcases aQ.1 hy with rfl|hy
    ·exact hk
    ·exact Nat.lt_trans hk (h1 y hy)),pT k t (x::m) (fun y hy=>by
    rcases aQ.1 hy with rfl|hy
    ·exact hk
    ·exact Nat.lt_trans hk (h1 y hy))]
   rfl
  ·rw[if_neg hk]
   by_cases he:k=x.1
   ·rw[if_pos he,bH,cS,kR,decide_eq_true he.symm]
    rw[if_neg (by decide),lV k m (fun y hy=>by have:=h1 y hy;omega),pT k t m (fun y hy=>by have:=h1 y hy;omega)]
    rfl
   ·rw[if_neg he,bH,cS,kR,decide_eq_false (by omega),if_pos (by decide)]
    have hb:¬(qY (k,t)).1.before (qY x).1=true:=by
     show ¬decide ((k:Int)<(x.1:Int))=true
     rw[decide_eq_true_eq];omega
    unfold DataW.insert
    rw[if_neg hb,Ex k t m h2]
    rfl
theorem Mg (k:Nat) (t:List UInt8) (m:eE) (hr:ck m):(dat m).put (.int .i64 k) (.lit (.string t))=dat (ins k t m):=by
 show DataW.map _=DataW.map _
 rw[←Ex k t m hr]
 rfl
section
variable {P:Program} {T E:TypeId} (M:ME) {w w':World} {b:Nat} {m:eE}
def fR (P:Program) (K:TypeId) (M:ME) (w:World) (b:Nat) (m:eE):Prop:=
 w.ownsMap P K M.R b m.length (dat m)∧ck m∧∀x∈m,x.1≤1000000
variable {K:TypeId}
theorem tU {k:Nat} (h:k≤1000000):(Lit.int .i64 (k:Int)).wf=true:=by
 simp[Lit.wf,IntKind.min,IntKind.max,IntKind.signed,IntKind.bits]
 omega
theorem sj {n:Nat} (h:w.ownsMap P K M.R b n (dat m)):w.ownsMap P K M.R b m.length (dat m):=by
 obtain⟨es,clock,hb,F,_,hD⟩:=h
 refine⟨es,clock,hb,F, ?_,hD⟩
 have:Maps.size (dat m)=es.size:=by rw[hD];simp[Maps.size,length_sorted]
 rw[I4] at this
 omega
theorem fR.kept {M:ME} {row:Option Nat} (h:fR P K M w b m) (hg:w.grownBy w' row) (hne:some b≠row):fR P K M w' b m:=⟨h.1.kept hg hne,h.2⟩
theorem fR.but {M:ME} {S:Nat→Prop} (h:fR P K M w b m) (hb:aE S w w') (hn:¬S b):fR P K M w' b m:=by
 obtain⟨⟨es,clock,h1,r⟩,h2⟩:=h
 exact⟨⟨es,clock,(hb.block b (iA.1 h1).1 hn).trans h1,r⟩,h2⟩
theorem fR.isMap {M:ME} (h:fR P K M w b m):∃es clock,w.heap[b]?=some (.map es clock):=by
 obtain⟨⟨es,clock,h1,_⟩,_⟩:=h
 exact⟨es,clock,h1⟩
theorem fR.cY {M:ME} {g:Nat} {t:TypeId} {cs:List Value} (h:fR P K M w b m) (hg:aS w g t cs):b≠g:=by
 intro e
 obtain⟨es,clock,h1⟩:=h.isMap
 unfold aS at hg
 rw[e,hg] at h1
 cases h1
theorem fR.made (P:Program) (K:TypeId) (M:ME) (w:World):fR P K M (w.alloc (.map #[] 0)) w.heap.size []:=
 ⟨World.ownsMap_made w P K M.R,List.Pairwise.nil,fun x hx=>by cases hx⟩
theorem fR.iC {M:ME} (h:fR P K M w b m) (hk:P.underlying K=some (.int .i64)) (ht:P.underlying T=some (.map K E)) {z:List UInt8} (hz:(zeroValue E).run P w=.ok (M.enc z) w) (Pu:M.fits z)
  {k:Nat} (LP:k≤1000000) {t:List UInt8} (hl:Wl.look k m=some t):(Instr.lookup T (.map (some b)) (.int .i64 k) true).run P w=.ok (.tuple #[M.enc t,.bool true]) w∧M.fits t:=by
 obtain⟨v,ps,hr,hv⟩:=h.1.look_ok (int_keyed hk) ht hz (M.read z Pu) (keyOf_int_mk hk (tU LP))
 rw[r_ hl] at hv
 rw[Ew,hl] at hr
 obtain⟨l,rfl,hf,he⟩:=M.inv _ _ hv
 injection he with he _
 injection he with he
 injection he with he
 subst he
 exact⟨hr,hf⟩
theorem fR.dU {M:ME} (h:fR P K M w b m) (hk:P.underlying K=some (.int .i64)) (ht:P.underlying T=some (.map K E)) {z:List UInt8} (hz:(zeroValue E).run P w=.ok (M.enc z) w) (Pu:M.fits z)
  {k:Nat} (LP:k≤1000000) (hl:Wl.look k m=none):(Instr.lookup T (.map (some b)) (.int .i64 k) true).run P w=.ok (.tuple #[M.enc z,.bool false]) w:=by
 obtain⟨v,ps,hr,hv⟩:=h.1.look_ok (int_keyed hk) ht hz (M.read z Pu) (keyOf_int_mk hk (tU LP))
 rw[Ae hl] at hv
 rw[Ew,hl] at hr
 obtain⟨l,rfl,hf,he⟩:=M.inv _ _ hv
 injection he with he _
 injection he with he
 injection he with he
 subst he
 exact hr
theorem fR.at {M:ME} (h:fR P K M w b m) (hk:P.underlying K=some (.int .i64)) (ht:P.underlying T=some (.map K E)) {z:List UInt8} (hz:(zeroValue E).run P w=.ok (M.enc z) w) (Pu:M.fits z)
  {k:Nat} (LP:k≤1000000) {t:List UInt8} (hl:Wl.look k m=some t):(Instr.lookup T (.map (some b)) (.int .i64 k) false).run P w=.ok (M.enc t) w∧M.fits t:=by
 obtain⟨v,ps,hr,hv⟩:=h.1.lookup (int_keyed hk) ht hz (M.read z Pu) (keyOf_int_mk hk (tU LP))
 rw[r_ hl] at hv
 obtain⟨l,rfl,hf,he⟩:=M.inv _ _ hv
 injection he with he _
 injection he with he
 injection he with he
 subst he
 exact⟨hr,hf⟩
end
end
namespace Wl
open Dk (fu kept full b9)
def pos (ring i:Nat):Nat:=1+i%ring
def Laid (ring:Nat) (F:List Text):Nat→Nat→List eE→Prop
 |_,_,[]=>True
 |a,n,g::gs=>F[pos ring a]?=some (full (head n g.length))∧(∀k t,(FE g)[k]?=some t→F[pos ring (a+1+k)]?=some (full t))∧Laid ring F (a+sizeOf g.length) (n+1) gs
def total (gs:List eE):Nat:=(gs.map fun g=>sizeOf g.length).sum
def Old (ring:Nat) (F:List Text) (i N:Nat):Prop:=∃s,F[1+i]?=some s∧(blank s=true∨Pt s=true∨∃m n,IY s ring=(m,n,true)∧m<N)
def tV (gs:List eE):eE:=gs.foldl merge []
theorem kS {homes:Nat}:∀(gs:List eE) (m:eE),Fits homes m→(∀g∈gs,Fits homes g)→Fits homes (gs.foldl merge m)
 |[],_,h,_=>h
 |g::gs,_,h,hg=>kS gs _ (tQ h (hg g aA).2) fun x hx=>hg x (aF _ hx)
theorem Af {homes:Nat} {gs:List eE} (h:∀g∈gs,Fits homes g):Fits homes (tV gs):=kS gs [] (I3 homes) h
structure Good (ring:Nat) (F:List Text) (a n:Nat) (gs:List eE) (H:List Text):Prop where
 r1:4≤ring
 r2:ring≤4096
 len:F.length=1+ring+H.length
 hpos:1≤H.length
 Wi:F.length≤65536
 all:∀s∈F,s.length=512
 first:F[0]?=some (full (first F.length ring a n))
 aag:a<ring
 n_pos:1≤n
 R7:n+gs.length<1000000
 laid:Laid ring F a n gs
 tot:total gs≤ring
 fits:∀g∈gs,g≠[]∧Fits H.length g
 old:∀i,i<ring→Old ring F i (n+gs.length)
 homes:H=fu (F.drop (1+ring)) (tV gs)
def wr (s:Bool×b9) (x:Nat×Text):Bool×b9:=if s.1 then s else (decide ((s.2.write x.1 x.2).1≠0),(s.2.write x.1 x.2).2)
def fl (s:Bool×b9):Bool×b9:=if s.1 then s else (decide (s.2.flush.1≠0),s.2.flush.2)
def fw (x:Nat×Text):Nat×Text:=(x.1,full x.2)
theorem Mh (d:b9) (x:Nat×Text):wr (true,d) x=(true,d):=rfl
theorem Mj (d:b9):fl (true,d)=(true,d):=rfl
theorem R8 (d:b9) (x:Nat×Text) (ho:d.off=false) (h1:x.1<d.fB.length) (h2:x.2.length≤512):
  (wr (false,d) x=(false,{d.gO with loose:=d.loose++[fw x]})∧d.fuel≠0)∨(wr (false,d) x=(true,d.dead)∧d.fuel=0):=by
 have hh:d.has x.1=true:=by simp[b9.has,h1]
 have hw:d.write x.1 x.2=if d.fuel=0 then (3,d.dead) else (0,{d.gO with loose:=d.loose++[((x.1:Int).toNat,full x.2)]}):=by
  grind [b9.write]
 unfold wr
 rw[hw]
 by_cases hf:d.fuel=0
 ·exact .inr ⟨by rw[if_pos hf];rfl,hf⟩
 ·exact .inl ⟨by rw[if_neg hf];rfl,hf⟩
theorem R_ (d:b9) (ho:d.off=false):(fl (false,d)=(false,{d.gO with fB:=d.now,loose:=[]})∧d.fuel≠0)∨(fl (false,d)=(true,d.dead)∧d.fuel=0):=by
 have hw:d.flush=if d.fuel=0 then (3,d.dead) else (0,{d.gO with fB:=d.now,loose:=[]}):=by
  simp_all[b9.flush]
 unfold fl
 rw[hw]
 by_cases hf:d.fuel=0
 ·exact .inr ⟨by rw[if_pos hf];rfl,hf⟩
 ·exact .inl ⟨by rw[if_neg hf];rfl,hf⟩
theorem lX {t:Text} (h:t.length=512):full t=t:=by simp[full,h]
theorem Good.Cy {ring:Nat} {F:List Text} {a n:Nat} {gs:List eE} {H:List Text} (h:Good ring F a n gs H):Fits H.length (tV gs):=Af fun g hg=>(h.fits g hg).2
end Wl
namespace Wl
open Dk (fu kept full b9)
structure Lg where
 ring:Nat
 homes:Nat
 place:Nat
 num:Nat
 filled:Nat
 wait:eE
 down:Bool
 d:b9
def Lg.off (s:Lg):Bool:=s.down||s.d.off
def Lg.with (s:Lg) (r:Bool×b9):Lg:={s with down:=r.1,d:=r.2}
structure Live (ring N:Nat) (s:Lg) (H:List Text):Prop where
 up:s.down=false
 on:s.d.off=false
 fB:s.d.loose=[]
 Ey:s.ring=ring
 homes_eq:s.homes=H.length
 Wj:s.num≤N
 stands:∃a n gs,Good ring s.d.fB a n gs H∧s.place=(a+total gs)%ring∧s.num=n+gs.length∧s.filled=total gs∧s.wait=tV gs
theorem Live.off_eq {ring N:Nat} {s:Lg} {H:List Text} (h:Live ring N s H):s.off=false:=by unfold Lg.off;rw[h.up,h.on];rfl
theorem Live.read {ring N:Nat} {s:Lg} {H:List Text} (h:Live ring N s H):(∀x∈s.wait,x.1<s.homes∧x.2.length=512)∧ck s.wait∧s.d.fB.length=1+ring+H.length∧4≤ring∧ring≤4096∧1≤H.length∧H.length≤65536∧s.filled≤ring∧s.place<ring∧1≤s.num∧s.num<1000000∧s.wait.length≤65536∧
  ∀j,j<H.length→H[j]?=(look j s.wait).or (s.d.now[1+ring+j]?):=by
 obtain⟨a,n,gs,hg,h1,h2,h3,h4⟩:=h.stands
 have hf:=hg.Cy
 have hlen:=hg.len
 have hm:=hg.Wi
 have lS:=hg.r1
 have jS:=hg.r2
 have hnp:=hg.n_pos
 have hnm:=hg.R7
 have Wk:s.d.now=s.d.fB:=by unfold b9.now;rw[h.fB,Dk.mO]
 refine⟨by rw[h4,h.homes_eq];exact hf.2,by rw[h4];exact hf.1,hlen,lS,jS,hg.hpos,by omega,by rw[h3];exact hg.tot,by rw[h1];exact Nat.mod_lt _ (by omega),by omega,by omega, ?_,fun j hj=> ?_⟩
 ·have key:∀(m:eE) (b c:Nat),ck m→(∀x∈m,b≤x.1∧x.1<c)→m.length≤c-b:=by
   intro m
   induction m with
   |nil=>intro b c _ _;exact aC _
   |cons x m ih=>
    intro b c hr hb
    obtain⟨r1,r2⟩:=cw.1 hr
    have h0:=hb x aA
    have:=ih (x.1+1) c r2 fun y hy=>⟨r1 y hy,(hb y (aF _ hy)).2⟩
    rw[aW];omega
  have:=key s.wait 0 H.length (by rw[h4];exact hf.1) fun x hx=>⟨aC _,by rw[h4] at hx;exact (hf.2 x hx).1⟩
  omega
 ·have:=congrArg (fun L=>L[j]?) hg.homes
  rw[this,nH hf.1,aT,if_pos (by omega),h4,List.getElem?_drop,Wk]
def dz (n:Nat):List Text:=bg n (full [])
theorem Ag:(full []).length=512:=Dk.eR _ (by decide)
theorem pU:blank (full [])=true:=by unfold full;rw[dF];exact mF _
theorem Cz (size ring:Nat) (h1:4≤ring) (h2:ring≤4096) (h3:ring+2≤size) (h4:size≤65536):
  Good ring ((bg size (full [])).set 0 (full (first size ring 0 1))) 0 1 [] (dz (size-1-ring)):=by
 refine⟨h1,h2,by rw[bP,dM,dz,dM];omega,by rw[dz,dM];omega,by rw[bP,dM];exact h4, ?_, ?_,by omega,by decide,by decide,trivial,by simp[total],(fun g hg=>by cases hg),fun i hi=> ?_, ?_⟩
 ·intro s hs
  rcases List.mem_or_eq_of_mem_set hs with hs|rfl
  ·rw[List.eq_of_mem_replicate hs];exact Ag
  ·exact Dk.eR _ (by rw[pR];decide)
 ·grind
 ·exact⟨full [],by rw[qZ (by omega),mQ,if_pos (by omega)],.inl pU⟩
 ·rw[show tV ([]:List eE)=[] from rfl,Dk.mO,List.drop_set,if_pos (by omega),List.drop_replicate,dz]
  congr 1;omega
def begun (size ring:Nat):Lg:=⟨ring,size-1-ring,0,1,0,[],false,⟨(bg size (full [])).set 0 (full (first size ring 0 1)),[],-1,false⟩⟩
theorem CA (size ring:Nat) (h1:4≤ring) (h2:ring≤4096) (h3:ring+2≤size) (h4:size≤65536):Live ring 1 (begun size ring) (dz (size-1-ring)):=
 ⟨rfl,rfl,rfl,rfl,by simp[begun,dz],af _,0,1,[],Cz size ring h1 h2 h3 h4,by show 0=_;simp[total],rfl,rfl,rfl⟩
theorem CB (size ring:Nat) (h3:0<size):fl (wr (false,Dk.fresh size) (0,first size ring 0 1))=(false,(begun size ring).d):=by
 have hx:(0:Nat)<(Dk.fresh size).fB.length:=by simp[Dk.fresh,h3]
 rcases R8 (Dk.fresh size) (0,first size ring 0 1) rfl hx (by rw[pR];decide) with⟨e,_⟩|⟨_,e⟩
 ·rw[e]
  rcases R_ {(Dk.fresh size).gO with loose:=(Dk.fresh size).loose++[fw (0,first size ring 0 1)]} rfl with⟨e',_⟩|⟨_,e'⟩
  ·rw[e'];rfl
  ·have:(-1:Int)=0:=e'
   omega
 ·have:(-1:Int)=0:=e
  omega
end Wl
section
open Go.RowKit
def lY (g mb:Nat) (s:Wl.Lg):List Value:=[ptr g,.int .i64 s.ring,.int .i64 s.homes,.int .i64 s.place,.int .u64 s.num,.int .i64 s.filled,.map (some mb),.bool s.down]
abbrev Mk:TypeId:=3
abbrev CC (w:World) (b:Nat) (m:Wl.eE):Prop:=fR Tryz.prog Mk pS w b m
structure i_ (w:World) (F:Nat→Prop) (b g mb:Nat) (FD:Nat→Prop) (s:Wl.Lg):Prop where
 blk:aS w b 108 (lY g mb s)
 mp:CC w mb s.wait
 sec:nZ w FD g s.d
 nb:¬FD b
 nm:¬FD mb
 fb:F b
 fm:F mb
 fd:∀k,FD k→F k
 lt:∀k,F k→k<w.heap.size
def Log (w:World) (F:Nat→Prop) (b g:Nat) (s:Wl.Lg):Prop:=∃mb FD,i_ w F b g mb FD s
structure Zq (s:Wl.Lg):Prop where
 r1:4≤s.ring
 r2:s.ring≤4096
 h:s.homes≤65536
 p:s.place<s.ring
 n:s.num<1000000
 f:s.filled≤1000000
 w:Wl.Fits s.homes s.wait
 wl:s.wait.length≤65536
 len:s.d.fB.length=1+s.ring+s.homes
theorem Wl.Live.Iv {ring N:Nat} {s:Wl.Lg} {H:List (List UInt8)} (h:Wl.Live ring N s H):Zq s:=by
 obtain⟨h1,h2,h3,h4,h5,h6,h7,h8,h9,h10,h11,h12,_⟩:=h.read
 have e1:=h.Ey
 have e2:=h.homes_eq
 exact⟨by omega,by omega,by omega,by omega,by omega,by omega,⟨h2,h1⟩,h12,by omega⟩
def both (F G:Nat→Prop) (k:Nat):Prop:=F k∨G k
theorem bS.both {F FD Iw:Nat→Prop} {w w1:World} (Vd:∀k,FD k→F k) (h:bS FD w Iw w1):bS F w (both F Iw) w1:=
 ⟨h.1.mono fun k _ hk=>Vd k hk,fun k hk=>by
  rcases hk with hk|hk
  ·exact .inl hk
  ·rcases h.2 k hk with h'|h'
   ·exact .inl (Vd k h')
   ·exact .inr h'⟩
theorem xm {FD Iw:Nat→Prop} {w w1:World} (h:bS FD w Iw w1) {b:Nat} (hb:b<w.heap.size) (hn:¬FD b):¬Iw b:=fun hk=>by
 rcases h.2 b hk with h'|h'
 ·exact hn h'
 ·omega
namespace i_
variable {w w1:World} {F FD Iw:Nat→Prop} {b g mb:Nat} {s:Wl.Lg}
theorem log (h:i_ w F b g mb FD s):Log w F b g s:=⟨mb,FD,h⟩
theorem c0 (h:i_ w F b g mb FD s):w.cell? ⟨b,0,none⟩=some (.pointer (some ⟨g,0,none⟩)):=h.blk.cell rfl
theorem c1 (h:i_ w F b g mb FD s):w.cell? ⟨b,1,none⟩=some (.int .i64 s.ring):=h.blk.cell rfl
theorem c2 (h:i_ w F b g mb FD s):w.cell? ⟨b,2,none⟩=some (.int .i64 s.homes):=h.blk.cell rfl
theorem c3 (h:i_ w F b g mb FD s):w.cell? ⟨b,3,none⟩=some (.int .i64 s.place):=h.blk.cell rfl
theorem c4 (h:i_ w F b g mb FD s):w.cell? ⟨b,4,none⟩=some (.int .u64 s.num):=h.blk.cell rfl
theorem c6 (h:i_ w F b g mb FD s):w.cell? ⟨b,6,none⟩=some (.map (some mb)):=h.blk.cell rfl
theorem c7 (h:i_ w F b g mb FD s):w.cell? ⟨b,7,none⟩=some (.bool s.down):=h.blk.cell rfl
theorem Sc (h:i_ w F b g mb FD s):mb≠b:=h.mp.cY h.blk
theorem turned (h:i_ w F b g mb FD s) {d:Dk.b9} (hs:nZ w1 Iw g d) (hm:bS FD w Iw w1):i_ w1 (both F Iw) b g mb Iw {s with d:=d}∧bS F w (both F Iw) w1:=
 ⟨⟨h.blk.but hm.1 h.nb,h.mp.but hm.1 h.nm,hs,xm hm (h.lt b h.fb) h.nb,xm hm (h.lt mb h.fm) h.nm,.inl h.fb,.inl h.fm,fun k hk=>.inr hk,fun k hk=>by
  rcases hk with hk|hk
  ·exact cW (h.lt k hk) hm.1.size
  ·exact hs.lt k hk⟩,hm.both h.fd⟩
theorem but {S:Nat→Prop} (h:i_ w F b g mb FD s) (hb:aE S w w1) (hn:∀k,F k→¬S k):i_ w1 F b g mb FD s:=
 ⟨h.blk.but hb (hn b h.fb),h.mp.but hb (hn mb h.fm),h.sec.but hb (fun k hk=>hn k (h.fd k hk)),h.nb,h.nm,h.fb,h.fm,h.fd,fun k hk=>cW (h.lt k hk) hb.size⟩
theorem below (h:i_ w F b g mb FD s) (hb:Below w.heap.size w w1):i_ w1 F b g mb FD s:=h.but (aE.aH hb (fun _=>False)) (fun _ _ hf=>hf)
theorem set (h:i_ w F b g mb FD s) (j:Nat) (u:Value) (s':Wl.Lg) (hc:(lY g mb s).set j u=lY g mb s') (hw:s'.wait=s.wait) (hd:s'.d=s.d):i_ (w.setCell ⟨b,j,none⟩ u) F b g mb FD s'∧bS F w F (w.setCell ⟨b,j,none⟩ u):=by
 have hb:aE (· =b) w (w.setCell ⟨b,j,none⟩ u):=(aE.refl _ w).setCell _ _ (fun _=>rfl)
 refine⟨⟨?_, ?_, ?_,h.nb,h.nm,h.fb,h.fm,h.fd,fun k hk=>cW (h.lt k hk) hb.size⟩,hb.mono (fun k _ e=>e▸h.fb),fun k hk=>.inl hk⟩
 ·rw[←hc];exact h.blk.set j u
 ·rw[hw];exact h.mp.but hb h.Sc
 ·rw[hd];exact h.sec.but hb (fun k hk e=>h.nb (e▸hk))
end i_
theorem Log.lt {w:World} {F:Nat→Prop} {b g:Nat} {s:Wl.Lg} (h:Log w F b g s):∀k,F k→k<w.heap.size:=by
 obtain⟨_,_,h⟩:=h
 exact h.lt
theorem Log.but {S:Nat→Prop} {w w1:World} {F:Nat→Prop} {b g:Nat} {s:Wl.Lg} (h:Log w F b g s) (hb:aE S w w1) (hn:∀k,F k→¬S k):Log w1 F b g s:=by
 obtain⟨_,_,h⟩:=h
 exact (h.but hb hn).log
theorem Log.below {w w1:World} {F:Nat→Prop} {b g:Nat} {s:Wl.Lg} (h:Log w F b g s) (hb:Below w.heap.size w w1):Log w1 F b g s:=by
 obtain⟨_,_,h⟩:=h
 exact (h.below hb).log
end
section
open Go.RowKit Lib
abbrev CT:TypeId:=230
def zeros:List UInt8:=bg 512 0
theorem iD:zeros.length=512:=dM
theorem Ml:(Tryz.prog.info? CT).map (·.size)=some 512:=by kernel_rfl
theorem yD (w:World):(zeroValue CT).run Tryz.prog w=.ok (ctext zeros) w:=by kernel_rfl
theorem FG (l:List UInt8):(l.map bL).toArray.all (·.oneCell')=true:=by
 rw[Array.all_eq_true_iff_forall_mem]
 intro v hv
 simp only[List.mem_toArray,List.mem_map] at hv
 obtain⟨b,_,rfl⟩:=hv
 rfl
def Ah (w:World) (g:Nat) (l:List UInt8):Prop:=aS w g CT (l.map bL)∧l.length=512
theorem Below.but {B:Nat} {S:Nat→Prop} {w w' w'':World} (h:Below B w w') (hb:aE S w' w'') (hB:B≤w'.heap.size) (hS:∀k,k<B→¬S k):Below B w w'':=h.trans (hb.below hB hS)
theorem oD {ops:Array Oper} {rest:List Oper} {o:Oper} {a:Act} {w:World} {Q:Exit→Act→World→Prop} (hgd:o.guard=none) (x y:Operand) (ho:o.op=.store CT x y)
  (g:Nat) (c old:List UInt8) (hx:a.eval x=.pointer (some ⟨g,0,none⟩)) (hy:a.eval y=ctext c) (hc:c.length=512) (hb:Ah w g old)
  (h:∀w',Ah w' g c→aE (fun k=>k=g) w w'→wpList Tryz.prog ops Q rest (a.put o.dst undef) w'):wpList Tryz.prog ops Q (o::rest) a w:=by
 refine wpList_store_row hgd CT x y ho g (c.map bL).toArray hx hy CT (old.map bL).toArray hb.1 (by rw[Ml];simp[hc]) (by simp[hb.2,hc]) (FG c) ?_
 exact h _ ⟨setRow_heap w g _ _ _ _ hb.1,hc⟩ ((aE.refl _ w).setRow g _ (fun _=>rfl))
theorem I5 (w:World) (c:Nat):(Instr.sliceAt CT (.pointer (some ⟨c,0,none⟩)) none none none).run Tryz.prog w=.ok (.slice (some ⟨c,0,none⟩) 512 512) w:=by
 have e1:Tryz.prog.arrayLen CT=512:=by kernel_rfl
 have e2:Tryz.prog.elem CT=5:=by kernel_rfl
 have e3:=run_sliceAt_array_all (P:=Tryz.prog) w CT ⟨c,0,none⟩ (by rw[e1,e2];kernel_rfl)
 rw[e3,e1,e2]
 show ((sizeOf 5).run Tryz.prog w).andThen _=_
 rw[Tryz.sizeOf5]
 simp[go_sem,Addr.add]
theorem Ah.back {w:World} {c:Nat} {t:List UInt8} (hb:Ah w c t):(convert 94 9 (.slice (some ⟨c,0,none⟩) 512 512)).run Tryz.prog w=.ok (.string (bs t)) w:=by
 have:=run_convert_bytes_back (P:=Tryz.prog) w 94 9 5 ⟨c,0,none⟩ 512 t (by kernel_rfl) (by kernel_rfl) (by kernel_rfl) (by
  intro i hi
  rw[qW]
  refine hb.1.cell ?_
  rw[cJ,aJ hi]
  rfl)
 rw[hb.2] at this
 exact this
theorem Ah.new (w:World) (Z:Array Value) (hZ:Z=(zeros.map bL).toArray):Ah (w.alloc (.cells Z CT)) w.heap.size zeros:=by
 subst hZ
 exact⟨aS.new w _ _,iD⟩
theorem Ai:Tryz.prog.underlying 104=some (.map Mk CT):=Tryz.underlying104
theorem gP:Tryz.prog.underlying Mk=some (.int .i64):=Tryz.underlying3
theorem CC.iC {w:World} {b:Nat} {m:Wl.eE} (h:CC w b m) {k:Nat} (hk:k≤1000000) {t:List UInt8} (hl:Wl.look k m=some t):(Instr.lookup 104 (.map (some b)) (.int .i64 k) true).run Tryz.prog w=.ok (.tuple #[ctext t,.bool true]) w∧t.length=512:=
 fR.iC (M:=pS) h gP Ai (yD w) iD hk hl
theorem CC.dU {w:World} {b:Nat} {m:Wl.eE} (h:CC w b m) {k:Nat} (hk:k≤1000000) (hl:Wl.look k m=none):(Instr.lookup 104 (.map (some b)) (.int .i64 k) true).run Tryz.prog w=.ok (.tuple #[ctext zeros,.bool false]) w:=
 fR.dU (M:=pS) h gP Ai (yD w) iD hk hl
end
set_option maxRecDepth 100000
open Go.ChangeShapes Go.WideShapes Go.ChangeAt Go.RowKit
theorem addr_add (g o j:Nat):(⟨g,o,none⟩:Addr).add j=⟨g,o+j,none⟩:=by unfold Addr.add;split<;>simp_all
set_option maxRecDepth 100000
open Go.ChangeShapes Go.WideShapes Go.ChangeAt Go.RowKit
theorem Pv {H:Type} {enc:TypeId×Value→H} {W:World} {n:Nat} {v:Value} {y:DataW H×List MemPlace} {α:Type} [Inhabited α] {T E c:Nat} (f:α→List Value) (ok:α→Prop)
  (hT:Tryz.prog.underlying T=some (.slice E)) (hc:Tryz.prog.cellsOf E=c) (h0:0<c)
  (hel:∀(n:Nat) (cs:List Value) (y:DataW H×List MemPlace),cs.length=c→DataW.trod enc Tryz.prog W 0 (fun _=>true) true n E cs=some y→∃x,cs=f x∧ok x)
  (h:DataW.trod enc Tryz.prog W 0 (fun _=>true) true n T [v]=some y):
  ∃(l:List α) (a:Option Addr) (cap:Nat),v=.slice a l.length cap∧l.length≤cap∧l.length≤9223372036854775807∧∀i (hi:i<l.length),ok l[i]∧∃g o,a=some ⟨g,o,none⟩∧g<W.heap.size∧
   ∀j (hj:j<l.length) m,m<c→W.cell? ⟨g,o+(j*c+m),none⟩=(f l[j])[m]?:=by
 rcases Deep.open_slice hT h with⟨e,_⟩|⟨a,len,cap,m,n',D,Pl,e,_,hl,Rc,hm,_,hx⟩
 ·simp only[List.cons.injEq,and_true] at e
  exact⟨[],none,0,e,af _,by simp,fun i hi=>by simp at hi⟩
 ·simp only[List.cons.injEq,and_true] at e
  subst e
  simp only[if_true] at hm
  subst hm
  rw[hc] at hx
  obtain⟨X,hX⟩:=Deep.choose_lt (α:=α) (p:=fun i x=>W.cells? 0 (a.add (i*c)) c=some (f x)∧ok x) (fun i (hi:i<m)=>by
   obtain⟨cs',h1,h2⟩:=hx i hi
   obtain⟨x,rfl,hx'⟩:=hel _ _ _ (World.cells?_some h1).2.1 h2
   exact⟨x,h1,hx'⟩)
  rcases Nat.eq_zero_or_pos len with rfl|hn
  ·exact⟨[],_,m,rfl,aC _,by simp,fun i hi=>by simp at hi⟩
  ·obtain⟨g,o,spot⟩:=a
   have h00:=(World.cells?_some (hX 0 (by omega)).1).2.2 0 h0
   have Sd:=(World.cells?_some (hX 0 (by omega)).1).2.1
   rw[aJ (by omega)] at h00
   have Se:spot=none:=by simpa[Addr.add] using World.cell?_spot h00
   subst Se
   have hg:=bt _ _ h00
   have hg:g<W.heap.size:=by rw[addr_add,addr_add] at hg;exact hg
   refine⟨(List.range len).map X,some ⟨g,o,none⟩,m,by simp,by simpa using hl,by simp;unfold maxLen at Rc;omega,fun i hi=> ?_⟩
   have hi':i<len:=by simpa using hi
   refine⟨by simpa using (hX i (by omega)).2,g,o,rfl,hg,fun j hj k hk=> ?_⟩
   have hj':j<len:=by simpa using hj
   have k0:=(World.cells?_some (hX j (by omega)).1).2.2 k hk
   rw[addr_add,addr_add] at k0
   rw[List.getElem_map,List.getElem_range,←gd]
   exact k0
theorem CD {m:Int} (hw:(Lit.int .i64 m).wf=true):(-9223372036854775808:Int)≤m∧m≤9223372036854775807:=by
 simp only[Lit.wf,fy,decide_eq_true_eq] at hw
 exact hw
section
open Go.ChangeShapes Go.WideShapes Go.ChangeAt Go.RowKit
open Go.ChangeMaps (open_string shut_string)
def Mm:DataW Unit→Value
 |.lit (.int k z)=>.int k z
 |_=>undef
def Aj:DataW Unit→List Value
 |.agg l=>l.map Mm
 |_=>[]
def FH:DataW Unit→List Value
 |.agg l=>l.flatMap Aj
 |_=>[]
def I6 (cs:Array Value):Obj→Obj
 |.cells _ t frozen=>.cells cs t frozen
 |o=>o
noncomputable def laidWorld (os:Os):World:=
 {World.holding Tryz.prog os ⟨#[],#[],[]⟩ with heap:=((World.holding Tryz.prog os ⟨#[],#[],[]⟩).heap.modify 2 (I6 (FH Rows.laid_unicode_utf8_acceptRanges).toArray)).modify 1 (I6 (Aj Rows.laid_unicode_utf8_first).toArray)}
end
namespace Wl
open Dk (fu full)
def along (H:List Text) (ps:List (Int×Text)):List Text:=ps.foldl (fun H p=>H.set p.1.toNat (full p.2)) H
def Sf (g:eE) (ps:List (Int×Text)):eE:=ps.foldl (fun g p=>ins p.1.toNat (full p.2) g) g
theorem yE (H:List Text) (a b:List (Int×Text)):along H (a++b)=along (along H a) b:=by simp[along]
theorem cO:∀(ps:List (Int×Text)) (H:List Text),(along H ps).length=H.length
 |[],_=>rfl
 |p::ps,H=>by show (along (H.set _ _) ps).length=_;rw[cO ps,bP]
theorem tX:∀(ps:List (Int×Text)) {g:eE},ck g→ck (Sf g ps)
 |[],_,h=>h
 |_::ps,_,h=>tX ps (fH _ _ h)
theorem I7 (H:List Text) {g:eE} (hr:ck g) (k:Nat) (t:Text):fu H (ins k t g)=(fu H g).set k t:=by
 refine List.ext_getElem? fun j=> ?_
 rw[nH (fH k t hr),fG,List.getElem?_set,Dk.gI,nH hr]
 by_cases hj:j<H.length
 ·rw[if_pos hj,if_pos hj]
  by_cases hk:k=j
  ·subst hk;simp[hj]
  ·rw[if_neg (Ne.symm hk),if_neg hk]
 ·rw[if_neg hj,if_neg hj]
  split
  ·rename_i e;subst e;rw[if_neg hj]
  ·rfl
theorem Ak:∀(ps:List (Int×Text)) (H:List Text) {g:eE},ck g→fu H (Sf g ps)=along (fu H g) ps
 |[],_,_,_=>rfl
 |p::ps,H,g,h=>by
  show fu H (Sf (ins _ _ g) ps)=along ((fu H g).set _ _) ps
  rw[Ak ps H (fH _ _ h),I7 H h]
theorem tY:ck ([]:eE):=List.Pairwise.nil
theorem jA (k:Nat) (t:Text):∀{m:eE},ck m→(ins k t m).length=if (look k m).isSome then m.length else m.length+1
 |[],_=>rfl
 |x::m,hr=>by
  obtain⟨h1,h2⟩:=cw.1 hr
  unfold ins
  by_cases hk:k<x.1
  ·rw[if_pos hk]
   have:look k (x::m)=none:=dU.2 fun y hy=>by
    rcases aQ.1 hy with rfl|hy
    ·omega
    ·have:=h1 y hy;omega
   rw[this];rfl
  ·rw[if_neg hk]
   unfold look
   by_cases he:k=x.1
   ·rw[if_pos he,if_pos he.symm];rfl
   ·rw[if_neg he,if_neg (Ne.symm he),aW,jA k t h2]
    split<;>rfl
end Wl
namespace Rm
open Wl (Text)
def fX (s:Text) (k:Nat):Bool:=(s.getD (k/8) 0).toNat.testBit (k%8)
def flip (s:Text) (k:Nat):Text:=s.set (k/8) (s.getD (k/8) 0^^^aY (2^(k%8)))
theorem j7 (s:Text) (k:Nat):(flip s k).length=s.length:=bP
theorem Al (i j:Nat):(2^i).testBit j=decide (j=i):=by
 grind
theorem CE (s:Text) {k:Nat} (hk:k/8<s.length) (j:Nat):fX (flip s k) j=if j=k then !fX s j else fX s j:=by
 unfold fX flip
 have hp:2^(k%8)<256:=by
  have:2^(k%8)≤2^7:=Nat.pow_le_pow_right (by decide) (by omega)
  omega
 by_cases h:j/8=k/8
 ·rw[h,bT,List.getElem?_set_self hk,Option.getD_some,UInt8.toNat_xor,Nat.testBit_xor,dY,kC hp,Al]
  by_cases e:j=k
  ·grind
  ·grind
 ·grind
def count (s:Text):Nat→Nat
 |0=>0
 |n+1=>count s n+(fX s n).toNat
theorem count_le (s:Text):∀n,count s n≤n
 |0=>af _
 |n+1=>by have:=count_le s n;have:=Bool.toNat_le (fX s n);show count s n+_≤_;omega
def I8 (b n:Nat):Nat:=((List.range n).filter fun i=>b.testBit i).length
theorem FI (b n:Nat):I8 b (n+1)=I8 b n+(b.testBit n).toNat:=by
 grind [I8,List.range_succ,aq]
theorem FJ (s:Text) (k:Nat):∀n,n≤8→count s (8*k+n)=count s (8*k)+I8 (s.getD k 0).toNat n
 |0,_=>rfl
 |n+1,h=>by
  show count s (8*k+n)+(fX s (8*k+n)).toNat=_
  rw[FJ s k n (by omega),FI]
  unfold fX
  rw[show (8*k+n)/8=k by omega,show (8*k+n)%8=n by omega,gd]
def Ez (s:Text) (f:Nat):Prop:=(∀j,j<f→fX s j=true)∧f≤8*s.length∧(f<8*s.length→fX s f=false)
def iP (s:Text) (k:Nat):Nat→Nat
 |0=>0
 |i+1=>iP s k i*256+(s.getD (8*k+i) 0).toNat
def num (s:Text) (k:Nat):Nat:=iP s k 8
theorem Am (s:Text) (k:Nat):∀i,iP s k i<256^i
 |0=>Nat.one_pos
 |i+1=>by
  have:=Am s k i
  have h2:(s.getD (8*k+i) 0).toNat<256:=UInt8.toNat_lt _
  show iP s k i*256+_<_
  rw[Nat.pow_succ]
  omega
def oF (s:Text) (k n:Nat):Nat→Text
 |0=>s
 |i+1=>(oF s k n i).set (8*k+i) (aY (n/256^(7-i)))
def put (s:Text) (k n:Nat):Text:=oF s k n 8
theorem jk (s:Text) (k n:Nat):∀i,(oF s k n i).length=s.length
 |0=>rfl
 |i+1=>by show (List.set _ _ _).length=_;rw[bP,jk s k n i]
theorem oO (s:Text) (k n:Nat):(put s k n).length=s.length:=jk s k n 8
theorem tZ (s:Text) (k n j:Nat) (hs:8*k+8≤s.length):∀i,i≤8→(oF s k n i).getD j 0=if 8*k≤j∧j<8*k+i then aY (n/256^(7-(j-8*k))) else s.getD j 0
 |0,_=>by rw[if_neg (by omega)];rfl
 |i+1,h=>by
  show ((oF s k n i).set (8*k+i) _).getD j 0=_
  by_cases e:j=8*k+i
  ·grind [List.getElem?_set_self,jk]
  ·rw[bT,qZ (by omega),←bT,tZ s k n j hs i (by omega)]
   by_cases h1:8*k≤j∧j<8*k+i
   ·grind
   ·grind
theorem xp (s:Text) (k n:Nat) (hs:8*k+8≤s.length) (hn:n<256^8):∀i,i≤8→iP (put s k n) k i=n/256^(8-i)
 |0,_=>(Nat.div_eq_of_lt hn).symm
 |i+1,h=>by
  show iP (put s k n) k i*256+((put s k n).getD (8*k+i) 0).toNat=_
  rw[xp s k n hs hn i (by omega)]
  unfold put
  rw[tZ s k n _ hs 8 (af _),if_pos (by omega),show 8*k+i-8*k=i by omega,dY]
  rw[show 8-i=(7-i)+1 by omega,show 8-(i+1)=7-i by omega,Nat.pow_succ,←Nat.div_div_eq_div_mul]
  have:=Nat.div_add_mod (n/256^(7-i)) 256
  omega
theorem Mn (s:Text) (k n:Nat) (hs:8*k+8≤s.length) (hn:n<256^8):num (put s k n) k=n:=by
 have:=xp s k n hs hn 8 (af _)
 rwa [Nat.sub_self,Nat.pow_zero,Nat.div_one] at this
theorem FK (s:Text) (k n j:Nat) (hs:8*k+8≤s.length) (hj:j≠k):num (put s k n) j=num s j:=by
 have key:∀i,i≤8→iP (put s k n) j i=iP s j i:=by
  intro i
  induction i with
  |zero=>intro _;rfl
  |succ i ih=>
   intro h
   show iP (put s k n) j i*256+_=iP s j i*256+_
   rw[ih (by omega)]
   unfold put
   rw[tZ s k n _ hs 8 (af _),if_neg (by omega)]
 exact key 8 (af _)
def pages (n:Int):Nat:=if n<1 then 0 else let r:=(min n 1048576).toNat-1;r-(r+4096)/4097
theorem FM {n:Nat} (h1:2≤n) (h2:n≤4098):pages n=n-2:=by
 grind [pages]
structure dx (K:List Text) (pg:List (Option Text)) (rt:List Nat):Prop where
 len:K.length=pg.length+2
 full:∀t∈K,t.length=512
 bit:∀p,p<pg.length→fX (K.getD 1 []) p=(pg.getD p none).isSome
 page:∀p t,pg[p]?=some (some t)→K.getD (2+p) []=t
 t_:rt.length=16
 num:∀k,k<16→num (K.getD 0 []) k=rt.getD k 0
 few:pg.length≤4096
namespace dx
variable {K:List Text} {pg:List (Option Text)} {rt:List Nat}
theorem home (h:dx K pg rt) {i:Nat} (hi:i<K.length):(K.getD i []).length=512:=by
 rw[bT,aJ hi,Option.getD_some]
 exact h.full _ (bB hi)
theorem tg (h:dx K pg rt) (i:Nat) {t:Text} (ht:t.length=512):∀u∈K.set i t,u.length=512:=by
 intro u hu
 rcases List.mem_or_eq_of_mem_set hu with hu|hu
 ·exact h.full u hu
 ·rw[hu];exact ht
theorem dG {α:Type} (l:List α) (i j:Nat) (x d:α) (hi:i<l.length):(l.set i x).getD j d=if j=i then x else l.getD j d:=by
 grind
theorem write (h:dx K pg rt) {p:Nat} (hp:p<pg.length) (hs:(pg.getD p none).isSome) {t:Text} (ht:t.length=512):dx (K.set (2+p) t) (pg.set p (some t)) rt:=by
 have hl:=h.len
 refine⟨by rw[bP,bP,h.len],h.tg _ ht,fun q hq=> ?_,fun q u hu=> ?_,h.t_,fun k hk=> ?_,by rw[bP];exact h.few⟩
 ·rw[bP] at hq
  rw[dG _ _ _ _ _ (by omega),if_neg (by omega),dG _ _ _ _ _ hp,h.bit q hq]
  by_cases e:q=p
  ·grind
  ·rw[if_neg e]
 ·rw[dG _ _ _ _ _ (by omega)]
  by_cases e:q=p
  ·grind
  ·rw[qZ (fun x=>e x.symm)] at hu
   rw[if_neg (by omega)]
   exact h.page q u hu
 ·rw[dG _ _ _ _ _ (by omega),if_neg (by omega)]
  exact h.num k hk
theorem iE (h:dx K pg rt) {p:Nat} (hp:p<pg.length) {o:Option Text} (ho:o.isSome= !(pg.getD p none).isSome) (cy:∀t,o=some t→K.getD (2+p) []=t):dx (K.set 1 (flip (K.getD 1 []) p)) (pg.set p o) rt:=by
 have hl:=h.len
 have hf:=h.few
 have h1:(K.getD 1 []).length=512:=h.home (by omega)
 refine⟨by rw[bP,bP,h.len],h.tg _ (by rw[j7];exact h1),fun q hq=> ?_,fun q u hu=> ?_,h.t_,fun k hk=> ?_,by rw[bP];exact h.few⟩
 ·rw[bP] at hq
  rw[dG _ _ _ _ _ (by omega),if_pos rfl,CE _ (by rw[h1];omega),dG _ _ _ _ _ hp,h.bit q hq]
  by_cases e:q=p
  ·grind
  ·grind
 ·rw[dG _ _ _ _ _ (by omega),if_neg (by omega)]
  by_cases e:q=p
  ·grind
  ·rw[qZ (fun x=>e x.symm)] at hu
   exact h.page q u hu
 ·rw[dG _ _ _ _ _ (by omega),if_neg (by omega)]
  exact h.num k hk
theorem free (h:dx K pg rt) {p:Nat} (hp:p<pg.length) (hs:(pg.getD p none).isSome):dx (K.set 1 (flip (K.getD 1 []) p)) (pg.set p none) rt:=
 h.iE hp (by rw[hs];rfl) (fun t ht=>by cases ht)
theorem Pw (h:dx K pg rt) {p:Nat} (hp:p<pg.length) (hs:pg.getD p none=none) {t:Text} (ht:t.length=512):dx (K.set (2+p) t) pg rt:=by
 have hl:=h.len
 refine⟨by rw[bP,h.len],h.tg _ ht,fun q hq=> ?_,fun q u hu=> ?_,h.t_,fun k hk=> ?_,h.few⟩
 ·rw[dG _ _ _ _ _ (by omega),if_neg (by omega),h.bit q hq]
 ·rw[dG _ _ _ _ _ (by omega),if_neg]
  ·exact h.page q u hu
  ·grind
 ·rw[dG _ _ _ _ _ (by omega),if_neg (by omega)]
  exact h.num k hk
theorem set (h:dx K pg rt) {k n:Nat} (hk:k<16) (hn:n<256^8):dx (K.set 0 (put (K.getD 0 []) k n)) pg (rt.set k n):=by
 have hl:=h.len
 have h0:(K.getD 0 []).length=512:=h.home (by omega)
 refine⟨by rw[bP,h.len],h.tg _ (by rw[oO];exact h0),fun q hq=> ?_,fun q u hu=> ?_,by rw[bP];exact h.t_,fun j hj=> ?_,h.few⟩
 ·rw[dG _ _ _ _ _ (by omega),if_neg (by omega),h.bit q hq]
 ·rw[dG _ _ _ _ _ (by omega),if_neg (by omega)]
  exact h.page q u hu
 ·rw[dG _ _ _ _ _ (by omega),if_pos rfl,dG _ _ _ _ _ (by rw[h.t_];exact hk)]
  by_cases e:j=k
  ·grind [Mn]
  ·rw[if_neg e,FK _ _ _ _ (by omega) e,h.num j hj]
end dx
theorem sq (j:Nat):(bg 512 (0:UInt8)).getD j 0=0:=by
 grind
theorem yF (k:Nat):fX (bg 512 0) k=false:=by
 unfold fX
 rw[sq]
 exact Nat.zero_testBit _
theorem CF (k:Nat):num (bg 512 0) k=0:=by
 have key:∀i,iP (bg 512 0) k i=0:=by
  intro i
  induction i with
  |zero=>rfl
  |succ i ih=>
   show iP _ k i*256+_=0
   rw[ih,sq]
   rfl
 exact key 8
theorem Mo (n:Nat) (h1:2≤n) (h2:n≤4098):dx (Wl.dz n) (bg (n-2) none) (bg 16 0):=by
 have hf:Dk.full []=bg 512 0:=rfl
 have hg:∀i,i<n→(Wl.dz n).getD i []=bg 512 0:=by
  intro i hi
  unfold Wl.dz
  rw[bT,mQ,if_pos hi,Option.getD_some,hf]
 refine⟨by unfold Wl.dz;rw[dM,dM];omega,fun t ht=> ?_,fun p hp=> ?_,fun p t hp=> ?_,dM,fun k hk=> ?_,by rw[dM];omega⟩
 ·rw[(List.mem_replicate.1 ht).2,hf,dM]
 ·rw[hg 1 (by omega),yF,bT,mQ]
  rw[dM] at hp
  rw[if_pos hp];rfl
 ·grind
 ·rw[hg 0 (by omega),CF,bT,mQ,if_pos hk]
  rfl
def used (pg:List (Option Text)):Nat:=(pg.filter Option.isSome).length
def firstFree:List (Option Text)→Option Nat
 |[]=>none
 |none::_=>some 0
 |some _::l=>(firstFree l).map (· +1)
theorem mS:∀{pg:List (Option Text)} {p:Nat},(∀q,q<p→(pg.getD q none).isSome)→p<pg.length→pg.getD p none=none→firstFree pg=some p
 |[],_,_,h,_=>absurd h (Nat.not_lt_zero _)
 |none::pg,0,_,_,_=>rfl
 |some t::pg,0,_,_,h=>by cases h
 |none::pg,p+1,h,_,_=>by have:=h 0 (by omega);cases this
 |some t::pg,p+1,h,h2,h3=>by
  show (firstFree pg).map (· +1)=_
  rw[mS (p:=p) (fun q hq=>h (q+1) (by omega)) (by simpa using h2) h3]
  rfl
theorem mT:∀{pg:List (Option Text)},(∀q,q<pg.length→(pg.getD q none).isSome)→firstFree pg=none
 |[],_=>rfl
 |none::pg,h=>by have:=h 0 (by simp);cases this
 |some t::pg,h=>by
  show (firstFree pg).map (· +1)=_
  rw[mT (pg:=pg) (fun q hq=>h (q+1) (by simpa using hq))]
  rfl
theorem lZ:∀{pg:List (Option Text)} {p:Nat},firstFree pg=some p→p<pg.length∧pg.getD p none=none
 |[],_,h=>by cases h
 |none::pg,p,h=>by
  injection h with h
  subst h
  exact⟨by simp,rfl⟩
 |some t::pg,p,h=>by
  change (firstFree pg).map (· +1)=some p at h
  cases hf:firstFree pg with
  |none=>rw[hf] at h;cases h
  |some q=>
   rw[hf] at h
   injection h with h
   subst h
   have:=lZ hf
   exact⟨by simpa using this.1,this.2⟩
def refuse (pg:List (Option Text)) (i:Int):Int:=if 0≤i∧i<pg.length then (if (pg.getD i.toNat none).isSome then 0 else 6) else 2
def got (pg:List (Option Text)) (i:Int):Text:=if 0≤i∧i<pg.length then (pg.getD i.toNat none).getD [] else []
def wrote (pg:List (Option Text)) (i:Int) (n:Nat):Int:=if refuse pg i=0 then (if 512<n then 5 else 0) else refuse pg i
def has (pg:List (Option Text)) (i:Int):Bool:=if 0≤i∧i<pg.length then (pg.getD i.toNat none).isSome else false
def uc (pg:List (Option Text)) (i:Int):Int:=if 0≤i∧i<pg.length then 0 else 2
inductive At (pg:List (Option Text)) (i:Int):Prop
 |out (h:i<0∨(pg.length:Int)≤i) (hr:refuse pg i=2) (hg:got pg i=[]) (hh:has pg i=false) (hn:uc pg i=2)
 |free (p:Nat) (hi:i=p) (hp:p<pg.length) (hs:pg.getD p none=none) (hr:refuse pg i=6) (hg:got pg i=[]) (hh:has pg i=false) (hn:uc pg i=0)
 |taken (p:Nat) (t:Text) (hi:i=p) (hp:p<pg.length) (hs:pg.getD p none=some t) (hr:refuse pg i=0) (hg:got pg i=t) (hh:has pg i=true) (hn:uc pg i=0)
theorem ud (pg:List (Option Text)) (i:Int):At pg i:=by
 by_cases h:0≤i∧i<pg.length
 ·obtain⟨p,rfl⟩:∃p:Nat,i=p:=⟨i.toNat,by omega⟩
  have hp:p<pg.length:=by omega
  cases hs:pg.getD p none with
  |none=>exact .free p rfl hp hs (by unfold refuse;rw[if_pos h,cX,hs];rfl) (by unfold got;rw[if_pos h,cX,hs];rfl) (by unfold has;rw[if_pos h,cX,hs];rfl) (by unfold uc;rw[if_pos h])
  |some t=>exact .taken p t rfl hp hs (by unfold refuse;rw[if_pos h,cX,hs];rfl) (by unfold got;rw[if_pos h,cX,hs];rfl) (by unfold has;rw[if_pos h,cX,hs];rfl) (by unfold uc;rw[if_pos h])
 ·exact .out (by omega) (by unfold refuse;rw[if_neg h]) (by unfold got;rw[if_neg h]) (by unfold has;rw[if_neg h]) (by unfold uc;rw[if_neg h])
theorem mG (pg:List (Option Text)):firstFree pg=none∨∃p,firstFree pg=some p∧p<pg.length∧pg.getD p none=none:=by
 cases h:firstFree pg with
 |none=>exact .inl rfl
 |some p=>exact .inr ⟨p,rfl,(lZ h).1,(lZ h).2⟩
theorem CG {s:Text} {pg:List (Option Text)} (h:∀p,p<pg.length→fX s p=(pg.getD p none).isSome) (hs:s.length=512) (hn:pg.length≤4096) {f:Nat} (hf:Ez s f):
  (pg.length≤f∧firstFree pg=none)∨(f<pg.length∧firstFree pg=some f):=by
 obtain⟨h1,h2,h3⟩:=hf
 by_cases hlt:f<pg.length
 ·refine .inr ⟨hlt,mS (fun q hq=> ?_) hlt ?_⟩
  ·grind
  ·have:=h3 (by omega)
   rw[h f hlt] at this
   cases e:pg.getD f none with
   |none=>rfl
   |some t=>rw[e] at this;cases this
 ·grind [mT]
end Rm
section
open Go.RowKit Lib
section
variable {P:Program}
theorem n_ (w:World) (t ty e:TypeId) (i:TypeInfo) (ht:P.underlying t=some (.slice e)) (hi:P.info? e=some i) (hs1:i.size=1)
  (g sLen sCap:Nat) (cur:Array Value) (fz:Nat×Nat) (hg:w.heap[g]?=some (.cells cur e fz)) (hfz:¬(fz.1≤sLen∧sLen<fz.2))
  (a:Addr) (u:Value) (hu:w.cell? a=some u) (h1:u.oneCell'=true) (hroom:sLen+1≤sCap) (hfit:sLen<cur.size):
  (Builtin.append_ #[t,t] ty #[.slice (some ⟨g,0,none⟩) sLen sCap,.slice (some a) 1 1]).run P w=.ok (.slice (some ⟨g,0,none⟩) (sLen+1) sCap) (w.setRow g (cur.setIfInBounds sLen u)):=by
 have hf:=run_firstCells_some (P:=P) w i.size 1 a 1 1 [u] (by simp[hs1]) (fun j v hj=>by
  cases j with
  |zero=>simp at hj;subst hj;simpa[Addr.add] using hu
  |succ j=>simp at hj)
 have hcell:w.cell? ⟨g,sLen,none⟩=some cur[sLen]:=by simp[World.cell?,hg,hfit]
 have Wm:w.frozen? ⟨g,sLen,none⟩=false:=by
  unfold World.frozen?
  rw[hg]
  simp only[Bool.and_eq_false_iff,decide_eq_false_iff_not]
  by_cases h:fz.1≤sLen
  ·omega
  ·exact .inl h
 have Mp:(⟨g,sLen,none⟩:Addr).add 0=⟨g,sLen,none⟩:=by simp[Addr.add]
 have hst:(storeCells ⟨g,sLen,none⟩ [u]).run P w=.ok () (w.setRow g (cur.setIfInBounds sLen u)):=by
  simp only[storeCells,Sem.run_bind]
  rw[Mp,run_store P w _ u _ h1,hcell]
  simp[Wm,setCell_eq_setRow w g sLen cur e fz u hg]
 simp[Builtin.append_,run_underlying ht,sizeOf,typeInfo,hi,hs1,Builtin.lenOf,hroom,hs1▸hf,Addr.add_lit,hst]
end
def I9 (B:Nat) (w:World) (v:Value) (l:List UInt8):Prop:=
 ∃g cap cur fz,v=.slice (some ⟨g,0,none⟩) l.length cap∧B≤g∧w.heap[g]?=some (.cells cur 5 fz)∧(∀j,j<cur.size→¬(fz.1≤j∧j<fz.2))∧l.length≤cap∧cap≤maxLen∧cur.size=cap∧cur.toList.take l.length=l.map bL
theorem I9.slice {B:Nat} {w:World} {v:Value} {l:List UInt8} (h:I9 B w v l):∃g cap,v=.slice (some ⟨g,0,none⟩) l.length cap∧B≤g:=by
 obtain⟨g,cap,cur,fz,rfl,h1,_⟩:=h
 exact⟨g,cap,rfl,h1⟩
theorem oG (w:World) (s:ByteArray) (hs:s.size≤1000000):∃v o,(convert 9 94 (.string s)).run Tryz.prog w=.ok v (w.drew.alloc o)∧I9 w.heap.size (w.drew.alloc o) v s.data.toList:=by
 refine⟨_,_,run_bytes_of_string (P:=Tryz.prog) w 9 94 5 s Tryz.underlying9 Tryz.underlying94 Tryz.underlying5, ?_⟩
 have hge:=grownCap_ge w s.size 0 5
 have hle:=grownCap_le_maxLen w s.size 0 5 (by unfold maxLen;omega)
 have hsz:(bytesRow s (grownCap w s.size 0 5)).size=grownCap w s.size 0 5:=by
  have hd:s.data.size=s.size:=rfl
  simp[bytesRow,hd];omega
 have hl:s.data.toList.length=s.size:=aZ
 refine⟨w.heap.size,grownCap w s.size 0 5,bytesRow s (grownCap w s.size 0 5),_,by rw[hl],af _,heap_alloc_new w.drew _,fun j hj h=>by have:=h.1;simp only at this;omega,by rw[hl];exact hge,hle,hsz, ?_⟩
 unfold bytesRow
 rw[Array.toList_append,List.take_append_of_le_length (by simp),bZ (by simp),Array.toList_map]
 rfl
def dP:Elem UInt8:=nE bL (fun _=>rfl)
theorem I_:dD Tryz.prog 94 5 dP.size:=dD.of (size:=1) (bytes:=1) (z:=.int .u8 0) Tryz.underlying94 (by kernel_rfl) rfl (by decide)
abbrev gi (B:Nat) (w:World) (v:Value) (l:List UInt8):Prop:=Own dP 5 B w v l
theorem aE.pV {w w':World} {row:Option Nat} (hg:w.grownBy w' row):aE (fun x=>row=some x) w w':=⟨hg.os,hg.tape,hg.output,hg.size,fun x hx hn=>hg.block x hx (fun e=>hn e.symm)⟩
def eO (z:Bool) (B:Nat) (w:World) (v:Value) (l:List UInt8):Prop:=
 ∃g cap cur fz,v=.slice (some ⟨g,0,none⟩) l.length cap∧B≤g∧w.heap[g]?=some (.cells cur 5 fz)∧(∀j,j<cur.size→¬(fz.1≤j∧j<fz.2))∧l.length≤cap∧cap≤maxLen∧cur.size=cap∧cur.toList.take l.length=l.map bL∧(z=true→fz=(0,0))
variable {z:Bool}
theorem eO.but {B:Nat} {S:Nat→Prop} {w w':World} {v:Value} {l:List UInt8} (h:eO z B w v l) (hb:aE S w w') (hn:∀g,v.ownBlock=some g→¬S g):eO z B w' v l:=by
 obtain⟨g,cap,cur,fz,rfl,h1,h2,h3⟩:=h
 exact⟨g,cap,cur,fz,rfl,h1,by rw[hb.block g (iA.1 h2).1 (hn g rfl)];exact h2,h3⟩
theorem eO.alloc {B:Nat} {w:World} {v:Value} {l:List UInt8} (h:eO z B w v l) (o:Obj):eO z B (w.alloc o) v l:=h.but ((aE.refl (fun _=>False) w).alloc o) (fun _ _ h=>h)
theorem eO.slice {B:Nat} {w:World} {v:Value} {l:List UInt8} (h:eO z B w v l):∃g cap,v=.slice (some ⟨g,0,none⟩) l.length cap∧B≤g∧g<w.heap.size∧l.length≤cap:=by
 obtain⟨g,cap,cur,fz,rfl,h1,h2,_,h4,_⟩:=h
 exact⟨g,cap,rfl,h1,(iA.1 h2).1,h4⟩
theorem eO.cell {B:Nat} {w:World} {g n cap:Nat} {l:List UInt8} (h:eO z B w (.slice (some ⟨g,0,none⟩) n cap) l) (j:Nat) (hj:j<l.length):w.cell? ⟨g,j,none⟩=some (bL l[j]):=by
 obtain⟨g',cap',cur,fz,e,h1,h2,_,_,_,_,h3,_⟩:=h
 injection e with e1 e2 e3
 injection e1 with e1
 injection e1 with e1
 subst e1
 rw[cell_of_row w g j cur _ fz h2]
 have:(cur.toList.take l.length)[j]?=some (bL l[j]):=by rw[h3,cJ,aJ hj];rfl
 rw[List.getElem?_take,if_pos hj] at this
 simpa using this
theorem eO.typed {B:Nat} {w:World} {v:Value} {l:List UInt8} (h:eO z B w v l) {k:Nat} (hk:v.ownBlock=some k):∃cur fz,w.heap[k]?=some (.cells cur 5 fz):=by
 obtain⟨g,cap,cur,fz,rfl,_,h2,_⟩:=h
 simp[Value.ownBlock] at hk
 subst hk
 exact⟨cur,fz,h2⟩
theorem eO.Sg {B:Nat} {w:World} {g n cap:Nat} {l:List UInt8} (h:gi B w (.slice (some ⟨g,0,none⟩) n cap) l):eO true B w (.slice (some ⟨g,0,none⟩) n cap) l:=by
 rcases h.2 with⟨e,_⟩|⟨g',cap',cur,e,hg,hh,hc,hm,hs,ht⟩
 ·cases e
 ·injection e with e1 e2 e3
  injection e1 with e1
  injection e1 with e1
  subst e1 e2 e3
  refine⟨g,cap,cur,(0,0),rfl,hg,hh,fun j _ h=>by have:=h.2;simp only at this;omega,hc,hm, ?_, ?_,fun _=>rfl⟩
  ·rw[show dP.size=1 from rfl,Nat.mul_one] at hs;exact hs
  ·rw[show dP.cells l=l.map bL from cM _ _ _,show dP.size=1 from rfl,Nat.mul_one] at ht;exact ht
theorem eO.const (w:World) (l:List UInt8) (hn:l.length≤1000000):eO false 0 (w.alloc (.cells (l.map bL).toArray 5 (l.length,l.length+1))) (.slice (some ⟨w.heap.size,0,none⟩) l.length l.length) l:=
 ⟨w.heap.size,l.length,(l.map bL).toArray,(l.length,l.length+1),rfl,aC _,heap_alloc_new w _,fun j hj h=>by have:=h.1;simp at hj;simp only at this;omega,af _,by unfold maxLen;omega,by simp,by rw[bZ (by simp)],fun h=>by cases h⟩
theorem q7 {B:Nat} {w:World} {v:Value} {l:List UInt8} {ops:Array Oper} {rest:List Oper} {o:Oper} {a:Act} {Q:Exit→Act→World→Prop} (hgd:o.guard=none) (s x:Operand)
  (ho:o.op=.call {callee:=.builtin .append,args:=#[s,x],argTypes:=#[94,94]})
  (hs:a.eval s=v) (hown:eO z B w v l) (hB:B≤w.heap.size) (g:Nat) (c:UInt8) (hx:a.eval x=.slice (some ⟨g,0,none⟩) 1 1) (hc:w.cell? ⟨g,0,none⟩=some (bL c)) (hlen:l.length≤900000000)
  (h:∀v' w',eO z B w' v' (l++[c])→aE (fun k=>v.ownBlock=some k) w w'→(v'.ownBlock=v.ownBlock∨∀k,v'.ownBlock=some k→w.heap.size≤k)→wpList Tryz.prog ops Q rest (a.put o.dst v') w'):wpList Tryz.prog ops Q (o::rest) a w:=by
 obtain⟨i,hi,hz,hsz,hby⟩:=jZ (P:=Tryz.prog) (E:=5) (size:=1) (bytes:=1) (z:=.int .u8 0) (by kernel_rfl)
 obtain⟨gv,cap,cur,fz,rfl,h1,h2,h3,h4,h5,h6,h7,h7z⟩:=hown
 have hrun:∃v' w',(Builtin.append_ #[94,94] o.type #[.slice (some ⟨gv,0,none⟩) l.length cap,.slice (some ⟨g,0,none⟩) 1 1]).run Tryz.prog w=.ok v' w'∧eO z B w' v' (l++[c])∧aE (fun k=>some gv=some k) w w'∧(v'.ownBlock=some gv∨∀k,v'.ownBlock=some k→w.heap.size≤k):=by
  by_cases hroom:l.length+1≤cap
  ·refine⟨_,_,n_ w 94 o.type 5 i Tryz.underlying94 hi hsz gv l.length cap cur fz h2 (h3 _ (by omega)) ⟨g,0,none⟩ (bL c) hc rfl hroom (by omega),⟨gv,cap,cur.setIfInBounds l.length (bL c),fz,by simp,h1,setRow_heap w gv cur _ _ fz h2,by simpa using h3,by simpa using hroom,h5,by simpa using h6, ?_,h7z⟩,(aE.refl _ w).setRow gv _ (fun _=>rfl),.inl rfl⟩
   rw[Array.toList_setIfInBounds,aq,eH,cI (by simp;omega),List.getElem_set_self,List.take_set,bI]
   rw[List.set_eq_of_length_le (by rw[aN];omega),h7]
   rfl
  ·have holds:∀j u,(l.map bL)[j]?=some u→w.cell? ((⟨gv,0,none⟩:Addr).add j)=some u:=by
    intro j u hu
    rw[show (⟨gv,0,none⟩:Addr).add j=⟨gv,j,none⟩ by unfold Addr.add;split<;>simp_all,cell_of_row w gv j cur _ fz h2]
    rw[←h7] at hu
    by_cases hj:j<l.length
    ·grind
    ·grind
   have hr:=run_append_grow (P:=Tryz.prog) w 94 o.type 5 i (.int .u8 0) Tryz.underlying94 hi hz ⟨gv,0,none⟩ l.length cap (l.map bL) (by rw[hsz];simp) holds ⟨g,0,none⟩ 1 1 [bL c] (by rw[hsz];rfl) (fun j u hu=>by
    cases j with
    |zero=>simp at hu;subst hu;simpa[Addr.add] using hc
    |succ j=>simp at hu) (by omega) (by omega) (growslice_fits (by omega) (by rw[hby];omega))
   have hge:=grownCap_ge w (l.length+1) cap 5
   have hle:=grownCap_le_maxLen w (l.length+1) cap 5 (by unfold maxLen;omega)
   refine⟨_,_,hr,⟨w.heap.size,grownCap w (l.length+1) cap 5,_,(0,0),by simp,hB,heap_alloc_new w.drew _,fun j _ h=>by have:=h.2;simp only at this;omega,by simpa using hge,hle, ?_, ?_,fun _=>rfl⟩,(aE.refl _ w).drew.alloc _,.inr fun k hk=>by simp[Value.ownBlock] at hk;omega⟩
   ·simp only[Array.size_append,List.size_toArray,aM,size_zeroCells,eH]
    show l.length+1+(grownCap w (l.length+1) cap 5-(l.length+1))*1=_
    omega
   ·grind
 obtain⟨v',w',hr,h8,h9,h10⟩:=hrun
 refine wpList_plain hgd fun K hK=> ?_
 unfold Oper.wp execOp
 simp only[ho,resolve,invoke,builtin,Sem.run_bind,Sem.run_pure,Result.andThen_ok,List.map_toArray,bH,List.map_nil,hs,hx,hr]
 exact hK _ _ (h v' w' h8 h9 h10)
theorem eO.back {B:Nat} {w:World} {v:Value} {l:List UInt8} (h:eO z B w v l):(convert 94 9 v).run Tryz.prog w=.ok (.string (bs l)) w:=by
 obtain⟨g,cap,rfl,_⟩:=h.slice
 exact run_convert_bytes_back (P:=Tryz.prog) w 94 9 5 ⟨g,0,none⟩ cap l (by kernel_rfl) (by kernel_rfl) (by kernel_rfl) (by
  intro i hi
  rw[show (⟨g,0,none⟩:Addr).add i=⟨g,i,none⟩ by unfold Addr.add;split<;>simp_all]
  exact h.cell i hi)
theorem Ao (w j n:Nat) (hj:j<w):Wl.enc (j+1) (n/256^(w-(j+1)))=Wl.enc j (n/256^(w-j))++[aY (n/256^(w-(j+1)))]:=by
 rw[Wl.enc,Nat.div_div_eq_div_mul,←Nat.pow_succ,show (w-(j+1)).succ=w-j by omega]
theorem q8 (n k:Nat):(n:Int)/2^(8*k)%256=((aY (n/256^k)).toNat:Int):=by
 have e:(n:Int)/2^(8*k)=((n/256^k:Nat):Int):=by
  rw[Int.natCast_ediv]
  congr 1
  rw[show (256:Nat)=2^8 from rfl,←Nat.pow_mul,Int.natCast_pow]
  rfl
 rw[e,dY]
 omega
theorem q9 (z:Bool) (B:Nat) (w:World) (v:Value) (l:List UInt8) (n width:Nat) (hown:eO z B w v l) (hB:B≤w.heap.size) (hl:l.length≤800000000) (hn:n<2^64) (hw:width≤8):
  Calls Tryz.prog 99 #[v,.int .u64 n,.int .i64 width] w fun e w'=>∃v',e=.returned v'∧eO z B w' v' (l++Wl.enc width n)∧aE (fun k=>v.ownBlock=some k) w w'∧(v'.ownBlock=v.ownBlock∨∀k,v'.ownBlock=some k→w.heap.size≤k):=by
 have Wn:(width:Int)≤8:=by omega
 have HO:=aa hown
 have HB:=aa hB
 have HN:=aa hn
 clear hown hB hn
 go_enter Tryz.func99,Tryz.ntmps99
 go_wp2
 go_loopw [0,7] (fun u i wr=>∃j:Nat,j≤width∧i=.int .i64 ((width:Int)-1-j)∧Hid (eO z B wr u (l++Wl.enc j (n/256^(width-j))))∧Hid (aE (fun k=>v.ownBlock=some k) w wr)∧Hid (u.ownBlock=v.ownBlock∨∀k,u.ownBlock=some k→w.heap.size≤k)) (fun _ i _=>((RowKit.intOf i)+1).toNat)
 case atStart=>
  refine⟨0,aC _,by simp,aa ?_,aa (aE.refl _ _),aa (.inl rfl)⟩
  rw[Wl.enc,bh];exact HO.o
 case round=>
  obtain⟨j,hj,rfl,ho,hb,Px⟩:=hrel
  by_cases hlt:j<width
  ·obtain⟨k,hk⟩:∃k:Nat,(width:Int)-1-j=k:=⟨width-1-j,by omega⟩
   have hk7:(k:Int)≤7:=by omega
   have oh:(0:Int)≤k:=by omega
   have HK:=aa (show k=width-(j+1) by omega)
   have HJ:=aa (And.intro hlt hj)
   rw[hk]
   have Sh:=aa hk
   clear hk hlt hj Wn
   have Si:=aa (q8 n k)
   go_wp2_with (at_builtin;refine Hid.o ?_)
   refine aa ?_
   rw[Si.o]
   refine q7 rfl _ _ rfl rfl (ho.o.alloc _) (by have:=HB.o;have:=hb.o.size;simp;omega) wr.heap.size (aY (n/256^k)) rfl ((aS.new wr #[.int .u8 ((aY (n/256^k)).toNat:Int)] 5).cell rfl) (by rw[aq,Wl.cv];have:=HJ.o;omega) ?_
   intro v' w4 fW j6 wB
   have HR:=aa (show eO z B w4 v' (l++Wl.enc (j+1) (n/256^(width-(j+1))))∧aE (fun k=>v.ownBlock=some k) w w4∧(v'.ownBlock=v.ownBlock∨∀k,v'.ownBlock=some k→w.heap.size≤k) by
    have hsz:=hb.o.size
    refine⟨?_, ?_, ?_⟩
    ·rw[Ao width j n HJ.o.1,←aB,←HK.o];exact fW
    ·refine (hb.o.alloc _).trans j6 fun i hi e=> ?_
     rcases Px.o with h|h
     ·rw[←h];exact e
     ·have:=h i e;omega
    ·rcases wB with h|h
     ·rw[h];exact Px.o
     ·exact .inr fun k hk=>by have:=h k hk;simp at this;omega)
   clear fW j6 wB
   go_wp2
   go_roundw
   case rel=>exact⟨j+1,HJ.o.1,congrArg (Value.int .i64) (by have:=Sh.o;omega),aa HR.o.1,aa HR.o.2.1,aa HR.o.2.2⟩
   case measure=>have:=Sh.o;simp[RowKit.intOf]<;>omega
  ·have Wo:j=width:=by omega
   subst Wo
   have hneg:(j:Int)-1-j=-1:=by omega
   rw[hneg]
   go_wp2
   go_ret
   refine⟨_,rfl, ?_,hb.o,Px.o⟩
   have:=ho.o
   rwa [Nat.sub_self,Nat.pow_zero,Nat.div_one] at this
theorem kT (s:ByteArray) (k:Nat) (h:k<s.size):s.data.toList.take (k+1)=s.data.toList.take k++[s[k]]:=by
 rw[cI (by simpa using h)];rfl
theorem EA (a b:Nat) (ha:a<2^56) (hb:b<256):bits .or .u64 ((a:Int)*256) (b:Int)=((a*256+b:Nat):Int):=by
 have h1:(BitVec.ofInt 64 ((a:Int)*256)).toNat=a*256:=by
  simp_all;omega
 have h2:(BitVec.ofInt 64 (b:Int)).toNat=b:=by
  grind
 have key:(BitVec.ofInt 64 ((a:Int)*256)|||BitVec.ofInt 64 (b:Int)).toNat=a*256+b:=by
  rw[BitVec.toNat_or,h1,h2,show a*256=a<<<8 from by rw[Nat.shiftLeft_eq],←Nat.shiftLeft_add_eq_or_of_lt (by omega:b<2^8)]
 show IntKind.u64.wrap ((BitVec.ofInt 64 ((a:Int)*256)|||BitVec.ofInt 64 (b:Int)).toNat:Nat)=_
 rw[key,IntKind.wrap_u64]
 omega
def Ja:Value→Nat
 |.string t=>t.size
 |_=>0
def Mq (l:List UInt8) (c:UInt8) (t:List UInt8):Prop:=∃m,m≤l.length∧t=l.take m∧(∀i,m≤i→i<l.length→l[i]?=some c)∧(0<m→l[m-1]?≠some c)
def Sj (l:List UInt8) (c:UInt8) (t:List UInt8):Prop:=∃m,m≤l.length∧t=l.drop m∧(∀i,i<m→l[i]?=some c)∧(m<l.length→l[m]?≠some c)
theorem Jb {l t u:List UInt8} (h1:Mq l 0 t) (h2:Sj t 0 u):u=[]↔Wl.blank l=true:=by
 obtain⟨m,hm,rfl,ha,hb⟩:=h1
 obtain⟨j,hj,rfl,hc,hd⟩:=h2
 rw[aN,b_ hm] at hj hd
 unfold Wl.blank
 rw[List.all_eq_true,List.drop_eq_nil_iff,aN,b_ hm]
 constructor
 ·intro hmj
  have hm0:m=0:=by
   rcases Nat.eq_zero_or_pos m with h|h
   ·exact h
   ·exfalso
    have:=hc (m-1) (by omega)
    rw[List.getElem?_take_of_lt (by omega)] at this
    exact hb h this
  intro x hx
  obtain⟨i,hi,rfl⟩:=List.mem_iff_getElem.1 hx
  have:=ha i (by omega) hi
  rw[aJ hi] at this
  injection this with this
  rw[this];rfl
 ·grind [aJ,bB,Nat.eq_zero_or_pos]
theorem get_eq (t:ByteArray) (k:Nat) (h:k<t.size):t.data.toList[k]?=some t[k]:=by
 rw[aJ (by rw[aZ];exact h)];rfl
theorem byte_eq {a b:UInt8} (h:((a.toNat:Int)==(b.toNat:Int))=true):a=b:=by
 rw[beq_iff_eq] at h
 exact UInt8.toNat_inj.1 (by omega)
theorem EB {a b:UInt8} (h:((a.toNat:Int)==(b.toNat:Int))=false):a≠b:=by
 grind
theorem wC (s:ByteArray) (c:UInt8) (w:World) (hs:s.size≤9223372036854775807):
  Calls Tryz.prog 146 #[.string s,.int .u8 c.toNat] w fun e w'=>(∃t:ByteArray,e=.returned (.string t)∧Mq s.data.toList c t.data.toList)∧w'=w:=by
 go_enter Tryz.func146,Tryz.ntmps146
 go_wp2
 go_loop [0] (fun v=>∃t:ByteArray,v=.string t∧Hid (t.data.toList=s.data.toList.take t.size)∧t.size≤s.size∧Hid (∀i,t.size≤i→i<s.size→s.data.toList[i]?=some c)) Ja
 case atStart=>exact⟨s,rfl,aa (by rw[bZ (by rw[aZ];exact af _)]),af _,aa fun i h1 h2=>by omega⟩
 case round=>
  obtain⟨t,rfl,ht,hts,hc⟩:=hrel
  by_cases h0:0<t.size
  ·have Re:(0:Int)<t.size:=by omega
   have hk:t.size-1<t.size:=by omega
   have s9:(t.size:Int)-1=((t.size-1:Nat):Int):=by omega
   have hti:(t.size:Int)≤9223372036854775807:=by omega
   have HG:=aa (get_eq t (t.size-1) hk)
   go_wp2
   ·have he:=byte_eq ‹_›
    have hsz:(t.extract 0 (t.size-1)).size=t.size-1:=by rw[jz,aK,aN,aZ];show min _ t.size=_;omega
    refine⟨⟨_,rfl,aa ?_,by omega,aa fun i h1 h2=> ?_⟩,by change (t.extract 0 (t.size-1)).size<t.size;omega⟩
    ·rw[hsz,jz,bO,ht.o,List.take_take,b_ (by omega)]
    ·rcases dw i t.size with hi|hi
     ·have Wp:i=t.size-1:=by omega
      have h5:=HG.o
      rw[ht.o,List.getElem?_take_of_lt hk] at h5
      rw[Wp,h5,he]
     ·exact hc.o i hi h2
   ·have hne:=EB ‹_›
    go_ret
    refine⟨⟨t,rfl,t.size,by rw[aZ];exact hts,ht.o,fun i h1 h2=>hc.o i h1 (by rw[aZ] at h2;exact h2),fun _ h5=>hne ?_⟩,rfl⟩
    have h6:=HG.o
    rw[ht.o,List.getElem?_take_of_lt hk,h5] at h6
    injection h6 with h6
    exact h6.symm
  ·have Re:¬(0:Int)<t.size:=by omega
   go_wp2
   go_ret
   exact⟨⟨t,rfl,t.size,by rw[aZ];exact hts,ht.o,fun i h1 h2=>hc.o i h1 (by rw[aZ] at h2;exact h2),fun h=>absurd h h0⟩,rfl⟩
theorem yG (s:ByteArray) (c:UInt8) (w:World) (hs:s.size≤9223372036854775807):
  Calls Tryz.prog 145 #[.string s,.int .u8 c.toNat] w fun e w'=>(∃t:ByteArray,e=.returned (.string t)∧Sj s.data.toList c t.data.toList)∧w'=w:=by
 go_enter Tryz.func145,Tryz.ntmps145
 go_wp2
 go_loop [0] (fun v=>∃t:ByteArray,v=.string t∧Hid (t.data.toList=s.data.toList.drop (s.size-t.size))∧t.size≤s.size∧Hid (∀i,i<s.size-t.size→s.data.toList[i]?=some c)) Ja
 case atStart=>exact⟨s,rfl,aa (by rw[Nat.sub_self,List.drop_zero]),af _,aa fun i h1=>by omega⟩
 case round=>
  obtain⟨t,rfl,ht,hts,hc⟩:=hrel
  by_cases h0:0<t.size
  ·have Re:(0:Int)<t.size:=by omega
   have Oz:(1:Int)≤t.size:=by omega
   have HG:=aa (get_eq t 0 h0)
   go_wp2
   ·have he:=byte_eq ‹_›
    have hdl:(t.extract 1 t.size).data.toList=t.data.toList.drop 1:=kP t 1
    have hsz:(t.extract 1 t.size).size=t.size-1:=by rw[ByteArray.size_extract];omega
    refine⟨⟨_,rfl,aa ?_,by omega,aa fun i h1=> ?_⟩,by change (t.extract 1 t.size).size<t.size;omega⟩
    ·rw[hdl,hsz,ht.o,List.drop_drop]
     congr 1
     omega
    ·rcases dw i (s.size-t.size) with hi|hi
     ·exact hc.o i hi
     ·have Wp:i=s.size-t.size:=by omega
      have h5:=HG.o
      rw[ht.o,List.getElem?_drop,dN] at h5
      rw[Wp,h5,he]
   ·have hne:=EB ‹_›
    go_ret
    refine⟨⟨t,rfl,s.size-t.size,by rw[aZ];exact Nat.sub_le _ _,ht.o,fun i h1=>hc.o i h1,fun _ h5=>hne ?_⟩,rfl⟩
    have h6:=HG.o
    rw[ht.o,List.getElem?_drop,dN,h5] at h6
    injection h6 with h6
    exact h6.symm
  ·have Re:¬(0:Int)<t.size:=by omega
   go_wp2
   go_ret
   refine⟨⟨t,rfl,s.size-t.size,by rw[aZ];exact Nat.sub_le _ _,ht.o,fun i h1=>hc.o i h1,fun h=> ?_⟩,rfl⟩
   rw[aZ] at h
   have:s.size=s.data.size:=rfl
   omega
end
end Go.Proofs.YtebbahjombdalaaGreatDoor
