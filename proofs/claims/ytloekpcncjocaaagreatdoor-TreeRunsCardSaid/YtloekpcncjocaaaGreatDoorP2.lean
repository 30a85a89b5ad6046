/- Elder texts, cut down and merged (2). -/
import Derived.Test.YtloekpcncjocaaaGreatDoorP1
import Derived.Maps.OwnSet
import Derived.Maps.RangeWalk
import Derived.Maps.Ext
import Derived.Lib.Hide
import Derived.Lib.SlKeysI
import Derived.Laws.Tables
import Derived.Laws.Rows
import Derived.ChangeSlices
import Derived.Deep.Grids
import Derived.WalkKit
import Derived.ProofKit
import Derived.OpenShut
import Derived.ShutString
import Derived.Deep.DeepHandedRow
import Derived.Test.YtloekpcncjocaaaGreatDoorCards
import Derived.Test.YtloekpcncjocaaaGreatDoorTie
import Derived.Lib.SlBytesConst
import Derived.Laws.Bits128
import Derived.BigQuiet
import Derived.Deep.RegionLaw
import Derived.BigRegion
import Derived.Deep.DeepFit
import Derived.Outline
import Derived.Test.YtloekpcncjocaaaGreatDoorPTk
set_option maxRecDepth 100000
set_option maxHeartbeats 8000000
namespace Go.Proofs.YtloekpcncjocaaaGreatDoor
namespace Wl
abbrev Text:=List UInt8
def enc:Nat→Nat→Text
 |0,_=>[]
 |w+1,n=>enc w (n/256)++[UInt8.ofNat n]
def dec (l:Text):Nat:=l.foldl (fun a b=>a*256+b.toNat) 0
theorem jI:∀w n,(enc w n).length=w
 |0,_=>rfl
 |w+1,n=>by rw[enc,List.length_append,jI w];rfl
def title:Text:=[99,111,111,112,101,114,97,103,101,32,108,111,103,10]
def first (size ring at_ num:Nat):Text:=title++(enc 8 size++(enc 8 ring++(enc 8 at_++enc 8 num)))
def head (num n:Nat):Text:=104::(enc 8 num++enc 4 n)
def sizeOf (n:Nat):Nat:=1+(516*n+510)/511
theorem nX (size ring at_ num:Nat):(first size ring at_ num).length=46:=by simp[first,jI,title]
def blank (s:Text):Bool:=s.all (· ==0)
def holds (s t:Text):Bool:=t.isPrefixOf s&&blank (s.drop t.length)
def FV (s:Text) (ring:Nat):Nat×Nat×Bool:=
 if dec ((s.drop 1).take 8)=0∨dec ((s.drop 9).take 4)=0∨ring<dec ((s.drop 9).take 4)∨ring<sizeOf (dec ((s.drop 9).take 4)) then (0,0,false)
 else (dec ((s.drop 1).take 8),dec ((s.drop 9).take 4),holds s (head (dec ((s.drop 1).take 8)) (dec ((s.drop 9).take 4))))
def MY (s:Text):Bool:=([112]:Text).isPrefixOf s
theorem j_ (n:Nat):blank (List.replicate n 0)=true:=by simp[blank]
abbrev cY:=List (Nat×Text)
def ins (k:Nat) (t:Text):cY→cY
 |[]=>[(k,t)]
 |x::m=>if k<x.1 then (k,t)::x::m else if k=x.1 then (k,t)::m else x::ins k t m
def look (k:Nat):cY→Option Text
 |[]=>none
 |x::m=>if x.1=k then some x.2 else look k m
def aP (m:cY):Prop:=m.Pairwise fun x y=>x.1<y.1
theorem cK {k:Nat}:∀{m:cY},look k m=none↔∀x∈m,x.1≠k
 |[]=>by simp[look]
 |x::m=>by
  unfold look
  split
  ·rename_i e
   simp[e]
  ·rename_i e
   rw[cK]
   simp[e]
theorem dR (k:Nat) (t:Text) (j:Nat):∀m:cY,look j (ins k t m)=if j=k then some t else look j m
 |[]=>by simp only[ins,look];split<;>split<;>simp_all
 |x::m=>by
  unfold ins
  split
  ·rename_i h
   simp only[look]
   by_cases hj:j=k
   ·simp[hj]
   ·rw[if_neg (Ne.symm hj),if_neg hj]
  ·split
   ·rename_i h1 h2
    simp only[look]
    by_cases hj:j=k
    ·simp[hj]
    ·rw[if_neg (Ne.symm hj),if_neg hj,if_neg (by omega)]
   ·rename_i h1 h2
    simp only[look,dR k t j m]
    by_cases hj:j=k
    ·subst hj
     rw[if_neg (by omega)]
     simp
    ·simp[hj]
theorem rj {k:Nat} {t:Text} {x:Nat×Text}:∀{m:cY},x∈ins k t m→x=(k,t)∨x∈m
 |[],h=>by simp only[ins,List.mem_singleton] at h;exact .inl h
 |y::m,h=>by
  unfold ins at h
  split at h
  ·rcases List.mem_cons.1 h with h|h
   ·exact .inl h
   ·exact .inr h
  ·split at h
   ·rcases List.mem_cons.1 h with h|h
    ·exact .inl h
    ·exact .inr (List.mem_cons_of_mem _ h)
   ·rcases List.mem_cons.1 h with h|h
    ·exact .inr (by rw[h];exact List.mem_cons_self)
    ·rcases rj h with h|h
     ·exact .inl h
     ·exact .inr (List.mem_cons_of_mem _ h)
theorem dS (k:Nat) (t:Text):∀{m:cY},aP m→aP (ins k t m)
 |[],_=>by simp[ins,aP]
 |y::m,h=>by
  obtain⟨h1,h2⟩:=List.pairwise_cons.1 h
  unfold ins
  split
  ·rename_i hk
   refine List.pairwise_cons.2 ⟨fun z hz=> ?_,h⟩
   rcases List.mem_cons.1 hz with rfl|hz
   ·exact hk
   ·exact Nat.lt_trans hk (h1 z hz)
  ·split
   ·rename_i _ hk
    exact List.pairwise_cons.2 ⟨fun z hz=>by have:=h1 z hz;simp only;omega,h2⟩
   ·refine List.pairwise_cons.2 ⟨fun z hz=> ?_,dS k t h2⟩
    rcases rj hz with rfl|hz
    ·simp only;omega
    ·exact h1 z hz
theorem ext:∀{m n:cY},aP m→aP n→(∀k,look k m=look k n)→m=n
 |[],[],_,_,_=>rfl
 |[],y::n,_,_,h=>by have:=h y.1;simp[look] at this
 |x::m,[],_,_,h=>by have:=h x.1;simp[look] at this
 |x::m,y::n,hm,hn,h=>by
  obtain⟨m1,m2⟩:=List.pairwise_cons.1 hm
  obtain⟨n1,n2⟩:=List.pairwise_cons.1 hn
  have low:∀(z:Nat×Text) (l:cY),(∀a∈l,z.1<a.1)→∀j,j≤z.1→look j l=none:=fun z l hl j hj=>cK.2 fun a ha e=>by have:=hl a ha;omega
  have hxy:x.1=y.1:=by
   rcases Nat.lt_trichotomy x.1 y.1 with hlt|he|hlt
   ·have:=h x.1
    simp only[look] at this
    rw[if_true,if_neg (by omega),low y n n1 _ (by omega)] at this
    cases this
   ·exact he
   ·have:=h y.1
    simp only[look] at this
    rw[if_true,if_neg (by omega),low x m m1 _ (by omega)] at this
    cases this
  have hx2:x.2=y.2:=by
   have:=h x.1
   simp only[look] at this
   rw[if_true,if_pos hxy.symm] at this
   injection this
  have he:x=y:=Prod.ext hxy hx2
  subst he
  refine congrArg _ (ext m2 n2 fun k=> ?_)
  by_cases hk:k≤x.1
  ·rw[low x m m1 k hk,low x n n1 k hk]
  ·have:=h k
   simp only[look] at this
   rwa [if_neg (by omega),if_neg (by omega)] at this
def merge (m g:cY):cY:=g.foldl (fun m x=>ins x.1 x.2 m) m
theorem lR {L:List Text}:∀{g:cY} (_:aP g) (j:Nat),(Dk.dJ L g)[j]?=if j<L.length then (look j g).or L[j]? else none:=by
 intro g hr
 induction g generalizing L with
 |nil=>
  intro j
  rw[Dk.kM]
  split
  ·rfl
  ·rename_i h;exact List.getElem?_eq_none (by omega)
 |cons x g ih=>
  intro j
  obtain⟨h1,h2⟩:=List.pairwise_cons.1 hr
  rw[Dk.lP,ih h2,List.length_set]
  by_cases hj:j<L.length
  ·rw[if_pos hj,if_pos hj]
   simp only[look]
   by_cases hk:x.1=j
   ·subst hk
    have:look x.1 g=none:=cK.2 fun a ha e=>by have:=h1 a ha;omega
    simp[this,hj]
   ·rw[if_neg hk,List.getElem?_set_ne hk]
  ·rw[if_neg hj,if_neg hj]
def pack (g:cY):Text:=g.flatMap fun x=>enc 4 x.1++x.2
def pieces (l:Text):List Text:=(List.range ((l.length+510)/511)).map fun k=>(l.drop (511*k)).take 511
def DK (g:cY):List Text:=(pieces (pack g)).map fun p=>112::p
def Fits (homes:Nat) (g:cY):Prop:=aP g∧∀x∈g,x.1<homes∧x.2.length=512
theorem FW {homes k:Nat} {t:Text} {g:cY} (h:Fits homes g) (hk:k<homes) (ht:t.length=512):Fits homes (ins k t g):=
 ⟨dS k t h.1,fun x hx=>by
  rcases rj hx with rfl|hx
  ·exact⟨hk,ht⟩
  ·exact h.2 x hx⟩
theorem FX (homes:Nat):Fits homes []:=⟨List.Pairwise.nil,fun x hx=>by cases hx⟩
theorem rW {homes:Nat}:∀{g _m:cY},Fits homes _m→(∀x∈g,x.1<homes∧x.2.length=512)→Fits homes (merge _m g)
 |[],_,h,_=>h
 |x::g,_,h,hg=>rW (g:=g) (FW h (hg x List.mem_cons_self).1 (hg x List.mem_cons_self).2) fun y hy=>hg y (List.mem_cons_of_mem _ hy)
end Wl
end Go.Proofs.YtloekpcncjocaaaGreatDoor
namespace Go.Proofs.YtloekpcncjocaaaGreatDoor
open Go.RowKit Go.Maps
open Wl (cY ins aP)
structure ME where
 enc:List UInt8→Value
 R:Value→Option (DataW Unit×List MemPlace)
 fits:List UInt8→Prop
 read:∀l,fits l→R (enc l)=some (.lit (.string l),[])
 inv:∀v y,R v=some y→∃l,v=enc l∧fits l∧y=(.lit (.string l),[])
def ctext (l:List UInt8):Value:=.agg (l.map aR).toArray
def rX:Value→Option UInt8
 |.int .u8 n=>if 0≤n∧n≤255 then some (UInt8.ofNat n.toNat) else none
 |_=>none
def lS:List Value→Option (List UInt8)
 |[]=>some []
 |v::r=>match rX v,lS r with
  |some b,some l=>some (b::l)
  |_,_=>none
def yK:Value→Option (DataW Unit×List MemPlace)
 |.agg cs=>match lS cs.toList with
  |some l=>if l.length=512 then some (.lit (.string l),[]) else none
  |none=>none
 |_=>none
theorem wT (b:UInt8):rX (aR b)=some b:=by
 have:=b.toNat_lt
 unfold rX aR
 simp only
 rw[if_pos (by omega)]
 simp
theorem qu:∀l:List UInt8,lS (l.map aR)=some l
 |[]=>rfl
 |b::l=>by simp only[List.map_cons,lS,wT,qu l]
theorem A2 {v:Value} {b:UInt8} (h:rX v=some b):v=aR b:=by
 unfold rX at h
 split at h
 ·rename_i n
  split at h
  ·injection h with h
   subst h
   unfold aR
   rw[UInt8.toNat_ofNat']
   congr 1
   omega
  ·cases h
 ·cases h
theorem qw:∀{cs:List Value} {l:List UInt8},lS cs=some l→cs=l.map aR
 |[],l,h=>by injection h with h;subst h;rfl
 |v::r,l,h=>by
  unfold lS at h
  split at h
  ·rename_i b l' h1 h2
   injection h with h
   subst h
   rw[List.map_cons,A2 h1,qw h2]
  ·cases h
theorem yL {l:List UInt8} (h:l.length=512):yK (ctext l)=some (.lit (.string l),[]):=by
 unfold yK ctext
 simp only[qu]
 rw[if_pos h]
theorem DM {v:Value} {y:DataW Unit×List MemPlace} (h:yK v=some y):∃l,v=ctext l∧l.length=512∧y=(.lit (.string l),[]):=by
 unfold yK at h
 split at h
 ·rename_i cs
  split at h
  ·rename_i l hl
   split at h
   ·rename_i h5
    injection h with h
    refine⟨l, ?_,h5,h.symm⟩
    unfold ctext
    rw[←qw hl]
   ·cases h
  ·cases h
 ·cases h
def nY:ME:=⟨ctext,yK,fun l=>l.length=512,fun _ h=>yL h,fun _ _ h=>DM h⟩
def pN (x:Nat×List UInt8):Lit×DataW Unit:=(.int .i64 x.1,.lit (.string x.2))
def dat (m:cY):DataW Unit:=.map (m.map pN)
theorem jg (x:Nat×List UInt8) (k:Nat):(pN x).1.sameKey (.int .i64 k)=decide (x.1=k):=by
 simp only[pN,Lit.sameKey,true_and]
 exact decide_eq_decide.2 ⟨fun h=>by omega,fun h=>by omega⟩
theorem yM (m:cY) (k:Nat):((m.map pN).find? (fun p=>p.1.sameKey (.int .i64 k))).map (·.2)=(Wl.look k m).map fun t=>.lit (.string t):=by
 induction m with
 |nil=>rfl
 |cons x m ih=>
  rw[List.map_cons,List.find?_cons,jg]
  unfold Wl.look
  by_cases h:x.1=k
  ·rw[if_pos h,decide_eq_true h];rfl
  ·rw[if_neg h,decide_eq_false h];exact ih
theorem qx {m:cY} {k:Nat} {t:List UInt8} (h:Wl.look k m=some t) (z:DataW Unit):(dat m).atKey (.int .i64 k) z=.lit (.string t):=by
 have:=yM m k
 rw[h] at this
 unfold dat DataW.atKey
 simp only
 cases e:(m.map pN).find? (fun p=>p.1.sameKey (.int .i64 k)) with
 |none=>rw[e] at this;cases this
 |some p=>rw[e] at this;injection this
theorem yN {m:cY} {k:Nat} (h:Wl.look k m=none) (z:DataW Unit):(dat m).atKey (.int .i64 k) z=z:=by
 have:=yM m k
 rw[h] at this
 unfold dat DataW.atKey
 simp only
 cases e:(m.map pN).find? (fun p=>p.1.sameKey (.int .i64 k)) with
 |none=>rfl
 |some p=>rw[e] at this;cases this
theorem CL (m:cY) (k:Nat):Maps.has (dat m) (.int .i64 k)=(Wl.look k m).isSome:=by
 show (m.map pN).any (fun p=>p.1.sameKey (.int .i64 k))=_
 induction m with
 |nil=>rfl
 |cons x m ih=>
  rw[List.map_cons,List.any_cons,jg]
  unfold Wl.look
  by_cases h:x.1=k
  ·rw[if_pos h,decide_eq_true h];rfl
  ·rw[if_neg h,decide_eq_false h,ih];rfl
theorem FY (m:cY):Maps.size (dat m)=m.length:=by show (m.map pN).length=_;rw[List.length_map]
theorem jJ (k:Nat):∀m:cY,(∀x∈m,k<x.1)→(m.map pN).filter (fun p=> !p.1.sameKey (.int .i64 k))=m.map pN
 |[],_=>rfl
 |x::m,h=>by
  rw[List.map_cons,List.filter_cons,jg,decide_eq_false (by have:=h x List.mem_cons_self;omega),jJ k m fun y hy=>h y (List.mem_cons_of_mem _ hy)]
  rfl
theorem nZ (k:Nat) (t:List UInt8):∀m:cY,(∀x∈m,k<x.1)→DataW.insert (pN (k,t)) (m.map pN)=pN (k,t)::m.map pN
 |[],_=>rfl
 |x::m,h=>by
  have hb:(pN (k,t)).1.before (pN x).1=true:=by
   have:=h x List.mem_cons_self
   show decide ((k:Int)<(x.1:Int))=true
   exact decide_eq_true (by omega)
  rw[List.map_cons]
  unfold DataW.insert
  rw[if_pos hb]
theorem CM (k:Nat) (t:List UInt8):∀m:cY,aP m→DataW.insert (pN (k,t)) ((m.map pN).filter (fun p=> !p.1.sameKey (.int .i64 k)))=(ins k t m).map pN
 |[],_=>rfl
 |x::m,hr=>by
  obtain⟨h1,h2⟩:=List.pairwise_cons.1 hr
  unfold ins
  by_cases hk:k<x.1
  ·rw[if_pos hk,jJ k (x::m) (fun y hy=>by
    rcases List.mem_cons.1 hy with rfl|hy
    ·exact hk
    ·exact Nat.lt_trans hk (h1 y hy)),nZ k t (x::m) (fun y hy=>by
    rcases List.mem_cons.1 hy with rfl|hy
    ·exact hk
    ·exact Nat.lt_trans hk (h1 y hy))]
   rfl
  ·rw[if_neg hk]
   by_cases he:k=x.1
   ·rw[if_pos he,List.map_cons,List.filter_cons,jg,decide_eq_true he.symm]
    rw[if_neg (by decide),jJ k m (fun y hy=>by have:=h1 y hy;omega),nZ k t m (fun y hy=>by have:=h1 y hy;omega)]
    rfl
   ·rw[if_neg he,List.map_cons,List.filter_cons,jg,decide_eq_false (by omega),if_pos (by decide)]
    have hb:¬(pN (k,t)).1.before (pN x).1=true:=by
     show ¬decide ((k:Int)<(x.1:Int))=true
     rw[decide_eq_true_eq];omega
    unfold DataW.insert
    rw[if_neg hb,CM k t m h2]
    rfl
theorem JW (k:Nat) (t:List UInt8) (m:cY) (hr:aP m):(dat m).put (.int .i64 k) (.lit (.string t))=dat (ins k t m):=by
 show DataW.map _=DataW.map _
 rw[←CM k t m hr]
 rfl
section
variable {P:Program} {T E:TypeId} (M:ME) {w w':World} {b:Nat} {m:cY}
def dY (P:Program) (K:TypeId) (M:ME) (w:World) (b:Nat) (m:cY):Prop:=
 w.ownsMap P K M.R b m.length (dat m)∧aP m∧∀x∈m,x.1≤1000000
variable {K:TypeId}
theorem rY {k:Nat} (h:k≤1000000):(Lit.int .i64 (k:Int)).wf=true:=by
 simp[Lit.wf,IntKind.min,IntKind.max,IntKind.signed,IntKind.bits]
 omega
theorem qy {n:Nat} (h:w.ownsMap P K M.R b n (dat m)):w.ownsMap P K M.R b m.length (dat m):=by
 obtain⟨es,clock,hb,F,_,hD⟩:=h
 refine⟨es,clock,hb,F, ?_,hD⟩
 have:Maps.size (dat m)=es.size:=by rw[hD];simp[Maps.size,length_sorted]
 rw[FY] at this
 omega
theorem dY.kept {M:ME} {row:Option Nat} (h:dY P K M w b m) (hg:w.grownBy w' row) (hne:some b≠row):dY P K M w' b m:=⟨h.1.kept hg hne,h.2⟩
theorem dY.but {M:ME} {S:Nat→Prop} (h:dY P K M w b m) (hb:aj S w w') (hn:¬S b):dY P K M w' b m:=by
 obtain⟨⟨es,clock,h1,r⟩,h2⟩:=h
 exact⟨⟨es,clock,(hb.block b (Array.getElem?_eq_some_iff.1 h1).1 hn).trans h1,r⟩,h2⟩
theorem dY.isMap {M:ME} (h:dY P K M w b m):∃es clock,w.heap[b]?=some (.map es clock):=by
 obtain⟨⟨es,clock,h1,_⟩,_⟩:=h
 exact⟨es,clock,h1⟩
theorem dY.bK {M:ME} {g:Nat} {t:TypeId} {cs:List Value} (h:dY P K M w b m) (hg:aG w g t cs):b≠g:=by
 intro e
 obtain⟨es,clock,h1⟩:=h.isMap
 unfold aG at hg
 rw[e,hg] at h1
 cases h1
theorem dY.made (P:Program) (K:TypeId) (M:ME) (w:World):dY P K M (w.alloc (.map #[] 0)) w.heap.size []:=
 ⟨World.ownsMap_made w P K M.R,List.Pairwise.nil,fun x hx=>by cases hx⟩
theorem dY.fO {M:ME} (h:dY P K M w b m) (hk:P.underlying K=some (.int .i64)) (ht:P.underlying T=some (.map K E)) {z:List UInt8} (hz:(zeroValue E).run P w=.ok (M.enc z) w) (MZ:M.fits z)
  {k:Nat} (Js:k≤1000000) {t:List UInt8} (hl:Wl.look k m=some t):(Instr.lookup T (.map (some b)) (.int .i64 k) true).run P w=.ok (.tuple #[M.enc t,.bool true]) w∧M.fits t:=by
 obtain⟨v,ps,hr,hv⟩:=h.1.look_ok (int_keyed hk) ht hz (M.read z MZ) (keyOf_int_mk hk (rY Js))
 rw[qx hl] at hv
 rw[CL,hl] at hr
 obtain⟨l,rfl,hf,he⟩:=M.inv _ _ hv
 injection he with he _
 injection he with he
 injection he with he
 subst he
 exact⟨hr,hf⟩
theorem dY.cK {M:ME} (h:dY P K M w b m) (hk:P.underlying K=some (.int .i64)) (ht:P.underlying T=some (.map K E)) {z:List UInt8} (hz:(zeroValue E).run P w=.ok (M.enc z) w) (MZ:M.fits z)
  {k:Nat} (Js:k≤1000000) (hl:Wl.look k m=none):(Instr.lookup T (.map (some b)) (.int .i64 k) true).run P w=.ok (.tuple #[M.enc z,.bool false]) w:=by
 obtain⟨v,ps,hr,hv⟩:=h.1.look_ok (int_keyed hk) ht hz (M.read z MZ) (keyOf_int_mk hk (rY Js))
 rw[yN hl] at hv
 rw[CL,hl] at hr
 obtain⟨l,rfl,hf,he⟩:=M.inv _ _ hv
 injection he with he _
 injection he with he
 injection he with he
 subst he
 exact hr
theorem dY.at {M:ME} (h:dY P K M w b m) (hk:P.underlying K=some (.int .i64)) (ht:P.underlying T=some (.map K E)) {z:List UInt8} (hz:(zeroValue E).run P w=.ok (M.enc z) w) (MZ:M.fits z)
  {k:Nat} (Js:k≤1000000) {t:List UInt8} (hl:Wl.look k m=some t):(Instr.lookup T (.map (some b)) (.int .i64 k) false).run P w=.ok (M.enc t) w∧M.fits t:=by
 obtain⟨v,ps,hr,hv⟩:=h.1.lookup (int_keyed hk) ht hz (M.read z MZ) (keyOf_int_mk hk (rY Js))
 rw[qx hl] at hv
 obtain⟨l,rfl,hf,he⟩:=M.inv _ _ hv
 injection he with he _
 injection he with he
 injection he with he
 subst he
 exact⟨hr,hf⟩
end
end Go.Proofs.YtloekpcncjocaaaGreatDoor
namespace Go.Proofs.YtloekpcncjocaaaGreatDoor
namespace Wl
open Dk (dJ kept full bp)
def pos (ring i:Nat):Nat:=1+i%ring
def Laid (ring:Nat) (F:List Text):Nat→Nat→List cY→Prop
 |_,_,[]=>True
 |a,n,g::gs=>F[pos ring a]?=some (full (head n g.length))∧(∀k t,(DK g)[k]?=some t→F[pos ring (a+1+k)]?=some (full t))∧Laid ring F (a+sizeOf g.length) (n+1) gs
def total (gs:List cY):Nat:=(gs.map fun g=>sizeOf g.length).sum
def Old (ring:Nat) (F:List Text) (i N:Nat):Prop:=∃s,F[1+i]?=some s∧(blank s=true∨MY s=true∨∃m n,FV s ring=(m,n,true)∧m<N)
def rZ (gs:List cY):cY:=gs.foldl merge []
theorem jh {homes:Nat}:∀(gs:List cY) (m:cY),Fits homes m→(∀g∈gs,Fits homes g)→Fits homes (gs.foldl merge m)
 |[],_,h,_=>h
 |g::gs,_,h,hg=>jh gs _ (rW h (hg g List.mem_cons_self).2) fun x hx=>hg x (List.mem_cons_of_mem _ hx)
theorem yO {homes:Nat} {gs:List cY} (h:∀g∈gs,Fits homes g):Fits homes (rZ gs):=jh gs [] (FX homes) h
structure Good (ring:Nat) (F:List Text) (a n:Nat) (gs:List cY) (H:List Text):Prop where
 r1:4≤ring
 r2:ring≤4096
 len:F.length=1+ring+H.length
 hpos:1≤H.length
 Tz:F.length≤65536
 all:∀s∈F,s.length=512
 first:F[0]?=some (full (first F.length ring a n))
 ZD:a<ring
 n_pos:1≤n
 Po:n+gs.length<1000000
 laid:Laid ring F a n gs
 tot:total gs≤ring
 fits:∀g∈gs,g≠[]∧Fits H.length g
 old:∀i,i<ring→Old ring F i (n+gs.length)
 homes:H=dJ (F.drop (1+ring)) (rZ gs)
def wr (s:Bool×bp) (x:Nat×Text):Bool×bp:=if s.1 then s else (decide ((s.2.write x.1 x.2).1≠0),(s.2.write x.1 x.2).2)
def fl (s:Bool×bp):Bool×bp:=if s.1 then s else (decide (s.2.flush.1≠0),s.2.flush.2)
def fw (x:Nat×Text):Nat×Text:=(x.1,full x.2)
theorem JX (d:bp) (x:Nat×Text):wr (true,d) x=(true,d):=rfl
theorem JY (d:bp):fl (true,d)=(true,d):=rfl
theorem Pp (d:bp) (x:Nat×Text) (ho:d.off=false) (h1:x.1<d.dK.length) (h2:x.2.length≤512):
  (wr (false,d) x=(false,{d.eV with loose:=d.loose++[fw x]})∧d.fuel≠0)∨(wr (false,d) x=(true,d.dead)∧d.fuel=0):=by
 have hh:d.has x.1=true:=by simp[bp.has,h1]
 have hw:d.write x.1 x.2=if d.fuel=0 then (3,d.dead) else (0,{d.eV with loose:=d.loose++[((x.1:Int).toNat,full x.2)]}):=by
  unfold bp.write
  rw[ho,hh,if_neg (by decide),if_neg (by decide),if_neg (by omega)]
 unfold wr
 rw[hw]
 by_cases hf:d.fuel=0
 ·exact .inr ⟨by rw[if_pos hf];rfl,hf⟩
 ·exact .inl ⟨by rw[if_neg hf];rfl,hf⟩
theorem Pq (d:bp) (ho:d.off=false):(fl (false,d)=(false,{d.eV with dK:=d.now,loose:=[]})∧d.fuel≠0)∨(fl (false,d)=(true,d.dead)∧d.fuel=0):=by
 have hw:d.flush=if d.fuel=0 then (3,d.dead) else (0,{d.eV with dK:=d.now,loose:=[]}):=by
  unfold bp.flush
  rw[ho,if_neg (by decide)]
 unfold fl
 rw[hw]
 by_cases hf:d.fuel=0
 ·exact .inr ⟨by rw[if_pos hf];rfl,hf⟩
 ·exact .inl ⟨by rw[if_neg hf];rfl,hf⟩
theorem jK {t:Text} (h:t.length=512):full t=t:=by simp[full,h]
theorem Good.A3 {ring:Nat} {F:List Text} {a n:Nat} {gs:List cY} {H:List Text} (h:Good ring F a n gs H):Fits H.length (rZ gs):=yO fun g hg=>(h.fits g hg).2
end Wl
end Go.Proofs.YtloekpcncjocaaaGreatDoor
namespace Go.Proofs.YtloekpcncjocaaaGreatDoor
namespace Wl
open Dk (dJ kept full bp)
structure Lg where
 ring:Nat
 homes:Nat
 place:Nat
 num:Nat
 filled:Nat
 wait:cY
 down:Bool
 d:bp
def Lg.off (s:Lg):Bool:=s.down||s.d.off
def Lg.with (s:Lg) (r:Bool×bp):Lg:={s with down:=r.1,d:=r.2}
structure Live (ring N:Nat) (s:Lg) (H:List Text):Prop where
 up:s.down=false
 on:s.d.off=false
 dK:s.d.loose=[]
 CN:s.ring=ring
 homes_eq:s.homes=H.length
 TA:s.num≤N
 stands:∃a n gs,Good ring s.d.dK a n gs H∧s.place=(a+total gs)%ring∧s.num=n+gs.length∧s.filled=total gs∧s.wait=rZ gs
theorem Live.off_eq {ring N:Nat} {s:Lg} {H:List Text} (h:Live ring N s H):s.off=false:=by unfold Lg.off;rw[h.up,h.on];rfl
theorem Live.read {ring N:Nat} {s:Lg} {H:List Text} (h:Live ring N s H):(∀x∈s.wait,x.1<s.homes∧x.2.length=512)∧aP s.wait∧s.d.dK.length=1+ring+H.length∧4≤ring∧ring≤4096∧1≤H.length∧H.length≤65536∧s.filled≤ring∧s.place<ring∧1≤s.num∧s.num<1000000∧s.wait.length≤65536∧
  ∀j,j<H.length→H[j]?=(look j s.wait).or (s.d.now[1+ring+j]?):=by
 obtain⟨a,n,gs,hg,h1,h2,h3,h4⟩:=h.stands
 have hf:=hg.A3
 have hlen:=hg.len
 have hm:=hg.Tz
 have jf:=hg.r1
 have jG:=hg.r2
 have hnp:=hg.n_pos
 have hnm:=hg.Po
 have TB:s.d.now=s.d.dK:=by unfold bp.now;rw[h.dK,Dk.kM]
 refine⟨by rw[h4,h.homes_eq];exact hf.2,by rw[h4];exact hf.1,hlen,jf,jG,hg.hpos,by omega,by rw[h3];exact hg.tot,by rw[h1];exact Nat.mod_lt _ (by omega),by omega,by omega, ?_,fun j hj=> ?_⟩
 ·have key:∀(m:cY) (b c:Nat),aP m→(∀x∈m,b≤x.1∧x.1<c)→m.length≤c-b:=by
   intro m
   induction m with
   |nil=>intro b c _ _;exact Nat.zero_le _
   |cons x m ih=>
    intro b c hr hb
    obtain⟨r1,r2⟩:=List.pairwise_cons.1 hr
    have h0:=hb x List.mem_cons_self
    have:=ih (x.1+1) c r2 fun y hy=>⟨r1 y hy,(hb y (List.mem_cons_of_mem _ hy)).2⟩
    rw[List.length_cons];omega
  have:=key s.wait 0 H.length (by rw[h4];exact hf.1) fun x hx=>⟨Nat.zero_le _,by rw[h4] at hx;exact (hf.2 x hx).1⟩
  omega
 ·have:=congrArg (fun L=>L[j]?) hg.homes
  rw[this,lR hf.1,List.length_drop,if_pos (by omega),h4,List.getElem?_drop,TB]
def bO (n:Nat):List Text:=List.replicate n (full [])
theorem yP:(full []).length=512:=Dk.dw _ (by decide)
theorem n_:blank (full [])=true:=by unfold full;rw[List.nil_append];exact j_ _
theorem A4 (size ring:Nat) (h1:4≤ring) (h2:ring≤4096) (h3:ring+2≤size) (h4:size≤65536):
  Good ring ((List.replicate size (full [])).set 0 (full (first size ring 0 1))) 0 1 [] (bO (size-1-ring)):=by
 refine⟨h1,h2,by rw[List.length_set,List.length_replicate,bO,List.length_replicate];omega,by rw[bO,List.length_replicate];omega,by rw[List.length_set,List.length_replicate];exact h4, ?_, ?_,by omega,by decide,by decide,trivial,by simp[total],(fun g hg=>by cases hg),fun i hi=> ?_, ?_⟩
 ·intro s hs
  rcases List.mem_or_eq_of_mem_set hs with hs|rfl
  ·rw[List.eq_of_mem_replicate hs];exact yP
  ·exact Dk.dw _ (by rw[nX];decide)
 ·rw[List.length_set,List.length_replicate,List.getElem?_set_self (by rw[List.length_replicate];omega)]
 ·exact⟨full [],by rw[List.getElem?_set_ne (by omega),List.getElem?_replicate,if_pos (by omega)],.inl n_⟩
 ·rw[show rZ ([]:List cY)=[] from rfl,Dk.kM,List.drop_set,if_pos (by omega),List.drop_replicate,bO]
  congr 1;omega
def begun (size ring:Nat):Lg:=⟨ring,size-1-ring,0,1,0,[],false,⟨(List.replicate size (full [])).set 0 (full (first size ring 0 1)),[],-1,false⟩⟩
theorem A5 (size ring:Nat) (h1:4≤ring) (h2:ring≤4096) (h3:ring+2≤size) (h4:size≤65536):Live ring 1 (begun size ring) (bO (size-1-ring)):=
 ⟨rfl,rfl,rfl,rfl,by simp[begun,bO],Nat.le_refl _,0,1,[],A4 size ring h1 h2 h3 h4,by show 0=_;simp[total],rfl,rfl,rfl⟩
theorem A6 (size ring:Nat) (h3:0<size):fl (wr (false,Dk.fresh size) (0,first size ring 0 1))=(false,(begun size ring).d):=by
 have hx:(0:Nat)<(Dk.fresh size).dK.length:=by simp[Dk.fresh,h3]
 rcases Pp (Dk.fresh size) (0,first size ring 0 1) rfl hx (by rw[nX];decide) with⟨e,_⟩|⟨_,e⟩
 ·rw[e]
  rcases Pq {(Dk.fresh size).eV with loose:=(Dk.fresh size).loose++[fw (0,first size ring 0 1)]} rfl with⟨e',_⟩|⟨_,e'⟩
  ·rw[e'];rfl
  ·have:(-1:Int)=0:=e'
   omega
 ·have:(-1:Int)=0:=e
  omega
end Wl
end Go.Proofs.YtloekpcncjocaaaGreatDoor
namespace Go.Proofs.YtloekpcncjocaaaGreatDoor
open Go.RowKit
def jL (g mb:Nat) (s:Wl.Lg):List Value:=[ptr g,.int .i64 s.ring,.int .i64 s.homes,.int .i64 s.place,.int .u64 s.num,.int .i64 s.filled,.map (some mb),.bool s.down]
abbrev JZ:TypeId:=3
abbrev A7 (w:World) (b:Nat) (m:Wl.cY):Prop:=dY Tryz.prog JZ nY w b m
structure gJ (w:World) (F:Nat→Prop) (b g mb:Nat) (FD:Nat→Prop) (s:Wl.Lg):Prop where
 blk:aG w b 120 (jL g mb s)
 mp:A7 w mb s.wait
 sec:mo w FD g s.d
 nb:¬FD b
 nm:¬FD mb
 fb:F b
 fm:F mb
 fd:∀k,FD k→F k
 lt:∀k,F k→k<w.heap.size
def Log (w:World) (F:Nat→Prop) (b g:Nat) (s:Wl.Lg):Prop:=∃mb FD,gJ w F b g mb FD s
structure Xk (s:Wl.Lg):Prop where
 r1:4≤s.ring
 r2:s.ring≤4096
 h:s.homes≤65536
 p:s.place<s.ring
 n:s.num<1000000
 f:s.filled≤1000000
 w:Wl.Fits s.homes s.wait
 wl:s.wait.length≤65536
 len:s.d.dK.length=1+s.ring+s.homes
theorem Wl.Live.Fw {ring N:Nat} {s:Wl.Lg} {H:List (List UInt8)} (h:Wl.Live ring N s H):Xk s:=by
 obtain⟨h1,h2,h3,h4,h5,h6,h7,h8,h9,h10,h11,h12,_⟩:=h.read
 have e1:=h.CN
 have e2:=h.homes_eq
 exact⟨by omega,by omega,by omega,by omega,by omega,by omega,⟨h2,h1⟩,h12,by omega⟩
def both (F G:Nat→Prop) (k:Nat):Prop:=F k∨G k
theorem aW.both {F FD Fx:Nat→Prop} {w w1:World} (Sy:∀k,FD k→F k) (h:aW FD w Fx w1):aW F w (both F Fx) w1:=
 ⟨h.1.mono fun k _ hk=>Sy k hk,fun k hk=>by
  rcases hk with hk|hk
  ·exact .inl hk
  ·rcases h.2 k hk with h'|h'
   ·exact .inl (Sy k h')
   ·exact .inr h'⟩
theorem vh {FD Fx:Nat→Prop} {w w1:World} (h:aW FD w Fx w1) {b:Nat} (hb:b<w.heap.size) (hn:¬FD b):¬Fx b:=fun hk=>by
 rcases h.2 b hk with h'|h'
 ·exact hn h'
 ·omega
namespace gJ
variable {w w1:World} {F FD Fx:Nat→Prop} {b g mb:Nat} {s:Wl.Lg}
theorem log (h:gJ w F b g mb FD s):Log w F b g s:=⟨mb,FD,h⟩
theorem c0 (h:gJ w F b g mb FD s):w.cell? ⟨b,0,none⟩=some (.pointer (some ⟨g,0,none⟩)):=h.blk.cell rfl
theorem c1 (h:gJ w F b g mb FD s):w.cell? ⟨b,1,none⟩=some (.int .i64 s.ring):=h.blk.cell rfl
theorem c2 (h:gJ w F b g mb FD s):w.cell? ⟨b,2,none⟩=some (.int .i64 s.homes):=h.blk.cell rfl
theorem c3 (h:gJ w F b g mb FD s):w.cell? ⟨b,3,none⟩=some (.int .i64 s.place):=h.blk.cell rfl
theorem c4 (h:gJ w F b g mb FD s):w.cell? ⟨b,4,none⟩=some (.int .u64 s.num):=h.blk.cell rfl
theorem c6 (h:gJ w F b g mb FD s):w.cell? ⟨b,6,none⟩=some (.map (some mb)):=h.blk.cell rfl
theorem c7 (h:gJ w F b g mb FD s):w.cell? ⟨b,7,none⟩=some (.bool s.down):=h.blk.cell rfl
theorem Pr (h:gJ w F b g mb FD s):mb≠b:=h.mp.bK h.blk
theorem turned (h:gJ w F b g mb FD s) {d:Dk.bp} (hs:mo w1 Fx g d) (hm:aW FD w Fx w1):gJ w1 (both F Fx) b g mb Fx {s with d:=d}∧aW F w (both F Fx) w1:=
 ⟨⟨h.blk.but hm.1 h.nb,h.mp.but hm.1 h.nm,hs,vh hm (h.lt b h.fb) h.nb,vh hm (h.lt mb h.fm) h.nm,.inl h.fb,.inl h.fm,fun k hk=>.inr hk,fun k hk=>by
  rcases hk with hk|hk
  ·exact Nat.lt_of_lt_of_le (h.lt k hk) hm.1.size
  ·exact hs.lt k hk⟩,hm.both h.fd⟩
theorem but {S:Nat→Prop} (h:gJ w F b g mb FD s) (hb:aj S w w1) (hn:∀k,F k→¬S k):gJ w1 F b g mb FD s:=
 ⟨h.blk.but hb (hn b h.fb),h.mp.but hb (hn mb h.fm),h.sec.but hb (fun k hk=>hn k (h.fd k hk)),h.nb,h.nm,h.fb,h.fm,h.fd,fun k hk=>Nat.lt_of_lt_of_le (h.lt k hk) hb.size⟩
theorem below (h:gJ w F b g mb FD s) (hb:Below w.heap.size w w1):gJ w1 F b g mb FD s:=h.but (aj.aq hb (fun _=>False)) (fun _ _ hf=>hf)
theorem set (h:gJ w F b g mb FD s) (j:Nat) (u:Value) (s':Wl.Lg) (hc:(jL g mb s).set j u=jL g mb s') (hw:s'.wait=s.wait) (hd:s'.d=s.d):gJ (w.setCell ⟨b,j,none⟩ u) F b g mb FD s'∧aW F w F (w.setCell ⟨b,j,none⟩ u):=by
 have hb:aj (· =b) w (w.setCell ⟨b,j,none⟩ u):=(aj.refl _ w).setCell _ _ (fun _=>rfl)
 refine⟨⟨?_, ?_, ?_,h.nb,h.nm,h.fb,h.fm,h.fd,fun k hk=>Nat.lt_of_lt_of_le (h.lt k hk) hb.size⟩,hb.mono (fun k _ e=>e▸h.fb),fun k hk=>.inl hk⟩
 ·rw[←hc];exact h.blk.set j u
 ·rw[hw];exact h.mp.but hb h.Pr
 ·rw[hd];exact h.sec.but hb (fun k hk e=>h.nb (e▸hk))
end gJ
theorem Log.lt {w:World} {F:Nat→Prop} {b g:Nat} {s:Wl.Lg} (h:Log w F b g s):∀k,F k→k<w.heap.size:=by
 obtain⟨_,_,h⟩:=h
 exact h.lt
theorem Log.but {S:Nat→Prop} {w w1:World} {F:Nat→Prop} {b g:Nat} {s:Wl.Lg} (h:Log w F b g s) (hb:aj S w w1) (hn:∀k,F k→¬S k):Log w1 F b g s:=by
 obtain⟨_,_,h⟩:=h
 exact (h.but hb hn).log
theorem Log.below {w w1:World} {F:Nat→Prop} {b g:Nat} {s:Wl.Lg} (h:Log w F b g s) (hb:Below w.heap.size w w1):Log w1 F b g s:=by
 obtain⟨_,_,h⟩:=h
 exact (h.below hb).log
end Go.Proofs.YtloekpcncjocaaaGreatDoor
namespace Go.Proofs.YtloekpcncjocaaaGreatDoor
open Go.RowKit Lib
abbrev CT:TypeId:=219
def zeros:List UInt8:=List.replicate 512 0
theorem fQ:zeros.length=512:=List.length_replicate
theorem J1:(Tryz.prog.info? CT).map (·.size)=some 512:=by kernel_rfl
theorem wU (w:World):(zeroValue CT).run Tryz.prog w=.ok (ctext zeros) w:=by kernel_rfl
theorem DN (l:List UInt8):(l.map aR).toArray.all (·.oneCell')=true:=by
 rw[Array.all_eq_true_iff_forall_mem]
 intro v hv
 simp only[List.mem_toArray,List.mem_map] at hv
 obtain⟨b,_,rfl⟩:=hv
 rfl
def yQ (w:World) (g:Nat) (l:List UInt8):Prop:=aG w g CT (l.map aR)∧l.length=512
theorem Below.but {B:Nat} {S:Nat→Prop} {w w' w'':World} (h:Below B w w') (hb:aj S w' w'') (hB:B≤w'.heap.size) (hS:∀k,k<B→¬S k):Below B w w'':=h.trans (hb.below hB hS)
theorem mG {ops:Array Oper} {rest:List Oper} {o:Oper} {a:Act} {w:World} {Q:Exit→Act→World→Prop} (hgd:o.guard=none) (x y:Operand) (ho:o.op=.store CT x y)
  (g:Nat) (c old:List UInt8) (hx:a.eval x=.pointer (some ⟨g,0,none⟩)) (hy:a.eval y=ctext c) (hc:c.length=512) (hb:yQ w g old)
  (h:∀w',yQ w' g c→aj (fun k=>k=g) w w'→wpList Tryz.prog ops Q rest (a.put o.dst undef) w'):wpList Tryz.prog ops Q (o::rest) a w:=by
 refine wpList_store_row hgd CT x y ho g (c.map aR).toArray hx hy CT (old.map aR).toArray hb.1 (by rw[J1];simp[hc]) (by simp[hb.2,hc]) (DN c) ?_
 exact h _ ⟨setRow_heap w g _ _ _ _ hb.1,hc⟩ ((aj.refl _ w).setRow g _ (fun _=>rfl))
theorem FZ (w:World) (c:Nat):(Instr.sliceAt CT (.pointer (some ⟨c,0,none⟩)) none none none).run Tryz.prog w=.ok (.slice (some ⟨c,0,none⟩) 512 512) w:=by
 have e1:Tryz.prog.arrayLen CT=512:=by kernel_rfl
 have e2:Tryz.prog.elem CT=5:=by kernel_rfl
 have e3:=run_sliceAt_array_all (P:=Tryz.prog) w CT ⟨c,0,none⟩ (by rw[e1,e2];kernel_rfl)
 rw[e3,e1,e2]
 show ((sizeOf 5).run Tryz.prog w).andThen _=_
 rw[Tryz.sizeOf5]
 simp[go_sem,Addr.add]
theorem yQ.back {w:World} {c:Nat} {t:List UInt8} (hb:yQ w c t):(convert 67 9 (.slice (some ⟨c,0,none⟩) 512 512)).run Tryz.prog w=.ok (.string (bs t)) w:=by
 have:=run_convert_bytes_back (P:=Tryz.prog) w 67 9 5 ⟨c,0,none⟩ 512 t (by kernel_rfl) (by kernel_rfl) (by kernel_rfl) (by
  intro i hi
  rw[pL]
  refine hb.1.cell ?_
  rw[List.getElem?_map,List.getElem?_eq_getElem hi]
  rfl)
 rw[hb.2] at this
 exact this
theorem yQ.new (w:World) (Z:Array Value) (hZ:Z=(zeros.map aR).toArray):yQ (w.alloc (.cells Z CT)) w.heap.size zeros:=by
 subst hZ
 exact⟨aG.new w _ _,fQ⟩
theorem yR:Tryz.prog.underlying 115=some (.map JZ CT):=Tryz.underlying115
theorem eX:Tryz.prog.underlying JZ=some (.int .i64):=Tryz.underlying3
theorem A7.fO {w:World} {b:Nat} {m:Wl.cY} (h:A7 w b m) {k:Nat} (hk:k≤1000000) {t:List UInt8} (hl:Wl.look k m=some t):(Instr.lookup 115 (.map (some b)) (.int .i64 k) true).run Tryz.prog w=.ok (.tuple #[ctext t,.bool true]) w∧t.length=512:=
 dY.fO (M:=nY) h eX yR (wU w) fQ hk hl
theorem A7.cK {w:World} {b:Nat} {m:Wl.cY} (h:A7 w b m) {k:Nat} (hk:k≤1000000) (hl:Wl.look k m=none):(Instr.lookup 115 (.map (some b)) (.int .i64 k) true).run Tryz.prog w=.ok (.tuple #[ctext zeros,.bool false]) w:=
 dY.cK (M:=nY) h eX yR (wU w) fQ hk hl
end Go.Proofs.YtloekpcncjocaaaGreatDoor
namespace Go.Proofs.YtloekpcncjocaaaGreatDoor
set_option maxRecDepth 100000
open Go.ChangeShapes Go.WideShapes Go.ChangeAt Go.RowKit
theorem addr_add (g o j:Nat):(⟨g,o,none⟩:Addr).add j=⟨g,o+j,none⟩:=by unfold Addr.add;split<;>simp_all
end Go.Proofs.YtloekpcncjocaaaGreatDoor
namespace Go.Proofs.YtloekpcncjocaaaGreatDoor
set_option maxRecDepth 100000
open Go.ChangeShapes Go.WideShapes Go.ChangeAt Go.RowKit
theorem M0 {H:Type} {enc:TypeId×Value→H} {W:World} {n:Nat} {v:Value} {y:DataW H×List MemPlace} {α:Type} [Inhabited α] {T E c:Nat} (f:α→List Value) (ok:α→Prop)
  (hT:Tryz.prog.underlying T=some (.slice E)) (hc:Tryz.prog.cellsOf E=c) (h0:0<c)
  (hel:∀(n:Nat) (cs:List Value) (y:DataW H×List MemPlace),cs.length=c→DataW.trod enc Tryz.prog W 0 (fun _=>true) true n E cs=some y→∃x,cs=f x∧ok x)
  (h:DataW.trod enc Tryz.prog W 0 (fun _=>true) true n T [v]=some y):
  ∃(l:List α) (a:Option Addr) (cap:Nat),v=.slice a l.length cap∧l.length≤cap∧l.length≤9223372036854775807∧∀i (hi:i<l.length),ok l[i]∧∃g o,a=some ⟨g,o,none⟩∧g<W.heap.size∧
   ∀j (hj:j<l.length) m,m<c→W.cell? ⟨g,o+(j*c+m),none⟩=(f l[j])[m]?:=by
 rcases Deep.open_slice hT h with⟨e,_⟩|⟨a,len,cap,m,n',D,Pl,e,_,hl,OO,hm,_,hx⟩
 ·simp only[List.cons.injEq,and_true] at e
  exact⟨[],none,0,e,Nat.le_refl _,by simp,fun i hi=>by simp at hi⟩
 ·simp only[List.cons.injEq,and_true] at e
  subst e
  simp only[if_true] at hm
  subst hm
  rw[hc] at hx
  obtain⟨X,hX⟩:=Deep.choose_lt (α:=α) (p:=fun i x=>W.cells? 0 (a.add (i*c)) c=some (f x)∧ok x) (fun i (hi:i<m)=>by
   obtain⟨cs',h1,h2⟩:=hx i hi
   obtain⟨x,rfl,hx'⟩:=hel _ _ _ (World.cells?_some h1).2.1 h2
   exact⟨x,h1,hx'⟩)
  rcases Nat.eq_zero_or_pos len with rfl|hn
  ·exact⟨[],_,m,rfl,Nat.zero_le _,by simp,fun i hi=>by simp at hi⟩
  ·obtain⟨g,o,spot⟩:=a
   have h00:=(World.cells?_some (hX 0 (by omega)).1).2.2 0 h0
   have LW:=(World.cells?_some (hX 0 (by omega)).1).2.1
   rw[List.getElem?_eq_getElem (by omega)] at h00
   have Pt:spot=none:=by simpa[Addr.add] using World.cell?_spot h00
   subst Pt
   have hg:=World.block_lt_of_cell? _ _ h00
   have hg:g<W.heap.size:=by rw[addr_add,addr_add] at hg;exact hg
   refine⟨(List.range len).map X,some ⟨g,o,none⟩,m,by simp,by simpa using hl,by simp;unfold maxLen at OO;omega,fun i hi=> ?_⟩
   have hi':i<len:=by simpa using hi
   refine⟨by simpa using (hX i (by omega)).2,g,o,rfl,hg,fun j hj k hk=> ?_⟩
   have hj':j<len:=by simpa using hj
   have k0:=(World.cells?_some (hX j (by omega)).1).2.2 k hk
   rw[addr_add,addr_add] at k0
   rw[List.getElem_map,List.getElem_range,←Nat.add_assoc]
   exact k0
theorem kN {m:Int} (hw:(Lit.int .i64 m).wf=true):(-9223372036854775808:Int)≤m∧m≤9223372036854775807:=by
 simp only[Lit.wf,Bool.and_eq_true,decide_eq_true_eq] at hw
 exact hw
end Go.Proofs.YtloekpcncjocaaaGreatDoor
namespace Go.Proofs.YtloekpcncjocaaaGreatDoor
open Go.ChangeShapes Go.WideShapes Go.ChangeAt Go.RowKit
open Go.ChangeMaps (open_string shut_string)
def J3:DataW Unit→Value
 |.lit (.int k z)=>.int k z
 |_=>undef
def yS:DataW Unit→List Value
 |.agg l=>l.map J3
 |_=>[]
def DP:DataW Unit→List Value
 |.agg l=>l.flatMap yS
 |_=>[]
def F0 (cs:Array Value):Obj→Obj
 |.cells _ t frozen=>.cells cs t frozen
 |o=>o
noncomputable def laidWorld (os:Os):World:=
 {World.holding Tryz.prog os ⟨#[],#[],[]⟩ with heap:=((World.holding Tryz.prog os ⟨#[],#[],[]⟩).heap.modify 2 (F0 (DP Rows.laid_unicode_utf8_acceptRanges).toArray)).modify 1 (F0 (yS Rows.laid_unicode_utf8_first).toArray)}
end Go.Proofs.YtloekpcncjocaaaGreatDoor
namespace Go.Proofs.YtloekpcncjocaaaGreatDoor
namespace Wl
open Dk (dJ full)
def along (H:List Text) (ps:List (Int×Text)):List Text:=ps.foldl (fun H p=>H.set p.1.toNat (full p.2)) H
def Pu (g:cY) (ps:List (Int×Text)):cY:=ps.foldl (fun g p=>ins p.1.toNat (full p.2) g) g
theorem wV (H:List Text) (a b:List (Int×Text)):along H (a++b)=along (along H a) b:=by simp[along]
theorem bL:∀(ps:List (Int×Text)) (H:List Text),(along H ps).length=H.length
 |[],_=>rfl
 |p::ps,H=>by show (along (H.set _ _) ps).length=_;rw[bL ps,List.length_set]
theorem r4:∀(ps:List (Int×Text)) {g:cY},aP g→aP (Pu g ps)
 |[],_,h=>h
 |_::ps,_,h=>r4 ps (dS _ _ h)
theorem F3 (H:List Text) {g:cY} (hr:aP g) (k:Nat) (t:Text):dJ H (ins k t g)=(dJ H g).set k t:=by
 refine List.ext_getElem? fun j=> ?_
 rw[lR (dS k t hr),dR,List.getElem?_set,Dk.eL,lR hr]
 by_cases hj:j<H.length
 ·rw[if_pos hj,if_pos hj]
  by_cases hk:k=j
  ·subst hk;simp[hj]
  ·rw[if_neg (Ne.symm hk),if_neg hk]
 ·rw[if_neg hj,if_neg hj]
  split
  ·rename_i e;subst e;rw[if_neg hj]
  ·rfl
theorem yT:∀(ps:List (Int×Text)) (H:List Text) {g:cY},aP g→dJ H (Pu g ps)=along (dJ H g) ps
 |[],_,_,_=>rfl
 |p::ps,H,g,h=>by
  show dJ H (Pu (ins _ _ g) ps)=along ((dJ H g).set _ _) ps
  rw[yT ps H (dS _ _ h),F3 H h]
theorem r5:aP ([]:cY):=List.Pairwise.nil
theorem r6 (k:Nat) (t:Text):∀{m:cY},aP m→(ins k t m).length=if (look k m).isSome then m.length else m.length+1
 |[],_=>rfl
 |x::m,hr=>by
  obtain⟨h1,h2⟩:=List.pairwise_cons.1 hr
  unfold ins
  by_cases hk:k<x.1
  ·rw[if_pos hk]
   have:look k (x::m)=none:=cK.2 fun y hy=>by
    rcases List.mem_cons.1 hy with rfl|hy
    ·omega
    ·have:=h1 y hy;omega
   rw[this];rfl
  ·rw[if_neg hk]
   unfold look
   by_cases he:k=x.1
   ·rw[if_pos he,if_pos he.symm];rfl
   ·rw[if_neg he,if_neg (Ne.symm he),List.length_cons,r6 k t h2]
    split<;>rfl
end Wl
end Go.Proofs.YtloekpcncjocaaaGreatDoor
namespace Go.Proofs.YtloekpcncjocaaaGreatDoor
namespace Rm
open Wl (Text)
def dU (s:Text) (k:Nat):Bool:=(s.getD (k/8) 0).toNat.testBit (k%8)
def flip (s:Text) (k:Nat):Text:=s.set (k/8) (s.getD (k/8) 0^^^UInt8.ofNat (2^(k%8)))
theorem iG (s:Text) (k:Nat):(flip s k).length=s.length:=List.length_set
theorem yU (i j:Nat):(2^i).testBit j=decide (j=i):=by
 rw[Nat.testBit_two_pow]
 by_cases h:i=j
 ·rw[h]
 ·rw[decide_eq_false h,decide_eq_false fun e=>h e.symm]
theorem A8 (s:Text) {k:Nat} (hk:k/8<s.length) (j:Nat):dU (flip s k) j=if j=k then !dU s j else dU s j:=by
 unfold dU flip
 have hp:2^(k%8)<256:=by
  have:2^(k%8)≤2^7:=Nat.pow_le_pow_right (by decide) (by omega)
  omega
 by_cases h:j/8=k/8
 ·rw[h,List.getD_eq_getElem?_getD,List.getElem?_set_self hk,Option.getD_some,UInt8.toNat_xor,Nat.testBit_xor,UInt8.toNat_ofNat',Nat.mod_eq_of_lt hp,yU]
  by_cases e:j=k
  ·rw[if_pos e,e,decide_eq_true rfl,Bool.xor_true]
  ·rw[if_neg e,decide_eq_false (by omega),Bool.xor_false]
 ·rw[List.getD_eq_getElem?_getD,List.getElem?_set_ne (by omega),←List.getD_eq_getElem?_getD,if_neg (by rintro rfl;exact h rfl)]
def count (s:Text):Nat→Nat
 |0=>0
 |n+1=>count s n+(dU s n).toNat
theorem count_le (s:Text):∀n,count s n≤n
 |0=>Nat.le_refl _
 |n+1=>by have:=count_le s n;have:=Bool.toNat_le (dU s n);show count s n+_≤_;omega
def r7 (b n:Nat):Nat:=((List.range n).filter fun i=>b.testBit i).length
def mH (b:Nat):Nat:=r7 b 8
theorem pO (b n:Nat):r7 b (n+1)=r7 b n+(b.testBit n).toNat:=by
 unfold r7
 rw[List.range_succ,List.filter_append,List.length_append,List.filter_cons,List.filter_nil]
 cases b.testBit n<;>rfl
theorem pP (s:Text) (k:Nat):∀n,n≤8→count s (8*k+n)=count s (8*k)+r7 (s.getD k 0).toNat n
 |0,_=>rfl
 |n+1,h=>by
  show count s (8*k+n)+(dU s (8*k+n)).toNat=_
  rw[pP s k n (by omega),pO]
  unfold dU
  rw[show (8*k+n)/8=k by omega,show (8*k+n)%8=n by omega,Nat.add_assoc]
theorem F5 (b n:Nat) (hn:n≤8):r7 (b%2^n) 8=r7 b n:=by
 have key:∀m,r7 (b%2^n) m=r7 b (min m n):=by
  intro m
  induction m with
  |zero=>rw[Nat.zero_min];rfl
  |succ m ih=>
   rw[pO,ih,Nat.testBit_mod_two_pow]
   by_cases h:m<n
   ·rw[decide_eq_true h,Bool.true_and,Nat.min_eq_left (by omega),Nat.min_eq_left (by omega:m+1≤n),pO]
   ·rw[decide_eq_false h,Bool.false_and,Nat.min_eq_right (by omega),Nat.min_eq_right (by omega:n≤m+1)]
    rfl
 rw[key,Nat.min_eq_right hn]
def CO (s:Text) (f:Nat):Prop:=(∀j,j<f→dU s j=true)∧f≤8*s.length∧(f<8*s.length→dU s f=false)
def gm (s:Text) (k:Nat):Nat→Nat
 |0=>0
 |i+1=>gm s k i*256+(s.getD (8*k+i) 0).toNat
def num (s:Text) (k:Nat):Nat:=gm s k 8
theorem yV (s:Text) (k:Nat):∀i,gm s k i<256^i
 |0=>Nat.one_pos
 |i+1=>by
  have:=yV s k i
  have h2:(s.getD (8*k+i) 0).toNat<256:=UInt8.toNat_lt _
  show gm s k i*256+_<_
  rw[Nat.pow_succ]
  omega
def mI (s:Text) (k n:Nat):Nat→Text
 |0=>s
 |i+1=>(mI s k n i).set (8*k+i) (UInt8.ofNat (n/256^(7-i)))
def put (s:Text) (k n:Nat):Text:=mI s k n 8
theorem gN (s:Text) (k n:Nat):∀i,(mI s k n i).length=s.length
 |0=>rfl
 |i+1=>by show (List.set _ _ _).length=_;rw[List.length_set,gN s k n i]
theorem m7 (s:Text) (k n:Nat):(put s k n).length=s.length:=gN s k n 8
theorem r8 (s:Text) (k n j:Nat) (hs:8*k+8≤s.length):∀i,i≤8→(mI s k n i).getD j 0=if 8*k≤j∧j<8*k+i then UInt8.ofNat (n/256^(7-(j-8*k))) else s.getD j 0
 |0,_=>by rw[if_neg (by omega)];rfl
 |i+1,h=>by
  show ((mI s k n i).set (8*k+i) _).getD j 0=_
  by_cases e:j=8*k+i
  ·rw[e,List.getD_eq_getElem?_getD,List.getElem?_set_self (by rw[gN];omega),if_pos (by omega),Option.getD_some]
   rw[show 8*k+i-8*k=i by omega]
  ·rw[List.getD_eq_getElem?_getD,List.getElem?_set_ne (by omega),←List.getD_eq_getElem?_getD,r8 s k n j hs i (by omega)]
   by_cases h1:8*k≤j∧j<8*k+i
   ·rw[if_pos h1,if_pos (by omega)]
   ·rw[if_neg h1,if_neg (by omega)]
theorem vi (s:Text) (k n:Nat) (hs:8*k+8≤s.length) (hn:n<256^8):∀i,i≤8→gm (put s k n) k i=n/256^(8-i)
 |0,_=>(Nat.div_eq_of_lt hn).symm
 |i+1,h=>by
  show gm (put s k n) k i*256+((put s k n).getD (8*k+i) 0).toNat=_
  rw[vi s k n hs hn i (by omega)]
  unfold put
  rw[r8 s k n _ hs 8 (Nat.le_refl _),if_pos (by omega),show 8*k+i-8*k=i by omega,UInt8.toNat_ofNat']
  rw[show 8-i=(7-i)+1 by omega,show 8-(i+1)=7-i by omega,Nat.pow_succ,←Nat.div_div_eq_div_mul]
  have:=Nat.div_add_mod (n/256^(7-i)) 256
  omega
theorem J4 (s:Text) (k n:Nat) (hs:8*k+8≤s.length) (hn:n<256^8):num (put s k n) k=n:=by
 have:=vi s k n hs hn 8 (Nat.le_refl _)
 rwa [Nat.sub_self,Nat.pow_zero,Nat.div_one] at this
theorem DQ (s:Text) (k n j:Nat) (hs:8*k+8≤s.length) (hj:j≠k):num (put s k n) j=num s j:=by
 have key:∀i,i≤8→gm (put s k n) j i=gm s j i:=by
  intro i
  induction i with
  |zero=>intro _;rfl
  |succ i ih=>
   intro h
   show gm (put s k n) j i*256+_=gm s j i*256+_
   rw[ih (by omega)]
   unfold put
   rw[r8 s k n _ hs 8 (Nat.le_refl _),if_neg (by omega)]
 exact key 8 (Nat.le_refl _)
def pages (n:Int):Nat:=if n<1 then 0 else let r:=(min n 1048576).toNat-1;r-(r+4096)/4097
theorem DR {n:Nat} (h1:2≤n) (h2:n≤4098):pages n=n-2:=by
 unfold pages
 rw[if_neg (by omega)]
 have:(min (n:Int) 1048576).toNat=n:=by omega
 simp only[this]
 omega
structure b8 (K:List Text) (pg:List (Option Text)) (rt:List Nat):Prop where
 len:K.length=pg.length+2
 full:∀t∈K,t.length=512
 bit:∀p,p<pg.length→dU (K.getD 1 []) p=(pg.getD p none).isSome
 page:∀p t,pg[p]?=some (some t)→K.getD (2+p) []=t
 pQ:rt.length=16
 num:∀k,k<16→num (K.getD 0 []) k=rt.getD k 0
 few:pg.length≤4096
namespace b8
variable {K:List Text} {pg:List (Option Text)} {rt:List Nat}
theorem home (h:b8 K pg rt) {i:Nat} (hi:i<K.length):(K.getD i []).length=512:=by
 rw[List.getD_eq_getElem?_getD,List.getElem?_eq_getElem hi,Option.getD_some]
 exact h.full _ (List.getElem_mem hi)
theorem ry (h:b8 K pg rt) (i:Nat) {t:Text} (ht:t.length=512):∀u∈K.set i t,u.length=512:=by
 intro u hu
 rcases List.mem_or_eq_of_mem_set hu with hu|hu
 ·exact h.full u hu
 ·rw[hu];exact ht
theorem ct {α:Type} (l:List α) (i j:Nat) (x d:α) (hi:i<l.length):(l.set i x).getD j d=if j=i then x else l.getD j d:=by
 by_cases e:j=i
 ·rw[if_pos e,e,List.getD_eq_getElem?_getD,List.getElem?_set_self hi,Option.getD_some]
 ·rw[if_neg e,List.getD_eq_getElem?_getD,List.getElem?_set_ne (fun h=>e h.symm),←List.getD_eq_getElem?_getD]
theorem write (h:b8 K pg rt) {p:Nat} (hp:p<pg.length) (hs:(pg.getD p none).isSome) {t:Text} (ht:t.length=512):b8 (K.set (2+p) t) (pg.set p (some t)) rt:=by
 have hl:=h.len
 refine⟨by rw[List.length_set,List.length_set,h.len],h.ry _ ht,fun q hq=> ?_,fun q u hu=> ?_,h.pQ,fun k hk=> ?_,by rw[List.length_set];exact h.few⟩
 ·rw[List.length_set] at hq
  rw[ct _ _ _ _ _ (by omega),if_neg (by omega),ct _ _ _ _ _ hp,h.bit q hq]
  by_cases e:q=p
  ·rw[if_pos e,e,hs];rfl
  ·rw[if_neg e]
 ·rw[ct _ _ _ _ _ (by omega)]
  by_cases e:q=p
  ·rw[e,List.getElem?_set_self hp] at hu
   rw[if_pos (by omega)]
   injection hu with hu
   injection hu
  ·rw[List.getElem?_set_ne (fun x=>e x.symm)] at hu
   rw[if_neg (by omega)]
   exact h.page q u hu
 ·rw[ct _ _ _ _ _ (by omega),if_neg (by omega)]
  exact h.num k hk
theorem gq (h:b8 K pg rt) {p:Nat} (hp:p<pg.length) {o:Option Text} (ho:o.isSome= !(pg.getD p none).isSome) (bD:∀t,o=some t→K.getD (2+p) []=t):b8 (K.set 1 (flip (K.getD 1 []) p)) (pg.set p o) rt:=by
 have hl:=h.len
 have hf:=h.few
 have h1:(K.getD 1 []).length=512:=h.home (by omega)
 refine⟨by rw[List.length_set,List.length_set,h.len],h.ry _ (by rw[iG];exact h1),fun q hq=> ?_,fun q u hu=> ?_,h.pQ,fun k hk=> ?_,by rw[List.length_set];exact h.few⟩
 ·rw[List.length_set] at hq
  rw[ct _ _ _ _ _ (by omega),if_pos rfl,A8 _ (by rw[h1];omega),ct _ _ _ _ _ hp,h.bit q hq]
  by_cases e:q=p
  ·rw[if_pos e,if_pos e,e,ho]
  ·rw[if_neg e,if_neg e]
 ·rw[ct _ _ _ _ _ (by omega),if_neg (by omega)]
  by_cases e:q=p
  ·rw[e,List.getElem?_set_self hp] at hu
   injection hu with hu
   rw[e]
   exact bD u hu
  ·rw[List.getElem?_set_ne (fun x=>e x.symm)] at hu
   exact h.page q u hu
 ·rw[ct _ _ _ _ _ (by omega),if_neg (by omega)]
  exact h.num k hk
theorem free (h:b8 K pg rt) {p:Nat} (hp:p<pg.length) (hs:(pg.getD p none).isSome):b8 (K.set 1 (flip (K.getD 1 []) p)) (pg.set p none) rt:=
 h.gq hp (by rw[hs];rfl) (fun t ht=>by cases ht)
theorem M7 (h:b8 K pg rt) {p:Nat} (hp:p<pg.length) (hs:pg.getD p none=none) {t:Text} (ht:t.length=512):b8 (K.set (2+p) t) pg rt:=by
 have hl:=h.len
 refine⟨by rw[List.length_set,h.len],h.ry _ ht,fun q hq=> ?_,fun q u hu=> ?_,h.pQ,fun k hk=> ?_,h.few⟩
 ·rw[ct _ _ _ _ _ (by omega),if_neg (by omega),h.bit q hq]
 ·rw[ct _ _ _ _ _ (by omega),if_neg]
  ·exact h.page q u hu
  ·intro e
   have e':q=p:=by omega
   rw[e'] at hu
   rw[List.getD_eq_getElem?_getD,hu] at hs
   cases hs
 ·rw[ct _ _ _ _ _ (by omega),if_neg (by omega)]
  exact h.num k hk
theorem set (h:b8 K pg rt) {k n:Nat} (hk:k<16) (hn:n<256^8):b8 (K.set 0 (put (K.getD 0 []) k n)) pg (rt.set k n):=by
 have hl:=h.len
 have h0:(K.getD 0 []).length=512:=h.home (by omega)
 refine⟨by rw[List.length_set,h.len],h.ry _ (by rw[m7];exact h0),fun q hq=> ?_,fun q u hu=> ?_,by rw[List.length_set];exact h.pQ,fun j hj=> ?_,h.few⟩
 ·rw[ct _ _ _ _ _ (by omega),if_neg (by omega),h.bit q hq]
 ·rw[ct _ _ _ _ _ (by omega),if_neg (by omega)]
  exact h.page q u hu
 ·rw[ct _ _ _ _ _ (by omega),if_pos rfl,ct _ _ _ _ _ (by rw[h.pQ];exact hk)]
  by_cases e:j=k
  ·rw[if_pos e,e,J4 _ _ _ (by omega) hn]
  ·rw[if_neg e,DQ _ _ _ _ (by omega) e,h.num j hj]
end b8
theorem qz (j:Nat):(List.replicate 512 (0:UInt8)).getD j 0=0:=by
 rw[List.getD_eq_getElem?_getD,List.getElem?_replicate]
 split<;>rfl
theorem wW (k:Nat):dU (List.replicate 512 0) k=false:=by
 unfold dU
 rw[qz]
 exact Nat.zero_testBit _
theorem A9 (k:Nat):num (List.replicate 512 0) k=0:=by
 have key:∀i,gm (List.replicate 512 0) k i=0:=by
  intro i
  induction i with
  |zero=>rfl
  |succ i ih=>
   show gm _ k i*256+_=0
   rw[ih,qz]
   rfl
 exact key 8
theorem J5 (n:Nat) (h1:2≤n) (h2:n≤4098):b8 (Wl.bO n) (List.replicate (n-2) none) (List.replicate 16 0):=by
 have hf:Dk.full []=List.replicate 512 0:=rfl
 have hg:∀i,i<n→(Wl.bO n).getD i []=List.replicate 512 0:=by
  intro i hi
  unfold Wl.bO
  rw[List.getD_eq_getElem?_getD,List.getElem?_replicate,if_pos hi,Option.getD_some,hf]
 refine⟨by unfold Wl.bO;rw[List.length_replicate,List.length_replicate];omega,fun t ht=> ?_,fun p hp=> ?_,fun p t hp=> ?_,List.length_replicate,fun k hk=> ?_,by rw[List.length_replicate];omega⟩
 ·rw[(List.mem_replicate.1 ht).2,hf,List.length_replicate]
 ·rw[hg 1 (by omega),wW,List.getD_eq_getElem?_getD,List.getElem?_replicate]
  rw[List.length_replicate] at hp
  rw[if_pos hp];rfl
 ·rw[List.getElem?_replicate] at hp
  split at hp<;>simp at hp
 ·rw[hg 0 (by omega),A9,List.getD_eq_getElem?_getD,List.getElem?_replicate,if_pos hk]
  rfl
def used (pg:List (Option Text)):Nat:=(pg.filter Option.isSome).length
theorem A_ {s:Text} {pg:List (Option Text)} (h:∀p,p<pg.length→dU s p=(pg.getD p none).isSome):count s pg.length=used pg:=by
 have key:∀n,n≤pg.length→count s n=used (pg.take n):=by
  intro n
  induction n with
  |zero=>intro _;rfl
  |succ n ih=>
   intro hn
   show count s n+_=_
   rw[ih (by omega),h n (by omega)]
   unfold used
   rw[List.take_succ_eq_append_getElem (by omega),List.filter_append,List.length_append,List.filter_cons,List.filter_nil,List.getD_eq_getElem?_getD,List.getElem?_eq_getElem (by omega),Option.getD_some]
   cases (pg[n]).isSome<;>rfl
 rw[key _ (Nat.le_refl _),List.take_length]
def firstFree:List (Option Text)→Option Nat
 |[]=>none
 |none::_=>some 0
 |some _::l=>(firstFree l).map (· +1)
theorem kO:∀{pg:List (Option Text)} {p:Nat},(∀q,q<p→(pg.getD q none).isSome)→p<pg.length→pg.getD p none=none→firstFree pg=some p
 |[],_,_,h,_=>absurd h (Nat.not_lt_zero _)
 |none::pg,0,_,_,_=>rfl
 |some t::pg,0,_,_,h=>by cases h
 |none::pg,p+1,h,_,_=>by have:=h 0 (by omega);cases this
 |some t::pg,p+1,h,h2,h3=>by
  show (firstFree pg).map (· +1)=_
  rw[kO (p:=p) (fun q hq=>h (q+1) (by omega)) (by simpa using h2) h3]
  rfl
theorem kP:∀{pg:List (Option Text)},(∀q,q<pg.length→(pg.getD q none).isSome)→firstFree pg=none
 |[],_=>rfl
 |none::pg,h=>by have:=h 0 (by simp);cases this
 |some t::pg,h=>by
  show (firstFree pg).map (· +1)=_
  rw[kP (pg:=pg) (fun q hq=>h (q+1) (by simpa using hq))]
  rfl
theorem jM:∀{pg:List (Option Text)} {p:Nat},firstFree pg=some p→p<pg.length∧pg.getD p none=none
 |[],_,h=>by cases h
 |none::pg,p,h=>by
  injection h with h
  subst h
  exact⟨by simp,rfl⟩
 |some t::pg,p,h=>by
  change (firstFree pg).map (· +1)=some p at h
  cases hf:firstFree pg with
  |none=>rw[hf] at h;cases h
  |some q=>
   rw[hf] at h
   injection h with h
   subst h
   have:=jM hf
   exact⟨by simpa using this.1,this.2⟩
def refuse (pg:List (Option Text)) (i:Int):Int:=if 0≤i∧i<pg.length then (if (pg.getD i.toNat none).isSome then 0 else 6) else 2
def got (pg:List (Option Text)) (i:Int):Text:=if 0≤i∧i<pg.length then (pg.getD i.toNat none).getD [] else []
def wrote (pg:List (Option Text)) (i:Int) (n:Nat):Int:=if refuse pg i=0 then (if 512<n then 5 else 0) else refuse pg i
def has (pg:List (Option Text)) (i:Int):Bool:=if 0≤i∧i<pg.length then (pg.getD i.toNat none).isSome else false
def kQ (pg:List (Option Text)) (i:Int):Int:=if 0≤i∧i<pg.length then 0 else 2
inductive At (pg:List (Option Text)) (i:Int):Prop
 |out (h:i<0∨(pg.length:Int)≤i) (hr:refuse pg i=2) (hg:got pg i=[]) (hh:has pg i=false) (hn:kQ pg i=2)
 |free (p:Nat) (hi:i=p) (hp:p<pg.length) (hs:pg.getD p none=none) (hr:refuse pg i=6) (hg:got pg i=[]) (hh:has pg i=false) (hn:kQ pg i=0)
 |taken (p:Nat) (t:Text) (hi:i=p) (hp:p<pg.length) (hs:pg.getD p none=some t) (hr:refuse pg i=0) (hg:got pg i=t) (hh:has pg i=true) (hn:kQ pg i=0)
theorem r9 (pg:List (Option Text)) (i:Int):At pg i:=by
 by_cases h:0≤i∧i<pg.length
 ·obtain⟨p,rfl⟩:∃p:Nat,i=p:=⟨i.toNat,by omega⟩
  have hp:p<pg.length:=by omega
  cases hs:pg.getD p none with
  |none=>exact .free p rfl hp hs (by unfold refuse;rw[if_pos h,Int.toNat_natCast,hs];rfl) (by unfold got;rw[if_pos h,Int.toNat_natCast,hs];rfl) (by unfold has;rw[if_pos h,Int.toNat_natCast,hs];rfl) (by unfold kQ;rw[if_pos h])
  |some t=>exact .taken p t rfl hp hs (by unfold refuse;rw[if_pos h,Int.toNat_natCast,hs];rfl) (by unfold got;rw[if_pos h,Int.toNat_natCast,hs];rfl) (by unfold has;rw[if_pos h,Int.toNat_natCast,hs];rfl) (by unfold kQ;rw[if_pos h])
 ·exact .out (by omega) (by unfold refuse;rw[if_neg h]) (by unfold got;rw[if_neg h]) (by unfold has;rw[if_neg h]) (by unfold kQ;rw[if_neg h])
theorem ke (pg:List (Option Text)):firstFree pg=none∨∃p,firstFree pg=some p∧p<pg.length∧pg.getD p none=none:=by
 cases h:firstFree pg with
 |none=>exact .inl rfl
 |some p=>exact .inr ⟨p,rfl,(jM h).1,(jM h).2⟩
theorem Ba {s:Text} {pg:List (Option Text)} (h:∀p,p<pg.length→dU s p=(pg.getD p none).isSome) (hs:s.length=512) (hn:pg.length≤4096) {f:Nat} (hf:CO s f):
  (pg.length≤f∧firstFree pg=none)∨(f<pg.length∧firstFree pg=some f):=by
 obtain⟨h1,h2,h3⟩:=hf
 by_cases hlt:f<pg.length
 ·refine .inr ⟨hlt,kO (fun q hq=> ?_) hlt ?_⟩
  ·rw[←h q (by omega)];exact h1 q hq
  ·have:=h3 (by omega)
   rw[h f hlt] at this
   cases e:pg.getD f none with
   |none=>rfl
   |some t=>rw[e] at this;cases this
 ·refine .inl ⟨by omega,kP fun q hq=> ?_⟩
  rw[←h q hq];exact h1 q (by omega)
theorem gO (pg:List (Option Text)):used pg≤pg.length:=List.length_filter_le _ _
end Rm
end Go.Proofs.YtloekpcncjocaaaGreatDoor
namespace Go.Proofs.YtloekpcncjocaaaGreatDoor
open Go.RowKit Lib
section
variable {P:Program}
theorem mu (w:World) (t ty e:TypeId) (i:TypeInfo) (ht:P.underlying t=some (.slice e)) (hi:P.info? e=some i) (hs1:i.size=1)
  (g sLen sCap:Nat) (cur:Array Value) (fz:Nat×Nat) (hg:w.heap[g]?=some (.cells cur e fz)) (hfz:¬(fz.1≤sLen∧sLen<fz.2))
  (a:Addr) (u:Value) (hu:w.cell? a=some u) (h1:u.oneCell'=true) (hroom:sLen+1≤sCap) (hfit:sLen<cur.size):
  (Builtin.append_ #[t,t] ty #[.slice (some ⟨g,0,none⟩) sLen sCap,.slice (some a) 1 1]).run P w=.ok (.slice (some ⟨g,0,none⟩) (sLen+1) sCap) (w.setRow g (cur.setIfInBounds sLen u)):=by
 have hf:=run_firstCells_some (P:=P) w i.size 1 a 1 1 [u] (by simp[hs1]) (fun j v hj=>by
  cases j with
  |zero=>simp at hj;subst hj;simpa[Addr.add] using hu
  |succ j=>simp at hj)
 have hcell:w.cell? ⟨g,sLen,none⟩=some cur[sLen]:=by simp[World.cell?,hg,hfit]
 have TC:w.frozen? ⟨g,sLen,none⟩=false:=by
  unfold World.frozen?
  rw[hg]
  simp only[Bool.and_eq_false_iff,decide_eq_false_iff_not]
  by_cases h:fz.1≤sLen
  ·exact .inr fun h2=>hfz ⟨h,h2⟩
  ·exact .inl h
 have J6:(⟨g,sLen,none⟩:Addr).add 0=⟨g,sLen,none⟩:=by simp[Addr.add]
 have hst:(storeCells ⟨g,sLen,none⟩ [u]).run P w=.ok () (w.setRow g (cur.setIfInBounds sLen u)):=by
  simp only[storeCells,Sem.run_bind]
  rw[J6,run_store P w _ u _ h1,hcell]
  simp[TC,setCell_eq_setRow w g sLen cur e fz u hg]
 simp[Builtin.append_,run_underlying ht,sizeOf,typeInfo,hi,hs1,Builtin.lenOf,hroom,hs1▸hf,Addr.add_lit,hst]
end
def F7 (B:Nat) (w:World) (v:Value) (l:List UInt8):Prop:=
 ∃g cap cur fz,v=.slice (some ⟨g,0,none⟩) l.length cap∧B≤g∧w.heap[g]?=some (.cells cur 5 fz)∧(∀j,j<cur.size→¬(fz.1≤j∧j<fz.2))∧l.length≤cap∧cap≤maxLen∧cur.size=cap∧cur.toList.take l.length=l.map aR
theorem F7.slice {B:Nat} {w:World} {v:Value} {l:List UInt8} (h:F7 B w v l):∃g cap,v=.slice (some ⟨g,0,none⟩) l.length cap∧B≤g:=by
 obtain⟨g,cap,cur,fz,rfl,h1,_⟩:=h
 exact⟨g,cap,rfl,h1⟩
theorem mJ (w:World) (s:ByteArray) (hs:s.size≤1000000):∃v o,(convert 9 67 (.string s)).run Tryz.prog w=.ok v (w.drew.alloc o)∧F7 w.heap.size (w.drew.alloc o) v s.data.toList:=by
 refine⟨_,_,run_bytes_of_string (P:=Tryz.prog) w 9 67 5 s Tryz.underlying9 Tryz.underlying67 Tryz.underlying5, ?_⟩
 have hge:=grownCap_ge w s.size 0 5
 have hle:=grownCap_le_maxLen w s.size 0 5 (by unfold maxLen;omega)
 have hsz:(bytesRow s (grownCap w s.size 0 5)).size=grownCap w s.size 0 5:=by
  have hd:s.data.size=s.size:=rfl
  simp[bytesRow,hd];omega
 have hl:s.data.toList.length=s.size:=Array.length_toList
 refine⟨w.heap.size,grownCap w s.size 0 5,bytesRow s (grownCap w s.size 0 5),_,by rw[hl],Nat.le_refl _,heap_alloc_new w.drew _,fun j hj h=>by have:=h.1;simp only at this;omega,by rw[hl];exact hge,hle,hsz, ?_⟩
 unfold bytesRow
 rw[Array.toList_append,List.take_append_of_le_length (by simp),List.take_of_length_le (by simp),Array.toList_map]
 rfl
def eY:Elem UInt8:=lM aR (fun _=>rfl)
theorem M8:cI Tryz.prog 67 5 eY.size:=cI.of (size:=1) (bytes:=1) (z:=.int .u8 0) Tryz.underlying67 (by kernel_rfl) rfl (by decide)
abbrev Bb (B:Nat) (w:World) (v:Value) (l:List UInt8):Prop:=Own eY 5 B w v l
theorem aj.J7 {w w':World} {row:Option Nat} (hg:w.grownBy w' row):aj (fun x=>row=some x) w w':=⟨hg.os,hg.tape,hg.output,hg.size,fun x hx hn=>hg.block x hx (fun e=>hn e.symm)⟩
def dL (z:Bool) (B:Nat) (w:World) (v:Value) (l:List UInt8):Prop:=
 ∃g cap cur fz,v=.slice (some ⟨g,0,none⟩) l.length cap∧B≤g∧w.heap[g]?=some (.cells cur 5 fz)∧(∀j,j<cur.size→¬(fz.1≤j∧j<fz.2))∧l.length≤cap∧cap≤maxLen∧cur.size=cap∧cur.toList.take l.length=l.map aR∧(z=true→fz=(0,0))
variable {z:Bool}
theorem dL.but {B:Nat} {S:Nat→Prop} {w w':World} {v:Value} {l:List UInt8} (h:dL z B w v l) (hb:aj S w w') (hn:∀g,v.ownBlock=some g→¬S g):dL z B w' v l:=by
 obtain⟨g,cap,cur,fz,rfl,h1,h2,h3⟩:=h
 exact⟨g,cap,cur,fz,rfl,h1,by rw[hb.block g (Array.getElem?_eq_some_iff.1 h2).1 (hn g rfl)];exact h2,h3⟩
theorem dL.alloc {B:Nat} {w:World} {v:Value} {l:List UInt8} (h:dL z B w v l) (o:Obj):dL z B (w.alloc o) v l:=h.but ((aj.refl (fun _=>False) w).alloc o) (fun _ _ h=>h)
theorem dL.slice {B:Nat} {w:World} {v:Value} {l:List UInt8} (h:dL z B w v l):∃g cap,v=.slice (some ⟨g,0,none⟩) l.length cap∧B≤g∧g<w.heap.size∧l.length≤cap:=by
 obtain⟨g,cap,cur,fz,rfl,h1,h2,_,h4,_⟩:=h
 exact⟨g,cap,rfl,h1,(Array.getElem?_eq_some_iff.1 h2).1,h4⟩
theorem dL.cell {B:Nat} {w:World} {g n cap:Nat} {l:List UInt8} (h:dL z B w (.slice (some ⟨g,0,none⟩) n cap) l) (j:Nat) (hj:j<l.length):w.cell? ⟨g,j,none⟩=some (aR l[j]):=by
 obtain⟨g',cap',cur,fz,e,h1,h2,_,_,_,_,h3,_⟩:=h
 injection e with e1 e2 e3
 injection e1 with e1
 injection e1 with e1
 subst e1
 rw[cell_of_row w g j cur _ fz h2]
 have:(cur.toList.take l.length)[j]?=some (aR l[j]):=by rw[h3,List.getElem?_map,List.getElem?_eq_getElem hj];rfl
 rw[List.getElem?_take,if_pos hj] at this
 simpa using this
theorem dL.typed {B:Nat} {w:World} {v:Value} {l:List UInt8} (h:dL z B w v l) {k:Nat} (hk:v.ownBlock=some k):∃cur fz,w.heap[k]?=some (.cells cur 5 fz):=by
 obtain⟨g,cap,cur,fz,rfl,_,h2,_⟩:=h
 simp[Value.ownBlock] at hk
 subst hk
 exact⟨cur,fz,h2⟩
theorem dL.const (w:World) (l:List UInt8) (hn:l.length≤1000000):dL false 0 (w.alloc (.cells (l.map aR).toArray 5 (l.length,l.length+1))) (.slice (some ⟨w.heap.size,0,none⟩) l.length l.length) l:=
 ⟨w.heap.size,l.length,(l.map aR).toArray,(l.length,l.length+1),rfl,Nat.zero_le _,heap_alloc_new w _,fun j hj h=>by have:=h.1;simp at hj;simp only at this;omega,Nat.le_refl _,by unfold maxLen;omega,by simp,by rw[List.take_of_length_le (by simp)],fun h=>by cases h⟩
theorem pR {B:Nat} {w:World} {v:Value} {l:List UInt8} {ops:Array Oper} {rest:List Oper} {o:Oper} {a:Act} {Q:Exit→Act→World→Prop} (hgd:o.guard=none) (s x:Operand)
  (ho:o.op=.call {callee:=.builtin .append,args:=#[s,x],argTypes:=#[67,67]})
  (hs:a.eval s=v) (hown:dL z B w v l) (hB:B≤w.heap.size) (g:Nat) (c:UInt8) (hx:a.eval x=.slice (some ⟨g,0,none⟩) 1 1) (hc:w.cell? ⟨g,0,none⟩=some (aR c)) (hlen:l.length≤900000000)
  (h:∀v' w',dL z B w' v' (l++[c])→aj (fun k=>v.ownBlock=some k) w w'→(v'.ownBlock=v.ownBlock∨∀k,v'.ownBlock=some k→w.heap.size≤k)→wpList Tryz.prog ops Q rest (a.put o.dst v') w'):wpList Tryz.prog ops Q (o::rest) a w:=by
 obtain⟨i,hi,hz,hsz,hby⟩:=lN (P:=Tryz.prog) (E:=5) (size:=1) (bytes:=1) (z:=.int .u8 0) (by kernel_rfl)
 obtain⟨gv,cap,cur,fz,rfl,h1,h2,h3,h4,h5,h6,h7,ZE⟩:=hown
 have hrun:∃v' w',(Builtin.append_ #[67,67] o.type #[.slice (some ⟨gv,0,none⟩) l.length cap,.slice (some ⟨g,0,none⟩) 1 1]).run Tryz.prog w=.ok v' w'∧dL z B w' v' (l++[c])∧aj (fun k=>some gv=some k) w w'∧(v'.ownBlock=some gv∨∀k,v'.ownBlock=some k→w.heap.size≤k):=by
  by_cases hroom:l.length+1≤cap
  ·refine⟨_,_,mu w 67 o.type 5 i Tryz.underlying67 hi hsz gv l.length cap cur fz h2 (h3 _ (by omega)) ⟨g,0,none⟩ (aR c) hc rfl hroom (by omega),⟨gv,cap,cur.setIfInBounds l.length (aR c),fz,by simp,h1,setRow_heap w gv cur _ _ fz h2,by simpa using h3,by simpa using hroom,h5,by simpa using h6, ?_,ZE⟩,(aj.refl _ w).setRow gv _ (fun _=>rfl),.inl rfl⟩
   rw[Array.toList_setIfInBounds,List.length_append,List.length_singleton,List.take_succ_eq_append_getElem (by simp;omega),List.getElem_set_self,List.take_set,List.map_append]
   rw[List.set_eq_of_length_le (by rw[List.length_take];omega),h7]
   rfl
  ·have holds:∀j u,(l.map aR)[j]?=some u→w.cell? ((⟨gv,0,none⟩:Addr).add j)=some u:=by
    intro j u hu
    rw[show (⟨gv,0,none⟩:Addr).add j=⟨gv,j,none⟩ by unfold Addr.add;split<;>simp_all,cell_of_row w gv j cur _ fz h2]
    rw[←h7] at hu
    by_cases hj:j<l.length
    ·rw[List.getElem?_take,if_pos hj] at hu;simpa using hu
    ·rw[List.getElem?_take,if_neg hj] at hu;cases hu
   have hr:=run_append_grow (P:=Tryz.prog) w 67 o.type 5 i (.int .u8 0) Tryz.underlying67 hi hz ⟨gv,0,none⟩ l.length cap (l.map aR) (by rw[hsz];simp) holds ⟨g,0,none⟩ 1 1 [aR c] (by rw[hsz];rfl) (fun j u hu=>by
    cases j with
    |zero=>simp at hu;subst hu;simpa[Addr.add] using hc
    |succ j=>simp at hu) (by omega) (by omega) (growslice_fits (by omega) (by rw[hby];omega))
   have hge:=grownCap_ge w (l.length+1) cap 5
   have hle:=grownCap_le_maxLen w (l.length+1) cap 5 (by unfold maxLen;omega)
   refine⟨_,_,hr,⟨w.heap.size,grownCap w (l.length+1) cap 5,_,(0,0),by simp,hB,heap_alloc_new w.drew _,fun j _ h=>by have:=h.2;simp only at this;omega,by simpa using hge,hle, ?_, ?_,fun _=>rfl⟩,(aj.refl _ w).drew.alloc _,.inr fun k hk=>by simp[Value.ownBlock] at hk;omega⟩
   ·simp only[Array.size_append,List.size_toArray,List.length_map,size_zeroCells,List.length_singleton]
    show l.length+1+(grownCap w (l.length+1) cap 5-(l.length+1))*1=_
    omega
   ·simp only[Array.toList_append,List.length_append,List.length_singleton,List.map_append]
    rw[List.take_left' (by simp)]
    rfl
 obtain⟨v',w',hr,h8,h9,h10⟩:=hrun
 refine wpList_plain hgd fun K hK=> ?_
 unfold Oper.wp execOp
 simp only[ho,resolve,invoke,builtin,Sem.run_bind,Sem.run_pure,Result.andThen_ok,List.map_toArray,List.map_cons,List.map_nil,hs,hx,hr]
 exact hK _ _ (h v' w' h8 h9 h10)
theorem dL.back {B:Nat} {w:World} {v:Value} {l:List UInt8} (h:dL z B w v l):(convert 67 9 v).run Tryz.prog w=.ok (.string (bs l)) w:=by
 obtain⟨g,cap,rfl,_⟩:=h.slice
 exact run_convert_bytes_back (P:=Tryz.prog) w 67 9 5 ⟨g,0,none⟩ cap l (by kernel_rfl) (by kernel_rfl) (by kernel_rfl) (by
  intro i hi
  rw[show (⟨g,0,none⟩:Addr).add i=⟨g,i,none⟩ by unfold Addr.add;split<;>simp_all]
  exact h.cell i hi)
theorem F8 (w j n:Nat) (hj:j<w):Wl.enc (j+1) (n/256^(w-(j+1)))=Wl.enc j (n/256^(w-j))++[UInt8.ofNat (n/256^(w-(j+1)))]:=by
 rw[Wl.enc,Nat.div_div_eq_div_mul,←Nat.pow_succ,show (w-(j+1)).succ=w-j by omega]
theorem vk (n k:Nat):(n:Int)/2^(8*k)%256=((UInt8.ofNat (n/256^k)).toNat:Int):=by
 have e:(n:Int)/2^(8*k)=((n/256^k:Nat):Int):=by
  rw[Int.natCast_ediv]
  congr 1
  rw[show (256:Nat)=2^8 from rfl,←Nat.pow_mul,Int.natCast_pow]
  rfl
 rw[e,UInt8.toNat_ofNat']
 omega
theorem pS (z:Bool) (B:Nat) (w:World) (v:Value) (l:List UInt8) (n width:Nat) (hown:dL z B w v l) (hB:B≤w.heap.size) (hl:l.length≤800000000) (hn:n<2^64) (hw:width≤8):
  Calls Tryz.prog 124 #[v,.int .u64 n,.int .i64 width] w fun e w'=>∃v',e=.returned v'∧dL z B w' v' (l++Wl.enc width n)∧aj (fun k=>v.ownBlock=some k) w w'∧(v'.ownBlock=v.ownBlock∨∀k,v'.ownBlock=some k→w.heap.size≤k):=by
 have ZF:(width:Int)≤8:=by omega
 have HO:=aa hown
 have HB:=aa hB
 have HN:=aa hn
 clear hown hB hn
 go_enter Tryz.func124,Tryz.ntmps124
 go_wp2
 go_loopw [0,7] (fun u i wr=>∃j:Nat,j≤width∧i=.int .i64 ((width:Int)-1-j)∧Hid (dL z B wr u (l++Wl.enc j (n/256^(width-j))))∧Hid (aj (fun k=>v.ownBlock=some k) w wr)∧Hid (u.ownBlock=v.ownBlock∨∀k,u.ownBlock=some k→w.heap.size≤k)) (fun _ i _=>((RowKit.intOf i)+1).toNat)
 case atStart=>
  refine⟨0,Nat.zero_le _,by simp,aa ?_,aa (aj.refl _ _),aa (.inl rfl)⟩
  rw[Wl.enc,List.append_nil];exact HO.out
 case round=>
  obtain⟨j,hj,rfl,ho,hb,TD⟩:=hrel
  by_cases hlt:j<width
  ·obtain⟨k,hk⟩:∃k:Nat,(width:Int)-1-j=k:=⟨width-1-j,by omega⟩
   have hk7:(k:Int)≤7:=by omega
   have mK:(0:Int)≤k:=by omega
   have HK:=aa (show k=width-(j+1) by omega)
   have HJ:=aa (And.intro hlt hj)
   rw[hk]
   have Xl:=aa hk
   clear hk hlt hj ZF
   have TE:=aa (vk n k)
   go_wp2_with (at_builtin;refine Hid.out ?_)
   refine aa ?_
   rw[TE.out]
   refine pR rfl _ _ rfl rfl (ho.out.alloc _) (by have:=HB.out;have:=hb.out.size;simp;omega) wr.heap.size (UInt8.ofNat (n/256^k)) rfl ((aG.new wr #[.int .u8 ((UInt8.ofNat (n/256^k)).toNat:Int)] 5).cell rfl) (by rw[List.length_append,Wl.jI];have:=HJ.out;omega) ?_
   intro v' w4 eW nV A1
   have HR:=aa (show dL z B w4 v' (l++Wl.enc (j+1) (n/256^(width-(j+1))))∧aj (fun k=>v.ownBlock=some k) w w4∧(v'.ownBlock=v.ownBlock∨∀k,v'.ownBlock=some k→w.heap.size≤k) by
    have hsz:=hb.out.size
    refine⟨?_, ?_, ?_⟩
    ·rw[F8 width j n HJ.out.1,←List.append_assoc,←HK.out];exact eW
    ·refine (hb.out.alloc _).trans nV fun i hi e=> ?_
     rcases TD.out with h|h
     ·rw[←h];exact e
     ·have:=h i e;omega
    ·rcases A1 with h|h
     ·rw[h];exact TD.out
     ·exact .inr fun k hk=>by have:=h k hk;simp at this;omega)
   clear eW nV A1
   go_wp2
   go_roundw
   case rel=>exact⟨j+1,HJ.out.1,congrArg (Value.int .i64) (by have:=Xl.out;omega),aa HR.out.1,aa HR.out.2.1,aa HR.out.2.2⟩
   case measure=>have:=Xl.out;simp[RowKit.intOf]<;>omega
  ·have ZG:j=width:=by omega
   subst ZG
   have hneg:(j:Int)-1-j=-1:=by omega
   rw[hneg]
   go_wp2
   go_ret
   refine⟨_,rfl, ?_,hb.out,TD.out⟩
   have:=ho.out
   rwa [Nat.sub_self,Nat.pow_zero,Nat.div_one] at this
theorem lT (s:ByteArray) (k:Nat) (h:k<s.size):s.data.toList.take (k+1)=s.data.toList.take k++[s[k]]:=by
 rw[List.take_succ_eq_append_getElem (by simpa using h)];rfl
theorem J8 (a b:Nat) (ha:a<2^56) (hb:b<256):bits .or .u64 ((a:Int)*256) (b:Int)=((a*256+b:Nat):Int):=by
 have h1:(BitVec.ofInt 64 ((a:Int)*256)).toNat=a*256:=by
  rw[BitVec.toNat_ofInt];omega
 have h2:(BitVec.ofInt 64 (b:Int)).toNat=b:=by
  rw[BitVec.toNat_ofInt];omega
 have key:(BitVec.ofInt 64 ((a:Int)*256)|||BitVec.ofInt 64 (b:Int)).toNat=a*256+b:=by
  rw[BitVec.toNat_or,h1,h2,show a*256=a<<<8 from by rw[Nat.shiftLeft_eq],←Nat.shiftLeft_add_eq_or_of_lt (by omega:b<2^8)]
 show IntKind.u64.wrap ((BitVec.ofInt 64 ((a:Int)*256)|||BitVec.ofInt 64 (b:Int)).toNat:Nat)=_
 rw[key,IntKind.wrap_u64]
 omega
def F_:Value→Nat
 |.string t=>t.size
 |_=>0
def J9 (l:List UInt8) (c:UInt8) (t:List UInt8):Prop:=∃m,m≤l.length∧t=l.take m∧(∀i,m≤i→i<l.length→l[i]?=some c)∧(0<m→l[m-1]?≠some c)
def Pv (l:List UInt8) (c:UInt8) (t:List UInt8):Prop:=∃m,m≤l.length∧t=l.drop m∧(∀i,i<m→l[i]?=some c)∧(m<l.length→l[m]?≠some c)
theorem Ga {l t u:List UInt8} (h1:J9 l 0 t) (h2:Pv t 0 u):u=[]↔Wl.blank l=true:=by
 obtain⟨m,hm,rfl,ha,hb⟩:=h1
 obtain⟨j,hj,rfl,hc,hd⟩:=h2
 rw[List.length_take,Nat.min_eq_left hm] at hj hd
 unfold Wl.blank
 rw[List.all_eq_true,List.drop_eq_nil_iff,List.length_take,Nat.min_eq_left hm]
 constructor
 ·intro hmj
  have hm0:m=0:=by
   rcases Nat.eq_zero_or_pos m with h|h
   ·exact h
   ·exfalso
    have:=hc (m-1) (by omega)
    rw[List.getElem?_take_of_lt (by omega)] at this
    exact hb h this
  intro x hx
  obtain⟨i,hi,rfl⟩:=List.mem_iff_getElem.1 hx
  have:=ha i (by omega) hi
  rw[List.getElem?_eq_getElem hi] at this
  injection this with this
  rw[this];rfl
 ·intro hall
  have hz:∀i,i<l.length→l[i]?=some 0:=fun i hi=>by
   rw[List.getElem?_eq_getElem hi]
   have:=hall _ (List.getElem_mem hi)
   rw[beq_iff_eq] at this
   rw[this]
  have hm0:m=0:=by
   rcases Nat.eq_zero_or_pos m with h|h
   ·exact h
   ·exact absurd (hz (m-1) (by omega)) (hb h)
  omega
theorem get_eq (t:ByteArray) (k:Nat) (h:k<t.size):t.data.toList[k]?=some t[k]:=by
 rw[List.getElem?_eq_getElem (by rw[Array.length_toList];exact h)];rfl
theorem byte_eq {a b:UInt8} (h:((a.toNat:Int)==(b.toNat:Int))=true):a=b:=by
 rw[beq_iff_eq] at h
 exact UInt8.toNat_inj.1 (by omega)
theorem CP {a b:UInt8} (h:((a.toNat:Int)==(b.toNat:Int))=false):a≠b:=by
 rintro rfl
 rw[beq_self_eq_true] at h
 cases h
theorem uE (s:ByteArray) (c:UInt8) (w:World) (hs:s.size≤9223372036854775807):
  Calls Tryz.prog 169 #[.string s,.int .u8 c.toNat] w fun e w'=>(∃t:ByteArray,e=.returned (.string t)∧J9 s.data.toList c t.data.toList)∧w'=w:=by
 go_enter Tryz.func169,Tryz.ntmps169
 go_wp2
 go_loop [0] (fun v=>∃t:ByteArray,v=.string t∧Hid (t.data.toList=s.data.toList.take t.size)∧t.size≤s.size∧Hid (∀i,t.size≤i→i<s.size→s.data.toList[i]?=some c)) F_
 case atStart=>exact⟨s,rfl,aa (by rw[List.take_of_length_le (by rw[Array.length_toList];exact Nat.le_refl _)]),Nat.le_refl _,aa fun i h1 h2=>by omega⟩
 case round=>
  obtain⟨t,rfl,ht,hts,hc⟩:=hrel
  by_cases h0:0<t.size
  ·have OP:(0:Int)<t.size:=by omega
   have hk:t.size-1<t.size:=by omega
   have pH:(t.size:Int)-1=((t.size-1:Nat):Int):=by omega
   have hti:(t.size:Int)≤9223372036854775807:=by omega
   have HG:=aa (get_eq t (t.size-1) hk)
   go_wp2
   ·have he:=byte_eq ‹_›
    have hsz:(t.extract 0 (t.size-1)).size=t.size-1:=by rw[rR,aB,List.length_take,Array.length_toList];show min _ t.size=_;omega
    refine⟨⟨_,rfl,aa ?_,by omega,aa fun i h1 h2=> ?_⟩,by change (t.extract 0 (t.size-1)).size<t.size;omega⟩
    ·rw[hsz,rR,cj,ht.out,List.take_take,Nat.min_eq_left (by omega)]
    ·rcases Nat.lt_or_ge i t.size with hi|hi
     ·have TG:i=t.size-1:=by omega
      have h5:=HG.out
      rw[ht.out,List.getElem?_take_of_lt hk] at h5
      rw[TG,h5,he]
     ·exact hc.out i hi h2
   ·have hne:=CP ‹_›
    go_ret
    refine⟨⟨t,rfl,t.size,by rw[Array.length_toList];exact hts,ht.out,fun i h1 h2=>hc.out i h1 (by rw[Array.length_toList] at h2;exact h2),fun _ h5=>hne ?_⟩,rfl⟩
    have h6:=HG.out
    rw[ht.out,List.getElem?_take_of_lt hk,h5] at h6
    injection h6 with h6
    exact h6.symm
  ·have OP:¬(0:Int)<t.size:=by omega
   go_wp2
   go_ret
   exact⟨⟨t,rfl,t.size,by rw[Array.length_toList];exact hts,ht.out,fun i h1 h2=>hc.out i h1 (by rw[Array.length_toList] at h2;exact h2),fun h=>absurd h h0⟩,rfl⟩
theorem wX (s:ByteArray) (c:UInt8) (w:World) (hs:s.size≤9223372036854775807):
  Calls Tryz.prog 168 #[.string s,.int .u8 c.toNat] w fun e w'=>(∃t:ByteArray,e=.returned (.string t)∧Pv s.data.toList c t.data.toList)∧w'=w:=by
 go_enter Tryz.func168,Tryz.ntmps168
 go_wp2
 go_loop [0] (fun v=>∃t:ByteArray,v=.string t∧Hid (t.data.toList=s.data.toList.drop (s.size-t.size))∧t.size≤s.size∧Hid (∀i,i<s.size-t.size→s.data.toList[i]?=some c)) F_
 case atStart=>exact⟨s,rfl,aa (by rw[Nat.sub_self,List.drop_zero]),Nat.le_refl _,aa fun i h1=>by omega⟩
 case round=>
  obtain⟨t,rfl,ht,hts,hc⟩:=hrel
  by_cases h0:0<t.size
  ·have OP:(0:Int)<t.size:=by omega
   have Pj:(1:Int)≤t.size:=by omega
   have HG:=aa (get_eq t 0 h0)
   go_wp2
   ·have he:=byte_eq ‹_›
    have hdl:(t.extract 1 t.size).data.toList=t.data.toList.drop 1:=rQ t 1
    have hsz:(t.extract 1 t.size).size=t.size-1:=by rw[ByteArray.size_extract];omega
    refine⟨⟨_,rfl,aa ?_,by omega,aa fun i h1=> ?_⟩,by change (t.extract 1 t.size).size<t.size;omega⟩
    ·rw[hdl,hsz,ht.out,List.drop_drop]
     congr 1
     omega
    ·rcases Nat.lt_or_ge i (s.size-t.size) with hi|hi
     ·exact hc.out i hi
     ·have TG:i=s.size-t.size:=by omega
      have h5:=HG.out
      rw[ht.out,List.getElem?_drop,Nat.add_zero] at h5
      rw[TG,h5,he]
   ·have hne:=CP ‹_›
    go_ret
    refine⟨⟨t,rfl,s.size-t.size,by rw[Array.length_toList];exact Nat.sub_le _ _,ht.out,fun i h1=>hc.out i h1,fun _ h5=>hne ?_⟩,rfl⟩
    have h6:=HG.out
    rw[ht.out,List.getElem?_drop,Nat.add_zero,h5] at h6
    injection h6 with h6
    exact h6.symm
  ·have OP:¬(0:Int)<t.size:=by omega
   go_wp2
   go_ret
   refine⟨⟨t,rfl,s.size-t.size,by rw[Array.length_toList];exact Nat.sub_le _ _,ht.out,fun i h1=>hc.out i h1,fun h=> ?_⟩,rfl⟩
   rw[Array.length_toList] at h
   have:s.size=s.data.size:=rfl
   omega
end Go.Proofs.YtloekpcncjocaaaGreatDoor
