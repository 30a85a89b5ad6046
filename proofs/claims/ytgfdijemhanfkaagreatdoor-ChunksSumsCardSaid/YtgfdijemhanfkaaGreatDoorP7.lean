/- Elder texts, cut down and merged (7). -/
import Derived.Test.YtgfdijemhanfkaaGreatDoorP3
import Derived.Test.YtgfdijemhanfkaaGreatDoorP4
import Derived.Maps.OwnSet
import Derived.Maps.RangeWalk
import Derived.Maps.Ext
import Derived.Lib.Hide
import Derived.Lib.SlKeysI
import Derived.Test.YtgfdijemhanfkaaGreatDoorPTk
set_option maxRecDepth 100000
set_option maxHeartbeats 8000000
namespace Go.Proofs.YtgfdijemhanfkaaGreatDoor
open Option renaming some→av,none→aK
open Value renaming agg→eU,int→bf
open IntKind renaming u8→eD,i64→ct
open UInt8 renaming ofNat->az,toNat_ofNat'->bR
open List renaming map_cons->bI,length_map->aL,filter_cons->c9,mem_cons_self->au,mem_cons_of_mem->aH,pairwise_cons->cC,mem_cons->aM
open _root_.Array renaming getElem?_eq_some_iff->fY
section
open Go.RowKit Go.Maps
open Wl (ew ins cB)
structure ME where
 enc:List UInt8->Value
 R:Value->Option (DataW Unit×List MemPlace)
 fits:List UInt8->Prop
 read:∀l,fits l->R (enc l)=av (.lit (.string l),[])
 inv:∀v y,R v=av y->∃l,v=enc l/\fits l/\y=(.lit (.string l),[])
def ctext (l:List UInt8):Value:=eU (l.map bU).toArray
def zi:Value->Option UInt8
 |bf eD n=>if 0<=n/\n<=255 then av (az n.toNat) else aK
 |_=>aK
def qZ:List Value->Option (List UInt8)
 |[]=>av []
 |v::r=>match zi v,qZ r with
  |some b,av l=>av (b::l)
  |_,_=>aK
def Fm:Value->Option (DataW Unit×List MemPlace)
 |.agg cs=>match qZ cs.toList with
  |some l=>if l.length=512 then av (.lit (.string l),[]) else aK
  |none=>aK
 |_=>aK
theorem Du (b:UInt8):zi (bU b)=av b:=by have:=b.toNat_lt;unfold zi bU;simp only;rw[if_pos κ];simp
theorem xk:∀l:List UInt8,qZ (l.map bU)=av l
 |[]=>rfl
 |b::l=>by simp only[bI,qZ,Du,xk l]
theorem I6 {v:Value} {b:UInt8} (h:zi v=av b):v=bU b:=by
 unfold zi at h
 split at h
 ·rename_i n
  split at h
  ·injection h with h;subst h;unfold bU;rw[bR];congr 1;omega
  ·cases h
 ·cases h
theorem xl:∀{cs:List Value} {l:List UInt8},qZ cs=av l->cs=l.map bU
 |[],l,h=>by injection h with h;subst h;rfl
 |v::r,l,h=>by
  unfold qZ at h
  split at h
  ·rename_i b l' H a;injection h with h;subst h;rw[bI,I6 H,xl a]
  ·cases h
theorem Fo {l:List UInt8} (h:l.length=512):Fm (ctext l)=av (.lit (.string l),[]):=by unfold Fm ctext;simp only[xk];rw[if_pos h]
theorem MP {v:Value} {y:DataW Unit×List MemPlace} (h:Fm v=av y):∃l,v=ctext l/\l.length=512/\y=(.lit (.string l),[]):=by
 unfold Fm at h
 split at h
 ·rename_i cs
  split at h
  ·rename_i l hl
   split at h
   ·rename_i H;injection h with h;refine⟨l, ?_,H,h.symm⟩;unfold ctext;rw[<-xl hl]
   ·cases h
  ·cases h
 ·cases h
def uk:ME:=⟨ctext,Fm,fun l=>l.length=512,fun _ h=>Fo h,fun _ _ h=>MP h⟩
def vG (x:Nat×List UInt8):Lit×DataW Unit:=(.int ct x.1,.lit (.string x.2))
def dat (m:ew):DataW Unit:=.map (m.map vG)
theorem nw (x:Nat×List UInt8) (k:Nat):(vG x).1.sameKey (.int ct k)=decide (x.1=k):=by simp only[vG,Lit.sameKey,true_and];exact decide_eq_decide.2 ⟨fun h=>κ,fun h=>κ⟩
theorem Fp (m:ew) (k:Nat):((m.map vG).find? (fun p=>p.1.sameKey (.int ct k))).map (·.2)=(Wl.look k m).map fun t=>.lit (.string t):=by
 induction m with
 |nil=>rfl
 |cons x m i=>
  rw[bI,List.find?_cons,nw];unfold Wl.look;by_cases h:x.1=k;·rw[if_pos h,decide_eq_true h];rfl
  ·rw[if_neg h,decide_eq_false h];exact i
theorem xm {m:ew} {k:Nat} {t:List UInt8} (h:Wl.look k m=av t) (z:DataW Unit):(dat m).atKey (.int ct k) z=.lit (.string t):=by
 have:=Fp m k;rw[h] at this;unfold dat DataW.atKey;simp only;cases e:(m.map vG).find? (fun p=>p.1.sameKey (.int ct k)) with
 |none=>rw[e] at this;cases this
 |some p=>rw[e] at this;injection this
theorem xp {m:ew} {k:Nat} (h:Wl.look k m=aK) (z:DataW Unit):(dat m).atKey (.int ct k) z=z:=by
 have:=Fp m k;rw[h] at this;unfold dat DataW.atKey;simp only;cases e:(m.map vG).find? (fun p=>p.1.sameKey (.int ct k)) with
 |none=>rfl
 |some p=>rw[e] at this;cases this
theorem K9 (m:ew) (k:Nat):Maps.has (dat m) (.int ct k)=(Wl.look k m).isSome:=by
 show (m.map vG).any (fun p=>p.1.sameKey (.int ct k))=_;induction m with
 |nil=>rfl
 |cons x m i=>
  rw[bI,List.any_cons,nw];unfold Wl.look;by_cases h:x.1=k;·rw[if_pos h,decide_eq_true h];rfl
  ·rw[if_neg h,decide_eq_false h,i];rfl
theorem zj (m:ew):Maps.size (dat m)=m.length:=by show (m.map vG).length=_;rw[aL]
theorem Ql (m:ew):intKeys (dat m)=m.map fun x=>(x.1:Int):=by show (m.map vG).map (fun p=>Go.intOf p.1)=_;rw[List.map_map];rfl
theorem oM (k:Nat):∀m:ew,(∀x∈m,k<x.1)->(m.map vG).filter (fun p=> !p.1.sameKey (.int ct k))=m.map vG
 |[],_=>rfl
 |x::m,h=>by rw[bI,c9,nw,decide_eq_false (by have:=h x au;omega),oM k m fun y hy=>h y (aH _ hy)];rfl
theorem um (k:Nat) (t:List UInt8):∀m:ew,(∀x∈m,k<x.1)->DataW.insert (vG (k,t)) (m.map vG)=vG (k,t)::m.map vG
 |[],_=>rfl
 |x::m,h=>by
  have H:(vG (k,t)).1.before (vG x).1=true:=by have:=h x au;show decide ((k:Int)<(x.1:Int))=true;exact decide_eq_true κ
  rw[bI];unfold DataW.insert;rw[if_pos H]
theorem K_ (k:Nat) (t:List UInt8):∀m:ew,cB m->DataW.insert (vG (k,t)) ((m.map vG).filter (fun p=> !p.1.sameKey (.int ct k)))=(ins k t m).map vG
 |[],_=>rfl
 |x::m,hr=>by
  obtain⟨H,b⟩:=cC.1 hr;unfold ins;by_cases h:k<x.1
  ·rw[if_pos h,oM k (x::m) (fun y hy=>by
    rcases aM.1 hy with rfl|hy;·exact h
    ·exact Nat.lt_trans h (H y hy)),um k t (x::m) (fun y hy=>by
    rcases aM.1 hy with rfl|hy;·exact h
    ·exact Nat.lt_trans h (H y hy))]
   rfl
  ·rw[if_neg h];by_cases a:k=x.1;·rw[if_pos a,bI,c9,nw,decide_eq_true a.symm];rw[if_neg ξ,oM k m (fun y hy=>by have:=H y hy;omega),um k t m (fun y hy=>by have:=H y hy;omega)];rfl
   ·rw[if_neg a,bI,c9,nw,decide_eq_false κ,if_pos ξ];have c:¬(vG (k,t)).1.before (vG x).1=true:=(by show ¬decide ((k:Int)<(x.1:Int))=true;rw[decide_eq_true_eq];omega);unfold DataW.insert;rw[if_neg c,K_ k t m b];rfl
theorem La (k:Nat) (t:List UInt8) (m:ew) (hr:cB m):(dat m).put (.int ct k) (.lit (.string t))=dat (ins k t m):=by show DataW.map _=DataW.map _;rw[<-K_ k t m hr];rfl
section
variable {P:Program} {T E:TypeId} (M:ME) {w w':World} {b:Nat} {m:ew}
def eW (P:Program) (K:TypeId) (M:ME) (w:World) (b:Nat) (m:ew):Prop:=
 w.ownsMap P K M.R b m.length (dat m)/\cB m/\∀x∈m,x.1<=1000000
variable {K:TypeId}
theorem sO {k:Nat} (h:k<=1000000):(Lit.int ct (k:Int)).wf=true:=by simp[Lit.wf,IntKind.min,IntKind.max,IntKind.signed,IntKind.bits];omega
theorem p6 {n:Nat} (h:w.ownsMap P K M.R b n (dat m)):w.ownsMap P K M.R b m.length (dat m):=by
 obtain⟨es,clock,a,F,_,H⟩:=h;refine⟨es,clock,a,F, ?_,H⟩;have:Maps.size (dat m)=es.size:=by rw[H];simp[Maps.size,length_sorted]
 rw[zj] at this;omega
theorem eW.kept {M:ME} {row:Option Nat} (h:eW P K M w b m) (hg:w.grownBy w' row) (H:av b≠row):eW P K M w' b m:=⟨h.1.kept hg H,h.2⟩
theorem eW.lt {M:ME} (h:eW P K M w b m):b<w.heap.size:=h.1.lt
theorem eW.but {M:ME} {S:Φ} (h:eW P K M w b m) (a:aE S w w') (hn:¬S b):eW P K M w' b m:=by obtain⟨⟨es,clock,H,r⟩,c⟩:=h;exact⟨⟨es,clock,(a.block b (fY.1 H).1 hn).trans H,r⟩,c⟩
theorem eW.isMap {M:ME} (h:eW P K M w b m):∃es clock,w.heap[b]?=av (.map es clock):=by obtain⟨⟨es,clock,H,_⟩,_⟩:=h;exact⟨es,clock,H⟩
theorem eW.dh {M:ME} {g:Nat} {t:TypeId} {cs:List Value} (h:eW P K M w b m) (hg:aW w g t cs):b≠g:=by intro e;obtain⟨es,clock,H⟩:=h.isMap;unfold aW at hg;rw[e,hg] at H;cases H
theorem eW.made (P:Program) (K:TypeId) (M:ME) (w:World):eW P K M (w.alloc (.map #[] 0)) w.heap.size []:=
 ⟨World.ownsMap_made w P K M.R,List.Pairwise.nil,fun x h=>χ⟩
theorem eW.jI {M:ME} (h:eW P K M w b m) (a:P.underlying K=av (.int ct)) (d:P.underlying T=av (.map K E)) {z:List UInt8} (e:(zeroValue E).run P w=.ok (M.enc z) w) (U:M.fits z)
  {k:Nat} (F:k<=1000000) {t:List UInt8} (hl:Wl.look k m=av t):(Instr.lookup T (.map (av b)) (.int ct k) true).run P w=.ok (.tuple #[M.enc t,.bool true]) w/\M.fits t:=by
 obtain⟨v,ps,hr,c⟩:=h.1.look_ok (int_keyed a) d e (M.read z U) (keyOf_int_mk a (sO F));rw[xm hl] at c;rw[K9,hl] at hr;obtain⟨l,rfl,hf,H⟩:=M.inv _ _ c;injection H with H _;injection H with H;injection H with H;subst H;exact⟨hr,hf⟩
theorem zar {G:Prop} (h:G:=by obtain⟨l,rfl,hf,H⟩:=M.inv _ _ c;injection H with H _;injection H with H;injection H with H;subst H;exact hr):G:=h
theorem eW.eH {M:ME} (h:eW P K M w b m) (a:P.underlying K=av (.int ct)) (d:P.underlying T=av (.map K E)) {z:List UInt8} (e:(zeroValue E).run P w=.ok (M.enc z) w) (U:M.fits z)
  {k:Nat} (F:k<=1000000) (hl:Wl.look k m=aK):(Instr.lookup T (.map (av b)) (.int ct k) true).run P w=.ok (.tuple #[M.enc z,.bool false]) w:=by
 obtain⟨v,ps,hr,c⟩:=h.1.look_ok (int_keyed a) d e (M.read z U) (keyOf_int_mk a (sO F));rw[xp hl] at c;rw[K9,hl] at hr;exact zar
theorem eW.at {M:ME} (h:eW P K M w b m) (a:P.underlying K=av (.int ct)) (d:P.underlying T=av (.map K E)) {z:List UInt8} (e:(zeroValue E).run P w=.ok (M.enc z) w) (U:M.fits z)
  {k:Nat} (F:k<=1000000) {t:List UInt8} (hl:Wl.look k m=av t):(Instr.lookup T (.map (av b)) (.int ct k) false).run P w=.ok (M.enc t) w/\M.fits t:=by
 obtain⟨v,ps,hr,c⟩:=h.1.lookup (int_keyed a) d e (M.read z U) (keyOf_int_mk a (sO F));rw[xm hl] at c;obtain⟨l,rfl,hf,H⟩:=M.inv _ _ c;injection H with H _;injection H with H;injection H with H;subst H;exact⟨hr,hf⟩
theorem zap {G:Prop} (h:G:=by
 obtain⟨w',e,c,h3⟩:=h.1.update (int_keyed a) d zat (keyOf_int_mk a (sO F)) (M.read t hf);rw[La k t m h.2.1] at c
 exact⟨w',e,⟨p6 M c,Wl.fZ k t h.2.1,fun x H=>by
  rcases Wl.tM H with rfl|H;·exact F
  ·exact h.2.2 x H⟩,h3⟩):G:=h
theorem eW.store {M:ME} (h:eW P K M w b m) (a:P.underlying K=av (.int ct)) (d:P.underlying T=av (.map K E)) (hn:m.length<=1000000) {k:Nat} (F:k<=1000000) {t:List UInt8} (hf:M.fits t):
  ∃w',(Instr.mapUpdate T (.map (av b)) (.int ct k) (M.enc t)).run P w=.ok () w'/\eW P K M w' b (ins k t m)/\w.grownBy w' (av b):=by
 exact zap
theorem Dv {M:ME} {ops:Array Oper} {rest:List Oper} {o:Oper} {a:Act} {Q:Exit->Act->Ψ} (hg:o.guard=aK) (c x v:Operand) (H:o.op=Op.mapUpdate T c x v)
  (h:eW P K M w b m) (d:P.underlying K=av (.int ct)) (e:P.underlying T=av (.map K E)) (hn:m.length<=1000000) (k:Nat) (F:k<=1000000) (t:List UInt8) (hf:M.fits t)
  (f:a.eval c=.map (av b)) (g:a.eval x=.int ct k) (i:a.eval v=M.enc t)
  (j:∀w',eW P K M w' b (ins k t m)->w.grownBy w' (av b)->wpList P ops Q rest (a.put o.dst undef) w'):wpList P ops Q (o::rest) a w:=by
 refine wpList_plain hg fun K' hK'=> ?_;obtain⟨w',hr,l,n⟩:=h.store d e hn F hf;unfold Oper.wp;simp[execOp,H,f,g,i,hr,Result.andThen];exact hK' _ _ (j w' l n)
end
end
section
open Go.RowKit Lib Go.Maps Go.ChangeMaps
open Wl (ew ins cB)
section
variable {P:Program} {T E K:TypeId} {w:World} {b:Nat} {m:ew}
theorem eW.Qm {M:ME} (h:eW P K M w b m) (a:P.underlying K=av (.int ct)) (d:P.underlying T=av (.map K E)) (hn:m.length<=200000000) {k:Nat} (F:k<=1000000) {t:List UInt8} (hf:M.fits t):
  ∃w',(Instr.mapUpdate T (.map (av b)) (.int ct k) (M.enc t)).run P w=.ok () w'/\eW P K M w' b (ins k t m)/\w.grownBy w' (av b):=by
 exact zap
end
end
end Go.Proofs.YtgfdijemhanfkaaGreatDoor
