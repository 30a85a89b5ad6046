/- Elder texts, cut down and merged (2). -/
import Derived.Test.YtlpfhjbpknbndaaGreatDoorP1
import Derived.Maps.OwnSet
import Derived.Maps.RangeWalk
import Derived.Maps.Ext
import Derived.Lib.Hide
import Derived.Lib.SlKeysI
import Derived.Laws.Tables
import Derived.Laws.Rows
import Derived.ChangeSlices
import Derived.Deep.Grids
import Derived.WalkKit
import Derived.ProofKit
import Derived.OpenShut
import Derived.ShutString
import Derived.Deep.DeepHandedRow
import Derived.Test.YtlpfhjbpknbndaaGreatDoorCards
import Derived.Test.YtlpfhjbpknbndaaGreatDoorTie
import Derived.Lib.SlBytesConst
import Derived.Laws.Bits128
import Derived.BigQuiet
import Derived.Deep.RegionLaw
import Derived.BigRegion
import Derived.Deep.DeepFit
import Derived.Outline
import Derived.Test.YtlpfhjbpknbndaaGreatDoorPTk
set_option maxRecDepth 100000
set_option maxHeartbeats 8000000
namespace Go.Proofs.YtlpfhjbpknbndaaGreatDoor
open Option renaming none→av,some→aD
open Or renaming inl→dc,inr→dn
open Value renaming agg→iK,int→bf,bool→eX,pointer→e7,slice→cx,string→bR,tuple→gu
open IntKind renaming u8→gx,i64→cu,u64→dg
open Obj renaming cells→ey
open Ending renaming returned→eb
open UInt8 renaming ofNat->bz,toNat_ofNat'->eF
open List renaming length_append->au,length_eq_zero_iff->eG,replicate->bB,mem_singleton->cQ,mem_cons->aX,pairwise_cons->cF,length_set->bP,mem_cons_self->aE,mem_cons_of_mem->aI,map_cons->bM,length_map->aT,filter_cons->cW,length_cons->a_,length_drop->aZ,nil_append->dI,length_replicate->dZ,getElem?_set_ne->sy,getElem?_replicate->nT,getElem?_map->cD,getElem?_eq_getElem->aK,getD_eq_getElem?_getD->bZ,getElem_mem->bI,take_of_length_le->cg,length_singleton->ew,take_succ_eq_append_getElem->cC,map_append->bQ,length_take->aO,append_nil->bA,append_assoc->aF
open _root_.Array renaming getElem?_eq_some_iff->iY,length_toList->bk
open Nat renaming zero_le->aB,le_refl->ah,lt_of_lt_of_le->dD,add_assoc->gH,mod_eq_of_lt->lH,min_eq_left->ct,add_zero->d_
open World renaming block_lt_of_cell?->bD
open Bool renaming and_eq_true->eH
open Int renaming toNat_natCast->dF
namespace Wl
abbrev Text:=List UInt8
def enc:Nat->Nat->Text
 |0,_=>[]
 |w+1,n=>enc w (n/256)++[bz n]
def dec (l:Text):Nat:=l.foldl (fun a b=>a*256+b.toNat) 0
theorem cE:∀w n,(enc w n).length=w
 |0,_=>rfl
 |w+1,n=>by rw[enc,au,cE w];rfl
theorem mU (l:Text) (b:UInt8):dec (l++[b])=dec l*256+b.toNat:=by unfold dec;rw[List.foldl_append];rfl
theorem qM:∀w n,n<256^w->dec (enc w n)=n
 |0,n,h=>by simp at h;subst h;rfl
 |w+1,n,h=>by rw[enc,mU,qM w (n/256) (Nat.div_lt_of_lt_mul (by rw[Nat.mul_comm,<-Nat.pow_succ];exact h)),eF];omega
theorem nU (l:Text):dec l<256^l.length:=by
 induction h:l.length generalizing l with
 |zero=>rw[eG.1 h];decide
 |succ n i=>
  rcases List.eq_nil_or_concat l with rfl|⟨m,b,rfl⟩;·cases h
  ·rw[List.concat_eq_append,au] at h;have:=i m (by simpa using h);have H:=b.toNat_lt;rw[List.concat_eq_append,mU,Nat.pow_succ];have:dec m*256+256<=256^n*256:=(by omega);omega
def title:Text:=[99,111,111,112,101,114,97,103,101,32,108,111,103,10]
def first (size ring at_ num:Nat):Text:=title++(enc 8 size++(enc 8 ring++(enc 8 at_++enc 8 num)))
def head (num n:Nat):Text:=104::(enc 8 num++enc 4 n)
def sizeOf (n:Nat):Nat:=1+(516*n+510)/511
theorem qN (size ring at_ num:Nat):(first size ring at_ num).length=46:=by simp[first,cE,title]
def blank (s:Text):Bool:=s.all (· ==0)
def holds (s t:Text):Bool:=t.isPrefixOf s&&blank (s.drop t.length)
def Kz (s:Text) (ring:Nat):Nat×Nat×Bool:=
 if dec ((s.drop 1).take 8)=0\/dec ((s.drop 9).take 4)=0\/ring<dec ((s.drop 9).take 4)\/ring<sizeOf (dec ((s.drop 9).take 4)) then (0,0,false)
 else (dec ((s.drop 1).take 8),dec ((s.drop 9).take 4),holds s (head (dec ((s.drop 1).take 8)) (dec ((s.drop 9).take 4))))
def RB (s:Text):Bool:=([112]:Text).isPrefixOf s
theorem nF (n:Nat):blank (bB n 0)=true:=by simp[blank]
abbrev eV:=List (Nat×Text)
def ins (k:Nat) (t:Text):eV->eV
 |[]=>[(k,t)]
 |x::m=>if k<x.1 then (k,t)::x::m else if k=x.1 then (k,t)::m else x::ins k t m
def look (k:Nat):eV->Option Text
 |[]=>av
 |x::m=>if x.1=k then aD x.2 else look k m
def cA (m:eV):Prop:=m.Pairwise fun x y=>x.1<y.1
theorem eo {k:Nat}:∀{m:eV},look k m=av↔∀x∈m,x.1≠k
 |[]=>by simp[look]
 |x::m=>by
  unfold look
  split
  ·rename_i e;simp[e]
  ·simp_all[eo]
theorem fY (k:Nat) (t:Text) (j:Nat):∀m:eV,look j (ins k t m)=if j=k then aD t else look j m
 |[]=>by simp only[ins,look];split<;>split<;>simp_all
 |x::m=>by
  unfold ins
  split
  ·grind [look]
  ·split
   ·grind [look]
   ·rename_i H a;simp only[look,fY k t j m];by_cases h:j=k;·grind
    ·simp[h]
theorem mX {k:Nat} {t:Text} {x:Nat×Text}:∀{m:eV},x∈ins k t m->x=(k,t)\/x∈m
 |[],h=>by simp only[ins,cQ] at h;exact dc h
 |y::m,h=>by
  unfold ins at h
  split at h
  ·grind
  ·split at h
   ·grind
   ·rcases aX.1 h with h|h;·grind
    ·rcases mX h with h|h;·exact dc h
     ·grind
theorem fZ (k:Nat) (t:Text):∀{m:eV},cA m->cA (ins k t m)
 |[],_=>by simp[ins,cA]
 |y::m,h=>by
  obtain⟨a,b⟩:=cF.1 h;unfold ins
  split
  ·rename_i c;refine cF.2 ⟨fun z H=> ?_,h⟩;rcases aX.1 H with rfl|H;·exact c
   ·grind
  ·split
   ·rename_i _ c;exact cF.2 ⟨fun z H=>by have:=a z H;simp only;omega,b⟩
   ·refine cF.2 ⟨fun z H=> ?_,fZ k t b⟩;rcases mX H with rfl|H;·simp only;omega
    ·exact a z H
theorem ext:∀{m n:eV},cA m->cA n->(∀k,look k m=look k n)->m=n
 |[],[],_,_,_=>rfl
 |[],y::n,_,_,h=>by have:=h y.1;simp[look] at this
 |x::m,[],_,_,h=>by have:=h x.1;simp[look] at this
 |x::m,y::n,hm,hn,h=>by
  obtain⟨M,d⟩:=cF.1 hm;obtain⟨n1,N⟩:=cF.1 hn;have low:∀(z:Nat×Text) (l:eV),(∀a∈l,z.1<a.1)->∀j,j<=z.1->look j l=none:=fun z l hl j f=>eo.2 fun a ha e=>by have:=hl a ha;omega
  have H:x.1=y.1:=by
   rcases Nat.lt_trichotomy x.1 y.1 with b|c|b;·have:=h x.1;simp only[look] at this;rw[if_true,if_neg (by omega),low y n n1 _ (by omega)] at this;cases this
   ·exact c
   ·have:=h y.1;simp only[look] at this;rw[if_true,if_neg (by omega),low x m M _ (by omega)] at this;cases this
  have hx2:x.2=y.2:=by have:=h x.1;simp only[look] at this;rw[if_true,if_pos H.symm] at this;injection this
  have c:x=y:=Prod.ext H hx2;subst c;refine congrArg _ (ext d N fun k=> ?_);by_cases g:k<=x.1;·grind
  ·have:=h k;simp only[look] at this
   rwa [if_neg (by omega),if_neg (by omega)] at this
def merge (m g:eV):eV:=g.foldl (fun m x=>ins x.1 x.2 m) m
theorem oX {L:List Text}:∀{g:eV} (_:cA g) (j:Nat),(Dk.fO L g)[j]?=if j<L.length then (look j g).or L[j]? else none:=by
 intro g hr;induction g generalizing L with
 |nil=>
  intro j;rw[Dk.nR]
  split
  ·rfl
  ·grind
 |cons x g i=>
  intro j;obtain⟨H,b⟩:=cF.1 hr;rw[Dk.oV,i b,bP];by_cases h:j<L.length
  ·rw[if_pos h,if_pos h];simp only[look];by_cases c:x.1=j
   ·subst c;have:look x.1 g=none:=eo.2 fun a ha e=>by have:=H a ha;omega
    simp[this,h]
   ·grind
  ·grind
def pack (g:eV):Text:=g.flatMap fun x=>enc 4 x.1++x.2
def pieces (l:Text):List Text:=(List.range ((l.length+510)/511)).map fun k=>(l.drop (511*k)).take 511
def Hy (g:eV):List Text:=(pieces (pack g)).map fun p=>112::p
def Fits (homes:Nat) (g:eV):Prop:=cA g/\∀x∈g,x.1<homes/\x.2.length=512
theorem KA {homes k:Nat} {t:Text} {g:eV} (h:Fits homes g) (a:k<homes) (b:t.length=512):Fits homes (ins k t g):=
 ⟨fZ k t h.1,fun x H=>by
  rcases mX H with rfl|H;·exact⟨a,b⟩
  ·exact h.2 x H⟩
theorem KB (homes:Nat):Fits homes []:=⟨List.Pairwise.nil,fun x h=>by cases h⟩
theorem vg {homes:Nat}:∀{g a:eV},Fits homes a->(∀x∈g,x.1<homes/\x.2.length=512)->Fits homes (merge a g)
 |[],_,h,_=>h
 |x::g,_,h,hg=>vg (g:=g) (KA h (hg x aE).1 (hg x aE).2) fun y hy=>hg y (aI _ hy)
end Wl
section
open Go.RowKit Go.Maps
open Wl (eV ins cA)
structure ME where
 enc:List UInt8->Value
 R:Value->Option (DataW Unit×List MemPlace)
 fits:List UInt8->Prop
 read:∀l,fits l->R (enc l)=aD (.lit (.string l),[])
 inv:∀v y,R v=aD y->∃l,v=enc l/\fits l/\y=(.lit (.string l),[])
def ctext (l:List UInt8):Value:=iK (l.map bV).toArray
def vh:Value->Option UInt8
 |bf gx n=>if 0<=n/\n<=255 then aD (bz n.toNat) else av
 |_=>av
def oY:List Value->Option (List UInt8)
 |[]=>aD []
 |v::r=>match vh v,oY r with
  |some b,aD l=>aD (b::l)
  |_,_=>av
def BB:Value->Option (DataW Unit×List MemPlace)
 |.agg cs=>match oY cs.toList with
  |some l=>if l.length=512 then aD (.lit (.string l),[]) else av
  |none=>av
 |_=>av
theorem zX (b:UInt8):vh (bV b)=aD b:=by have:=b.toNat_lt;unfold vh bV;simp only;rw[if_pos (by omega)];simp
theorem tL:∀l:List UInt8,oY (l.map bV)=aD l
 |[]=>rfl
 |b::l=>by simp only[bM,oY,zX,tL l]
theorem D4 {v:Value} {b:UInt8} (h:vh v=aD b):v=bV b:=by
 unfold vh at h
 split at h
 ·rename_i n
  split at h
  ·injection h with h;subst h;unfold bV;rw[eF];congr 1;omega
  ·cases h
 ·cases h
theorem tM:∀{cs:List Value} {l:List UInt8},oY cs=aD l->cs=l.map bV
 |[],l,h=>by injection h with h;subst h;rfl
 |v::r,l,h=>by
  unfold oY at h
  split at h
  ·rename_i b l' H a;injection h with h;subst h;rw[bM,D4 H,tM a]
  ·cases h
theorem BC {l:List UInt8} (h:l.length=512):BB (ctext l)=aD (.lit (.string l),[]):=by unfold BB ctext;simp only[tL];rw[if_pos h]
theorem Hz {v:Value} {y:DataW Unit×List MemPlace} (h:BB v=aD y):∃l,v=ctext l/\l.length=512/\y=(.lit (.string l),[]):=by
 unfold BB at h
 split at h
 ·rename_i cs
  split at h
  ·rename_i l hl
   split at h
   ·rename_i H;injection h with h;refine⟨l, ?_,H,h.symm⟩;unfold ctext;rw[<-tM hl]
   ·cases h
  ·cases h
 ·cases h
def qO:ME:=⟨ctext,BB,fun l=>l.length=512,fun _ h=>BC h,fun _ _ h=>Hz h⟩
def sx (x:Nat×List UInt8):Lit×DataW Unit:=(.int cu x.1,.lit (.string x.2))
def dat (m:eV):DataW Unit:=.map (m.map sx)
theorem me (x:Nat×List UInt8) (k:Nat):(sx x).1.sameKey (.int cu k)=decide (x.1=k):=by simp only[sx,Lit.sameKey,true_and];exact decide_eq_decide.2 ⟨fun h=>by omega,fun h=>by omega⟩
theorem BD (m:eV) (k:Nat):((m.map sx).find? (fun p=>p.1.sameKey (.int cu k))).map (·.2)=(Wl.look k m).map fun t=>.lit (.string t):=by
 induction m with
 |nil=>rfl
 |cons x m i=>
  rw[bM,List.find?_cons,me];unfold Wl.look;by_cases h:x.1=k;·rw[if_pos h,decide_eq_true h];rfl
  ·rw[if_neg h,decide_eq_false h];exact i
theorem tN {m:eV} {k:Nat} {t:List UInt8} (h:Wl.look k m=aD t) (z:DataW Unit):(dat m).atKey (.int cu k) z=.lit (.string t):=by
 have:=BD m k;rw[h] at this;unfold dat DataW.atKey;simp only;cases e:(m.map sx).find? (fun p=>p.1.sameKey (.int cu k)) with
 |none=>rw[e] at this;cases this
 |some p=>rw[e] at this;injection this
theorem BF {m:eV} {k:Nat} (h:Wl.look k m=av) (z:DataW Unit):(dat m).atKey (.int cu k) z=z:=by
 have:=BD m k;rw[h] at this;unfold dat DataW.atKey;simp only;cases e:(m.map sx).find? (fun p=>p.1.sameKey (.int cu k)) with
 |none=>rfl
 |some p=>rw[e] at this;cases this
theorem Gi (m:eV) (k:Nat):Maps.has (dat m) (.int cu k)=(Wl.look k m).isSome:=by
 show (m.map sx).any (fun p=>p.1.sameKey (.int cu k))=_;induction m with
 |nil=>rfl
 |cons x m i=>
  rw[bM,List.any_cons,me];unfold Wl.look;by_cases h:x.1=k;·rw[if_pos h,decide_eq_true h];rfl
  ·rw[if_neg h,decide_eq_false h,i];rfl
theorem KC (m:eV):Maps.size (dat m)=m.length:=by show (m.map sx).length=_;rw[aT]
theorem mY (k:Nat):∀m:eV,(∀x∈m,k<x.1)->(m.map sx).filter (fun p=> !p.1.sameKey (.int cu k))=m.map sx
 |[],_=>rfl
 |x::m,h=>by rw[bM,cW,me,decide_eq_false (by have:=h x aE;omega),mY k m fun y hy=>h y (aI _ hy)];rfl
theorem qP (k:Nat) (t:List UInt8):∀m:eV,(∀x∈m,k<x.1)->DataW.insert (sx (k,t)) (m.map sx)=sx (k,t)::m.map sx
 |[],_=>rfl
 |x::m,h=>by
  have H:(sx (k,t)).1.before (sx x).1=true:=by have:=h x aE;show decide ((k:Int)<(x.1:Int))=true;exact decide_eq_true (by omega)
  rw[bM];unfold DataW.insert;rw[if_pos H]
theorem Gj (k:Nat) (t:List UInt8):∀m:eV,cA m->DataW.insert (sx (k,t)) ((m.map sx).filter (fun p=> !p.1.sameKey (.int cu k)))=(ins k t m).map sx
 |[],_=>rfl
 |x::m,hr=>by
  obtain⟨H,b⟩:=cF.1 hr;unfold ins;by_cases h:k<x.1
  ·rw[if_pos h,mY k (x::m) (fun y hy=>by
    rcases aX.1 hy with rfl|hy;·exact h
    ·exact Nat.lt_trans h (H y hy)),qP k t (x::m) (fun y hy=>by
    rcases aX.1 hy with rfl|hy;·exact h
    ·exact Nat.lt_trans h (H y hy))]
   rfl
  ·rw[if_neg h];by_cases a:k=x.1;·rw[if_pos a,bM,cW,me,decide_eq_true a.symm];rw[if_neg (by decide),mY k m (fun y hy=>by have:=H y hy;omega),qP k t m (fun y hy=>by have:=H y hy;omega)];rfl
   ·rw[if_neg a,bM,cW,me,decide_eq_false (by omega),if_pos (by decide)];have c:¬(sx (k,t)).1.before (sx x).1=true:=(by show ¬decide ((k:Int)<(x.1:Int))=true;rw[decide_eq_true_eq];omega);unfold DataW.insert;rw[if_neg c,Gj k t m b];rfl
theorem Ol (k:Nat) (t:List UInt8) (m:eV) (hr:cA m):(dat m).put (.int cu k) (.lit (.string t))=dat (ins k t m):=by show DataW.map _=DataW.map _;rw[<-Gj k t m hr];rfl
section
variable {P:Program} {T E:TypeId} (M:ME) {w w':World} {b:Nat} {m:eV}
def gy (P:Program) (K:TypeId) (M:ME) (w:World) (b:Nat) (m:eV):Prop:=
 w.ownsMap P K M.R b m.length (dat m)/\cA m/\∀x∈m,x.1<=1000000
variable {K:TypeId}
theorem vi {k:Nat} (h:k<=1000000):(Lit.int cu (k:Int)).wf=true:=by simp[Lit.wf,IntKind.min,IntKind.max,IntKind.signed,IntKind.bits];omega
theorem tO {n:Nat} (h:w.ownsMap P K M.R b n (dat m)):w.ownsMap P K M.R b m.length (dat m):=by
 obtain⟨es,clock,a,F,_,H⟩:=h;refine⟨es,clock,a,F, ?_,H⟩;have:Maps.size (dat m)=es.size:=by rw[H];simp[Maps.size,length_sorted]
 rw[KC] at this;omega
theorem gy.kept {M:ME} {row:Option Nat} (h:gy P K M w b m) (hg:w.grownBy w' row) (H:aD b≠row):gy P K M w' b m:=⟨h.1.kept hg H,h.2⟩
theorem gy.but {M:ME} {S:Nat->Prop} (h:gy P K M w b m) (a:aG S w w') (hn:¬S b):gy P K M w' b m:=by obtain⟨⟨es,clock,H,r⟩,c⟩:=h;exact⟨⟨es,clock,(a.block b (iY.1 H).1 hn).trans H,r⟩,c⟩
theorem gy.isMap {M:ME} (h:gy P K M w b m):∃es clock,w.heap[b]?=aD (.map es clock):=by obtain⟨⟨es,clock,H,_⟩,_⟩:=h;exact⟨es,clock,H⟩
theorem gy.dG {M:ME} {g:Nat} {t:TypeId} {cs:List Value} (h:gy P K M w b m) (hg:aU w g t cs):b≠g:=by intro e;obtain⟨es,clock,H⟩:=h.isMap;unfold aU at hg;rw[e,hg] at H;cases H
theorem gy.made (P:Program) (K:TypeId) (M:ME) (w:World):gy P K M (w.alloc (.map #[] 0)) w.heap.size []:=
 ⟨World.ownsMap_made w P K M.R,List.Pairwise.nil,fun x h=>by cases h⟩
theorem gy.i_ {M:ME} (h:gy P K M w b m) (a:P.underlying K=aD (.int cu)) (d:P.underlying T=aD (.map K E)) {z:List UInt8} (e:(zeroValue E).run P w=.ok (M.enc z) w) (R:M.fits z)
  {k:Nat} (N:k<=1000000) {t:List UInt8} (hl:Wl.look k m=aD t):(Instr.lookup T (.map (aD b)) (.int cu k) true).run P w=.ok (.tuple #[M.enc t,.bool true]) w/\M.fits t:=by
 obtain⟨v,ps,hr,c⟩:=h.1.look_ok (int_keyed a) d e (M.read z R) (keyOf_int_mk a (vi N));rw[tN hl] at c;rw[Gi,hl] at hr;obtain⟨l,rfl,hf,H⟩:=M.inv _ _ c;injection H with H _;injection H with H;injection H with H;subst H;exact⟨hr,hf⟩
theorem gy.eo {M:ME} (h:gy P K M w b m) (a:P.underlying K=aD (.int cu)) (d:P.underlying T=aD (.map K E)) {z:List UInt8} (e:(zeroValue E).run P w=.ok (M.enc z) w) (R:M.fits z)
  {k:Nat} (N:k<=1000000) (hl:Wl.look k m=av):(Instr.lookup T (.map (aD b)) (.int cu k) true).run P w=.ok (.tuple #[M.enc z,.bool false]) w:=by
 obtain⟨v,ps,hr,c⟩:=h.1.look_ok (int_keyed a) d e (M.read z R) (keyOf_int_mk a (vi N));rw[BF hl] at c;rw[Gi,hl] at hr;obtain⟨l,rfl,hf,H⟩:=M.inv _ _ c;injection H with H _;injection H with H;injection H with H;subst H;exact hr
theorem gy.at {M:ME} (h:gy P K M w b m) (a:P.underlying K=aD (.int cu)) (d:P.underlying T=aD (.map K E)) {z:List UInt8} (e:(zeroValue E).run P w=.ok (M.enc z) w) (R:M.fits z)
  {k:Nat} (N:k<=1000000) {t:List UInt8} (hl:Wl.look k m=aD t):(Instr.lookup T (.map (aD b)) (.int cu k) false).run P w=.ok (M.enc t) w/\M.fits t:=by
 obtain⟨v,ps,hr,c⟩:=h.1.lookup (int_keyed a) d e (M.read z R) (keyOf_int_mk a (vi N));rw[tN hl] at c;obtain⟨l,rfl,hf,H⟩:=M.inv _ _ c;injection H with H _;injection H with H;injection H with H;subst H;exact⟨hr,hf⟩
end
end
namespace Wl
open Dk (fO kept full cm)
def pos (ring i:Nat):Nat:=1+i%ring
def Laid (ring:Nat) (F:List Text):Nat->Nat->List eV->Prop
 |_,_,[]=>True
 |a,n,g::gs=>F[pos ring a]?=aD (full (head n g.length))/\(∀k t,(Hy g)[k]?=aD t->F[pos ring (a+1+k)]?=aD (full t))/\Laid ring F (a+sizeOf g.length) (n+1) gs
def total (gs:List eV):Nat:=(gs.map fun g=>sizeOf g.length).sum
def Old (ring:Nat) (F:List Text) (i N:Nat):Prop:=∃s,F[1+i]?=aD s/\(blank s=true\/RB s=true\/∃m n,Kz s ring=(m,n,true)/\m<N)
def vk (gs:List eV):eV:=gs.foldl merge []
theorem mg {homes:Nat}:∀(gs:List eV) (m:eV),Fits homes m->(∀g∈gs,Fits homes g)->Fits homes (gs.foldl merge m)
 |[],_,h,_=>h
 |g::gs,_,h,hg=>mg gs _ (vg h (hg g aE).2) fun x H=>hg x (aI _ H)
theorem BG {homes:Nat} {gs:List eV} (h:∀g∈gs,Fits homes g):Fits homes (vk gs):=mg gs [] (KB homes) h
structure Good (ring:Nat) (F:List Text) (a n:Nat) (gs:List eV) (H:List Text):Prop where
 r1:4<=ring
 r2:ring<=4096
 len:F.length=1+ring+H.length
 hpos:1<=H.length
 YA:F.length<=65536
 all:∀s∈F,s.length=512
 first:F[0]?=aD (full (first F.length ring a n))
 aaQ:a<ring
 n_pos:1<=n
 Uj:n+gs.length<1000000
 laid:Laid ring F a n gs
 tot:total gs<=ring
 fits:∀g∈gs,g≠[]/\Fits H.length g
 old:∀i,i<ring->Old ring F i (n+gs.length)
 homes:H=fO (F.drop (1+ring)) (vk gs)
def wr (s:Bool×cm) (x:Nat×Text):Bool×cm:=if s.1 then s else (decide ((s.2.write x.1 x.2).1≠0),(s.2.write x.1 x.2).2)
def fl (s:Bool×cm):Bool×cm:=if s.1 then s else (decide (s.2.flush.1≠0),s.2.flush.2)
def fw (x:Nat×Text):Nat×Text:=(x.1,full x.2)
theorem Om (d:cm) (x:Nat×Text):wr (true,d) x=(true,d):=rfl
theorem On (d:cm):fl (true,d)=(true,d):=rfl
theorem Uk (d:cm) (x:Nat×Text) (a:d.off=false) (h:x.1<d.fU.length) (b:x.2.length<=512):
  (wr (false,d) x=(false,{d.iz with loose:=d.loose++[fw x]})/\d.fuel≠0)\/(wr (false,d) x=(true,d.dead)/\d.fuel=0):=by
 have hh:d.has x.1=true:=by simp[cm.has,h]
 have H:d.write x.1 x.2=if d.fuel=0 then (3,d.dead) else (0,{d.iz with loose:=d.loose++[((x.1:Int).toNat,full x.2)]}):=by grind [cm.write]
 unfold wr;rw[H];by_cases hf:d.fuel=0;·exact dn ⟨by rw[if_pos hf];rfl,hf⟩
 ·exact dc ⟨by rw[if_neg hf];rfl,hf⟩
theorem Ul (d:cm) (H:d.off=false):(fl (false,d)=(false,{d.iz with fU:=d.now,loose:=[]})/\d.fuel≠0)\/(fl (false,d)=(true,d.dead)/\d.fuel=0):=by
 have h:d.flush=if d.fuel=0 then (3,d.dead) else (0,{d.iz with fU:=d.now,loose:=[]}):=by simp_all[cm.flush]
 unfold fl;rw[h];by_cases hf:d.fuel=0;·exact dn ⟨by rw[if_pos hf];rfl,hf⟩
 ·exact dc ⟨by rw[if_neg hf];rfl,hf⟩
theorem mZ {t:Text} (h:t.length=512):full t=t:=by simp[full,h]
theorem Good.D5 {ring:Nat} {F:List Text} {a n:Nat} {gs:List eV} {H:List Text} (h:Good ring F a n gs H):Fits H.length (vk gs):=BG fun g hg=>(h.fits g hg).2
end Wl
namespace Wl
open Dk (fO kept full cm)
structure Lg where
 ring:Nat
 homes:Nat
 place:Nat
 num:Nat
 filled:Nat
 wait:eV
 down:Bool
 d:cm
def Lg.off (s:Lg):Bool:=s.down||s.d.off
def Lg.with (s:Lg) (r:Bool×cm):Lg:={s with down:=r.1,d:=r.2}
structure Live (ring N:Nat) (s:Lg) (H:List Text):Prop where
 up:s.down=false
 on:s.d.off=false
 fU:s.d.loose=[]
 Gk:s.ring=ring
 homes_eq:s.homes=H.length
 YB:s.num<=N
 stands:∃a n gs,Good ring s.d.fU a n gs H/\s.place=(a+total gs)%ring/\s.num=n+gs.length/\s.filled=total gs/\s.wait=vk gs
theorem Live.off_eq {ring N:Nat} {s:Lg} {H:List Text} (h:Live ring N s H):s.off=false:=by unfold Lg.off;rw[h.up,h.on];rfl
theorem Live.read {ring N:Nat} {s:Lg} {H:List Text} (h:Live ring N s H):(∀x∈s.wait,x.1<s.homes/\x.2.length=512)/\cA s.wait/\s.d.fU.length=1+ring+H.length/\4<=ring/\ring<=4096/\1<=H.length/\H.length<=65536/\s.filled<=ring/\s.place<ring/\1<=s.num/\s.num<1000000/\s.wait.length<=65536/\
  ∀j,j<H.length->H[j]?=(look j s.wait).or (s.d.now[1+ring+j]?):=by
 obtain⟨a,n,gs,hg,i,p,h3,h4⟩:=h.stands;have hf:=hg.D5;have e:=hg.len;have q:=hg.YA;have M:=hg.r1;have k:=hg.r2;have l:=hg.n_pos;have o:=hg.Uj;have Y:s.d.now=s.d.fU:=by unfold cm.now;rw[h.fU,Dk.nR]
 refine⟨by rw[h4,h.homes_eq];exact hf.2,by rw[h4];exact hf.1,e,M,k,hg.hpos,by omega,by rw[h3];exact hg.tot,by rw[i];exact Nat.mod_lt _ (by omega),by omega,by omega, ?_,fun j r=> ?_⟩
 ·have key:∀(m:eV) (b c:Nat),cA m->(∀x∈m,b<=x.1/\x.1<c)->m.length<=c-b:=by
   intro m;induction m with
   |nil=>intro b c _ _;exact aB _
   |cons x m I=>intro b c hr f;obtain⟨r1,r2⟩:=cF.1 hr;have t:=f x aE;have:=I (x.1+1) c r2 fun y hy=>⟨r1 y hy,(f y (aI _ hy)).2⟩;rw[a_];omega
  have:=key s.wait 0 H.length (by rw[h4];exact hf.1) fun x g=>⟨aB _,by rw[h4] at g;exact (hf.2 x g).1⟩;omega
 ·have:=congrArg (fun L=>L[j]?) hg.homes;rw[this,oX hf.1,aZ,if_pos (by omega),h4,List.getElem?_drop,Y]
def dQ (n:Nat):List Text:=bB n (full [])
theorem BI:(full []).length=512:=Dk.fu _ (by decide)
theorem qQ:blank (full [])=true:=by unfold full;rw[dI];exact nF _
theorem D6 (size ring:Nat) (h:4<=ring) (H:ring<=4096) (h3:ring+2<=size) (h4:size<=65536):
  Good ring ((bB size (full [])).set 0 (full (first size ring 0 1))) 0 1 [] (dQ (size-1-ring)):=by
 refine⟨h,H,by rw[bP,dZ,dQ,dZ];omega,by rw[dQ,dZ];omega,by rw[bP,dZ];exact h4, ?_, ?_,by omega,by decide,by decide,trivial,by simp[total],(fun g hg=>by cases hg),fun i hi=> ?_, ?_⟩
 ·intro s hs;rcases List.mem_or_eq_of_mem_set hs with hs|rfl;·rw[List.eq_of_mem_replicate hs];exact BI
  ·exact Dk.fu _ (by rw[qN];decide)
 ·grind
 ·exact⟨full [],by rw[sy (by omega),nT,if_pos (by omega)],dc qQ⟩
 ·rw[show vk ([]:List eV)=[] from rfl,Dk.nR,List.drop_set,if_pos (by omega),List.drop_replicate,dQ];congr 1;omega
def begun (size ring:Nat):Lg:=⟨ring,size-1-ring,0,1,0,[],false,⟨(bB size (full [])).set 0 (full (first size ring 0 1)),[],-1,false⟩⟩
theorem D7 (size ring:Nat) (h:4<=ring) (H:ring<=4096) (h3:ring+2<=size) (h4:size<=65536):Live ring 1 (begun size ring) (dQ (size-1-ring)):=
 ⟨rfl,rfl,rfl,rfl,by simp[begun,dQ],ah _,0,1,[],D6 size ring h H h3 h4,by show 0=_;simp[total],rfl,rfl,rfl⟩
theorem D8 (size ring:Nat) (h3:0<size):fl (wr (false,Dk.fresh size) (0,first size ring 0 1))=(false,(begun size ring).d):=by
 have h:(0:Nat)<(Dk.fresh size).fU.length:=by simp[Dk.fresh,h3]
 rcases Uk (Dk.fresh size) (0,first size ring 0 1) rfl h (by rw[qN];decide) with⟨e,_⟩|⟨_,e⟩
 ·rw[e];rcases Ul {(Dk.fresh size).iz with loose:=(Dk.fresh size).loose++[fw (0,first size ring 0 1)]} rfl with⟨e',_⟩|⟨_,e'⟩;·rw[e'];rfl
  ·have:(-1:Int)=0:=e';omega
 ·have:(-1:Int)=0:=e;omega
end Wl
section
open Go.RowKit
def m5 (g mb:Nat) (s:Wl.Lg):List Value:=[ptr g,bf cu s.ring,bf cu s.homes,bf cu s.place,bf dg s.num,bf cu s.filled,.map (aD mb),eX s.down]
abbrev Oo:TypeId:=3
abbrev D9 (w:World) (b:Nat) (m:Wl.eV):Prop:=gy Tryz.prog Oo qO w b m
structure jF (w:World) (F:Nat->Prop) (b g mb:Nat) (FD:Nat->Prop) (s:Wl.Lg):Prop where
 blk:aU w b 108 (m5 g mb s)
 mp:D9 w mb s.wait
 sec:pK w FD g s.d
 nb:¬FD b
 nm:¬FD mb
 fb:F b
 fm:F mb
 fd:∀k,FD k->F k
 lt:∀k,F k->k<w.heap.size
def Log (w:World) (F:Nat->Prop) (b g:Nat) (s:Wl.Lg):Prop:=∃mb FD,jF w F b g mb FD s
structure Bnd (s:Wl.Lg):Prop where
 r1:4<=s.ring
 r2:s.ring<=4096
 h:s.homes<=65536
 p:s.place<s.ring
 n:s.num<1000000
 f:s.filled<=1000000
 w:Wl.Fits s.homes s.wait
 wl:s.wait.length<=65536
 len:s.d.fU.length=1+s.ring+s.homes
theorem Wl.Live.Kb {ring N:Nat} {s:Wl.Lg} {H:List (List UInt8)} (h:Wl.Live ring N s H):Bnd s:=by obtain⟨b,c,h3,h4,f,g,i,j,k,d,e,a,_⟩:=h.read;have E:=h.Gk;have l:=h.homes_eq;exact⟨by omega,by omega,by omega,by omega,by omega,by omega,⟨c,b⟩,a,by omega⟩
def both (F G:Nat->Prop) (k:Nat):Prop:=F k\/G k
theorem bY.both {F FD Kc:Nat->Prop} {w w1:World} (Q:∀k,FD k->F k) (h:bY FD w Kc w1):bY F w (both F Kc) w1:=
 ⟨h.1.mono fun k _ H=>Q k H,fun k H=>by
  rcases H with H|H;·exact dc H
  ·rcases h.2 k H with h'|h';·exact dc (Q k h')
   ·exact dn h'⟩
theorem yH {FD Kc:Nat->Prop} {w w1:World} (h:bY FD w Kc w1) {b:Nat} (a:b<w.heap.size) (hn:¬FD b):¬Kc b:=fun H=>by
 rcases h.2 b H with h'|h';·exact hn h'
 ·omega
namespace jF
variable {w w1:World} {F FD Kc:Nat->Prop} {b g mb:Nat} {s:Wl.Lg}
theorem log (h:jF w F b g mb FD s):Log w F b g s:=⟨mb,FD,h⟩
theorem c0 (h:jF w F b g mb FD s):w.cell? ⟨b,0,av⟩=aD (e7 (aD ⟨g,0,av⟩)):=h.blk.cell rfl
theorem c1 (h:jF w F b g mb FD s):w.cell? ⟨b,1,av⟩=aD (bf cu s.ring):=h.blk.cell rfl
theorem c2 (h:jF w F b g mb FD s):w.cell? ⟨b,2,av⟩=aD (bf cu s.homes):=h.blk.cell rfl
theorem c3 (h:jF w F b g mb FD s):w.cell? ⟨b,3,av⟩=aD (bf cu s.place):=h.blk.cell rfl
theorem c4 (h:jF w F b g mb FD s):w.cell? ⟨b,4,av⟩=aD (bf dg s.num):=h.blk.cell rfl
theorem c6 (h:jF w F b g mb FD s):w.cell? ⟨b,6,av⟩=aD (.map (aD mb)):=h.blk.cell rfl
theorem c7 (h:jF w F b g mb FD s):w.cell? ⟨b,7,av⟩=aD (eX s.down):=h.blk.cell rfl
theorem Um (h:jF w F b g mb FD s):mb≠b:=h.mp.dG h.blk
theorem turned (h:jF w F b g mb FD s) {d:Dk.cm} (hs:pK w1 Kc g d) (a:bY FD w Kc w1):jF w1 (both F Kc) b g mb Kc {s with d:=d}/\bY F w (both F Kc) w1:=
 ⟨⟨h.blk.but a.1 h.nb,h.mp.but a.1 h.nm,hs,yH a (h.lt b h.fb) h.nb,yH a (h.lt mb h.fm) h.nm,dc h.fb,dc h.fm,fun k H=>dn H,fun k H=>by
  rcases H with H|H;·exact dD (h.lt k H) a.1.size
  ·exact hs.lt k H⟩,a.both h.fd⟩
theorem but {S:Nat->Prop} (h:jF w F b g mb FD s) (H:aG S w w1) (hn:∀k,F k->¬S k):jF w1 F b g mb FD s:=
 ⟨h.blk.but H (hn b h.fb),h.mp.but H (hn mb h.fm),h.sec.but H (fun k a=>hn k (h.fd k a)),h.nb,h.nm,h.fb,h.fm,h.fd,fun k a=>dD (h.lt k a) H.size⟩
theorem below (h:jF w F b g mb FD s) (H:Below w.heap.size w w1):jF w1 F b g mb FD s:=h.but (aG.aJ H (fun _=>False)) (fun _ _ hf=>hf)
theorem set (h:jF w F b g mb FD s) (j:Nat) (u:Value) (s':Wl.Lg) (hc:(m5 g mb s).set j u=m5 g mb s') (c:s'.wait=s.wait) (hd:s'.d=s.d):jF (w.setCell ⟨b,j,av⟩ u) F b g mb FD s'/\bY F w F (w.setCell ⟨b,j,av⟩ u):=by
 have a:aG (· =b) w (w.setCell ⟨b,j,av⟩ u):=(aG.refl _ w).setCell _ _ (fun _=>rfl);refine⟨⟨?_, ?_, ?_,h.nb,h.nm,h.fb,h.fm,h.fd,fun k H=>dD (h.lt k H) a.size⟩,a.mono (fun k _ e=>e▸h.fb),fun k H=>dc H⟩;·rw[<-hc];exact h.blk.set j u
 ·rw[c];exact h.mp.but a h.Um
 ·rw[hd];exact h.sec.but a (fun k H e=>h.nb (e▸H))
end jF
theorem Log.lt {w:World} {F:Nat->Prop} {b g:Nat} {s:Wl.Lg} (h:Log w F b g s):∀k,F k->k<w.heap.size:=by obtain⟨_,_,h⟩:=h;exact h.lt
theorem Log.but {S:Nat->Prop} {w w1:World} {F:Nat->Prop} {b g:Nat} {s:Wl.Lg} (h:Log w F b g s) (H:aG S w w1) (hn:∀k,F k->¬S k):Log w1 F b g s:=by obtain⟨_,_,h⟩:=h;exact (h.but H hn).log
theorem Log.below {w w1:World} {F:Nat->Prop} {b g:Nat} {s:Wl.Lg} (h:Log w F b g s) (H:Below w.heap.size w w1):Log w1 F b g s:=by obtain⟨_,_,h⟩:=h;exact (h.below H).log
end
section
open Go.RowKit Lib
abbrev CT:TypeId:=230
def zeros:List UInt8:=bB 512 0
theorem jc:zeros.length=512:=dZ
theorem Oq:(Tryz.prog.info? CT).map (·.size)=aD 512:=by kernel_rfl
theorem zY (w:World):(zeroValue CT).run Tryz.prog w=.ok (ctext zeros) w:=by kernel_rfl
theorem H_ (l:List UInt8):(l.map bV).toArray.all (·.oneCell')=true:=by rw[Array.all_eq_true_iff_forall_mem];intro v h;simp only[List.mem_toArray,List.mem_map] at h;obtain⟨b,_,rfl⟩:=h;rfl
def BJ (w:World) (g:Nat) (l:List UInt8):Prop:=aU w g CT (l.map bV)/\l.length=512
theorem Below.but {B:Nat} {S:Nat->Prop} {w w' W:World} (h:Below B w w') (H:aG S w' W) (a:B<=w'.heap.size) (hS:∀k,k<B->¬S k):Below B w W:=h.trans (H.below a hS)
theorem pT {ops:Array Oper} {rest:List Oper} {o:Oper} {a:Act} {w:World} {Q:Exit->Act->World->Prop} (H:o.guard=av) (x y:Operand) (d:o.op=.store CT x y)
  (g:Nat) (c old:List UInt8) (e:a.eval x=e7 (aD ⟨g,0,av⟩)) (hy:a.eval y=ctext c) (hc:c.length=512) (b:BJ w g old)
  (h:∀w',BJ w' g c->aG (fun k=>k=g) w w'->wpList Tryz.prog ops Q rest (a.put o.dst undef) w'):wpList Tryz.prog ops Q (o::rest) a w:=by
 refine wpList_store_row H CT x y d g (c.map bV).toArray e hy CT (old.map bV).toArray b.1 (by rw[Oq];simp[hc]) (by simp[b.2,hc]) (H_ c) ?_;exact h _ ⟨setRow_heap w g _ _ _ _ b.1,hc⟩ ((aG.refl _ w).setRow g _ (fun _=>rfl))
theorem KE (w:World) (c:Nat):(Instr.sliceAt CT (e7 (aD ⟨c,0,av⟩)) av av av).run Tryz.prog w=.ok (cx (aD ⟨c,0,av⟩) 512 512) w:=by
 have e:Tryz.prog.arrayLen CT=512:=by kernel_rfl
 have E:Tryz.prog.elem CT=5:=by kernel_rfl
 have a:=run_sliceAt_array_all (P:=Tryz.prog) w CT ⟨c,0,av⟩ (by rw[e,E];kernel_rfl);rw[a,e,E];show ((sizeOf 5).run Tryz.prog w).andThen _=_;rw[Tryz.sizeOf5];simp[go_sem,Addr.add]
theorem BJ.back {w:World} {c:Nat} {t:List UInt8} (h:BJ w c t):(convert 94 9 (cx (aD ⟨c,0,av⟩) 512 512)).run Tryz.prog w=.ok (bR (bs t)) w:=by
 have:=run_convert_bytes_back (P:=Tryz.prog) w 94 9 5 ⟨c,0,av⟩ 512 t (by kernel_rfl) (by kernel_rfl) (by kernel_rfl) (by
  intro i hi;rw[sr];refine h.1.cell ?_;rw[cD,aK hi];rfl)
 rw[h.2] at this;exact this
theorem BJ.new (w:World) (Z:Array Value) (h:Z=(zeros.map bV).toArray):BJ (w.alloc (ey Z CT)) w.heap.size zeros:=by subst h;exact⟨aU.new w _ _,jc⟩
theorem BK:Tryz.prog.underlying 104=aD (.map Oo CT):=Tryz.underlying104
theorem iA:Tryz.prog.underlying Oo=aD (.int cu):=Tryz.underlying3
theorem D9.i_ {w:World} {b:Nat} {m:Wl.eV} (h:D9 w b m) {k:Nat} (H:k<=1000000) {t:List UInt8} (hl:Wl.look k m=aD t):(Instr.lookup 104 (.map (aD b)) (bf cu k) true).run Tryz.prog w=.ok (gu #[ctext t,eX true]) w/\t.length=512:=
 gy.i_ (M:=qO) h iA BK (zY w) jc H hl
theorem D9.eo {w:World} {b:Nat} {m:Wl.eV} (h:D9 w b m) {k:Nat} (H:k<=1000000) (hl:Wl.look k m=av):(Instr.lookup 104 (.map (aD b)) (bf cu k) true).run Tryz.prog w=.ok (gu #[ctext zeros,eX false]) w:=
 gy.eo (M:=qO) h iA BK (zY w) jc H hl
end
set_option maxRecDepth 100000
open Go.ChangeShapes Go.WideShapes Go.ChangeAt Go.RowKit
theorem addr_add (g o j:Nat):(⟨g,o,av⟩:Addr).add j=⟨g,o+j,av⟩:=by unfold Addr.add;split<;>simp_all
set_option maxRecDepth 100000
open Go.ChangeShapes Go.WideShapes Go.ChangeAt Go.RowKit
theorem RD {H:Type} {enc:TypeId×Value->H} {W:World} {n:Nat} {v:Value} {y:DataW H×List MemPlace} {α:Type} [Inhabited α] {T E c:Nat} (f:α->List Value) (ok:α->Prop)
  (z:Tryz.prog.underlying T=aD (.slice E)) (hc:Tryz.prog.cellsOf E=c) (A:0<c)
  (q:∀(n:Nat) (cs:List Value) (y:DataW H×List MemPlace),cs.length=c->DataW.trod enc Tryz.prog W 0 (fun _=>true) true n E cs=aD y->∃x,cs=f x/\ok x)
  (h:DataW.trod enc Tryz.prog W 0 (fun _=>true) true n T [v]=aD y):
  ∃(l:List α) (a:Option Addr) (cap:Nat),v=.slice a l.length cap/\l.length<=cap/\l.length<=9223372036854775807/\∀i (hi:i<l.length),ok l[i]/\∃g o,a=aD ⟨g,o,av⟩/\g<W.heap.size/\
   ∀j (s:j<l.length) m,m<c->W.cell? ⟨g,o+(j*c+m),av⟩=(f l[j])[m]?:=by
 rcases Deep.open_slice z h with⟨e,_⟩|⟨a,len,cap,m,n',D,P,e,_,hl,B,t,_,u⟩
 ·simp only[List.cons.injEq,and_true] at e;exact⟨[],av,0,e,ah _,by simp,fun i hi=>by simp at hi⟩
 ·simp only[List.cons.injEq,and_true] at e;subst e;simp only[if_true] at t;subst t;rw[hc] at u
  obtain⟨X,d⟩:=Deep.choose_lt (α:=α) (p:=fun i x=>W.cells? 0 (a.add (i*c)) c=aD (f x)/\ok x) (fun i (hi:i<m)=>by
   obtain⟨C,w,F⟩:=u i hi;obtain⟨x,rfl,r⟩:=q _ _ _ (World.cells?_some w).2.1 F;exact⟨x,w,r⟩)
  rcases Nat.eq_zero_or_pos len with rfl|hn;·exact⟨[],_,m,rfl,aB _,by simp,fun i hi=>by simp at hi⟩
  ·obtain⟨g,o,spot⟩:=a;have b:=(World.cells?_some (d 0 (by omega)).1).2.2 0 A;have K:=(World.cells?_some (d 0 (by omega)).1).2.1;rw[aK (by omega)] at b;have U:spot=none:=(by simpa[Addr.add] using World.cell?_spot b);subst U;have hg:=bD _ _ b;have hg:g<W.heap.size:=(by rw[addr_add,addr_add] at hg;exact hg);refine⟨(List.range len).map X,aD ⟨g,o,av⟩,m,by simp,by simpa using hl,by simp;unfold maxLen at B;omega,fun i hi=> ?_⟩;have G:i<len:=(by simpa using hi);refine⟨by simpa using (d i (by omega)).2,g,o,rfl,hg,fun j s k I=> ?_⟩;have J:j<len:=(by simpa using s);have k0:=(World.cells?_some (d j (by omega)).1).2.2 k I;rw[addr_add,addr_add] at k0;rw[List.getElem_map,List.getElem_range,<-gH];exact k0
theorem KF {m:Int} (h:(Lit.int cu m).wf=true):(-9223372036854775808:Int)<=m/\m<=9223372036854775807:=by simp only[Lit.wf,eH,decide_eq_true_eq] at h;exact h
section
open Go.ChangeShapes Go.WideShapes Go.ChangeAt Go.RowKit
open Go.ChangeMaps (open_string shut_string)
def Ot:DataW Unit->Value
 |.lit (.int k z)=>.int k z
 |_=>undef
def BL:DataW Unit->List Value
 |.agg l=>l.map Ot
 |_=>[]
def Ia:DataW Unit->List Value
 |.agg l=>l.flatMap BL
 |_=>[]
def KG (cs:Array Value):Obj->Obj
 |ey _ t frozen=>ey cs t frozen
 |o=>o
noncomputable def laidWorld (os:Os):World:=
 {World.holding Tryz.prog os ⟨#[],#[],[]⟩ with heap:=((World.holding Tryz.prog os ⟨#[],#[],[]⟩).heap.modify 2 (KG (Ia Rows.laid_unicode_utf8_acceptRanges).toArray)).modify 1 (KG (BL Rows.laid_unicode_utf8_first).toArray)}
end
namespace Wl
open Dk (fO full)
def along (H:List Text) (ps:List (Int×Text)):List Text:=ps.foldl (fun H p=>H.set p.1.toNat (full p.2)) H
def Up (g:eV) (ps:List (Int×Text)):eV:=ps.foldl (fun g p=>ins p.1.toNat (full p.2) g) g
theorem zZ (H:List Text) (a b:List (Int×Text)):along H (a++b)=along (along H a) b:=by simp[along]
theorem cY:∀(ps:List (Int×Text)) (H:List Text),(along H ps).length=H.length
 |[],_=>rfl
 |p::ps,H=>by show (along (H.set _ _) ps).length=_;rw[cY ps,bP]
theorem vm:∀(ps:List (Int×Text)) {g:eV},cA g->cA (Up g ps)
 |[],_,h=>h
 |_::ps,_,h=>vm ps (fZ _ _ h)
theorem KH (H:List Text) {g:eV} (hr:cA g) (k:Nat) (t:Text):fO H (ins k t g)=(fO H g).set k t:=by
 refine List.ext_getElem? fun j=> ?_;rw[oX (fZ k t hr),fY,List.getElem?_set,Dk.gY,oX hr];by_cases h:j<H.length
 ·rw[if_pos h,if_pos h];by_cases a:k=j;·subst a;simp[h]
  ·rw[if_neg (Ne.symm a),if_neg a]
 ·rw[if_neg h,if_neg h]
  split
  ·rename_i e;subst e;rw[if_neg h]
  ·rfl
theorem BM:∀(ps:List (Int×Text)) (H:List Text) {g:eV},cA g->fO H (Up g ps)=along (fO H g) ps
 |[],_,_,_=>rfl
 |p::ps,H,g,h=>by
  show fO H (Up (ins _ _ g) ps)=along ((fO H g).set _ _) ps;rw[BM ps H (fZ _ _ h),KH H h]
theorem vq:cA ([]:eV):=List.Pairwise.nil
theorem jd (k:Nat) (t:Text):∀{m:eV},cA m->(ins k t m).length=if (look k m).isSome then m.length else m.length+1
 |[],_=>rfl
 |x::m,hr=>by
  obtain⟨a,b⟩:=cF.1 hr;unfold ins;by_cases H:k<x.1
  ·rw[if_pos H];have:look k (x::m)=none:=eo.2 fun y hy=>by
    rcases aX.1 hy with rfl|hy;·omega
    ·have:=a y hy;omega
   rw[this];rfl
  ·rw[if_neg H];unfold look;by_cases h:k=x.1;·rw[if_pos h,if_pos h.symm];rfl
   ·rw[if_neg h,if_neg (Ne.symm h),a_,jd k t b]
    split<;>rfl
end Wl
namespace Rm
open Wl (Text)
def gD (s:Text) (k:Nat):Bool:=(s.getD (k/8) 0).toNat.testBit (k%8)
def flip (s:Text) (k:Nat):Text:=s.set (k/8) (s.getD (k/8) 0^^^bz (2^(k%8)))
theorem k_ (s:Text) (k:Nat):(flip s k).length=s.length:=bP
theorem BN (i j:Nat):(2^i).testBit j=decide (j=i):=by grind
theorem D_ (s:Text) {k:Nat} (H:k/8<s.length) (j:Nat):gD (flip s k) j=if j=k then !gD s j else gD s j:=by
 unfold gD flip;have hp:2^(k%8)<256:=by have:2^(k%8)<=2^7:=Nat.pow_le_pow_right (by decide) (by omega);omega
 by_cases h:j/8=k/8
 ·rw[h,bZ,List.getElem?_set_self H,Option.getD_some,UInt8.toNat_xor,Nat.testBit_xor,eF,lH hp,BN];by_cases e:j=k;·grind
  ·grind
 ·grind
def count (s:Text):Nat->Nat
 |0=>0
 |n+1=>count s n+(gD s n).toNat
theorem count_le (s:Text):∀n,count s n<=n
 |0=>ah _
 |n+1=>by have:=count_le s n;have:=Bool.toNat_le (gD s n);show count s n+_<=_;omega
def KI (b n:Nat):Nat:=((List.range n).filter fun i=>b.testBit i).length
theorem Ib (b n:Nat):KI b (n+1)=KI b n+(b.testBit n).toNat:=by grind [KI,List.range_succ,au]
theorem Ic (s:Text) (k:Nat):∀n,n<=8->count s (8*k+n)=count s (8*k)+KI (s.getD k 0).toNat n
 |0,_=>rfl
 |n+1,h=>by
  show count s (8*k+n)+(gD s (8*k+n)).toNat=_;rw[Ic s k n (by omega),Ib];unfold gD;rw[show (8*k+n)/8=k by omega,show (8*k+n)%8=n by omega,gH]
def Gl (s:Text) (f:Nat):Prop:=(∀j,j<f->gD s j=true)/\f<=8*s.length/\(f<8*s.length->gD s f=false)
def ju (s:Text) (k:Nat):Nat->Nat
 |0=>0
 |i+1=>ju s k i*256+(s.getD (8*k+i) 0).toNat
def num (s:Text) (k:Nat):Nat:=ju s k 8
theorem BO (s:Text) (k:Nat):∀i,ju s k i<256^i
 |0=>Nat.one_pos
 |i+1=>by
  have:=BO s k i;have h:(s.getD (8*k+i) 0).toNat<256:=UInt8.toNat_lt _;show ju s k i*256+_<_;rw[Nat.pow_succ];omega
def pU (s:Text) (k n:Nat):Nat->Text
 |0=>s
 |i+1=>(pU s k n i).set (8*k+i) (bz (n/256^(7-i)))
def put (s:Text) (k n:Nat):Text:=pU s k n 8
theorem jM (s:Text) (k n:Nat):∀i,(pU s k n i).length=s.length
 |0=>rfl
 |i+1=>by show (List.set _ _ _).length=_;rw[bP,jM s k n i]
theorem p6 (s:Text) (k n:Nat):(put s k n).length=s.length:=jM s k n 8
theorem vu (s:Text) (k n j:Nat) (hs:8*k+8<=s.length):∀i,i<=8->(pU s k n i).getD j 0=if 8*k<=j/\j<8*k+i then bz (n/256^(7-(j-8*k))) else s.getD j 0
 |0,_=>by rw[if_neg (by omega)];rfl
 |i+1,h=>by
  show ((pU s k n i).set (8*k+i) _).getD j 0=_;by_cases e:j=8*k+i;·grind [List.getElem?_set_self,jM]
  ·rw[bZ,sy (by omega),<-bZ,vu s k n j hs i (by omega)];by_cases H:8*k<=j/\j<8*k+i;·grind
   ·grind
theorem yI (s:Text) (k n:Nat) (hs:8*k+8<=s.length) (hn:n<256^8):∀i,i<=8->ju (put s k n) k i=n/256^(8-i)
 |0,_=>(Nat.div_eq_of_lt hn).symm
 |i+1,h=>by
  show ju (put s k n) k i*256+((put s k n).getD (8*k+i) 0).toNat=_;rw[yI s k n hs hn i (by omega)];unfold put;rw[vu s k n _ hs 8 (ah _),if_pos (by omega),show 8*k+i-8*k=i by omega,eF];rw[show 8-i=(7-i)+1 by omega,show 8-(i+1)=7-i by omega,Nat.pow_succ,<-Nat.div_div_eq_div_mul];have:=Nat.div_add_mod (n/256^(7-i)) 256;omega
theorem Ou (s:Text) (k n:Nat) (hs:8*k+8<=s.length) (hn:n<256^8):num (put s k n) k=n:=by
 have:=yI s k n hs hn 8 (ah _)
 rwa [Nat.sub_self,Nat.pow_zero,Nat.div_one] at this
theorem Ie (s:Text) (k n j:Nat) (hs:8*k+8<=s.length) (H:j≠k):num (put s k n) j=num s j:=by
 have key:∀i,i<=8->ju (put s k n) j i=ju s j i:=by
  intro i;induction i with
  |zero=>intro _;rfl
  |succ i I=>intro h;show ju (put s k n) j i*256+_=ju s j i*256+_;rw[I (by omega)];unfold put;rw[vu s k n _ hs 8 (ah _),if_neg (by omega)]
 exact key 8 (ah _)
def pages (n:Int):Nat:=if n<1 then 0 else let r:=(min n 1048576).toNat-1;r-(r+4096)/4097
theorem Ig {n:Nat} (h:2<=n) (H:n<=4098):pages n=n-2:=by grind [pages]
structure dO (K:List Text) (pg:List (Option Text)) (rt:List Nat):Prop where
 len:K.length=pg.length+2
 full:∀t∈K,t.length=512
 bit:∀p,p<pg.length->gD (K.getD 1 []) p=(pg.getD p av).isSome
 page:∀p t,pg[p]?=aD (aD t)->K.getD (2+p) []=t
 vw:rt.length=16
 num:∀k,k<16->num (K.getD 0 []) k=rt.getD k 0
 few:pg.length<=4096
namespace dO
variable {K:List Text} {pg:List (Option Text)} {rt:List Nat}
theorem home (h:dO K pg rt) {i:Nat} (hi:i<K.length):(K.getD i []).length=512:=by rw[bZ,aK hi,Option.getD_some];exact h.full _ (bI hi)
theorem uE (h:dO K pg rt) (i:Nat) {t:Text} (H:t.length=512):∀u∈K.set i t,u.length=512:=by
 intro u hu;rcases List.mem_or_eq_of_mem_set hu with hu|hu;·exact h.full u hu
 ·rw[hu];exact H
theorem dU {α:Type} (l:List α) (i j:Nat) (x d:α) (hi:i<l.length):(l.set i x).getD j d=if j=i then x else l.getD j d:=by grind
theorem write (h:dO K pg rt) {p:Nat} (hp:p<pg.length) (hs:(pg.getD p av).isSome) {t:Text} (a:t.length=512):dO (K.set (2+p) t) (pg.set p (aD t)) rt:=by
 have hl:=h.len;refine⟨by rw[bP,bP,h.len],h.uE _ a,fun q H=> ?_,fun q u hu=> ?_,h.vw,fun k b=> ?_,by rw[bP];exact h.few⟩
 ·rw[bP] at H;rw[dU _ _ _ _ _ (by omega),if_neg (by omega),dU _ _ _ _ _ hp,h.bit q H];by_cases e:q=p;·grind
  ·rw[if_neg e]
 ·rw[dU _ _ _ _ _ (by omega)];by_cases e:q=p;·grind
  ·rw[sy (fun x=>e x.symm)] at hu;rw[if_neg (by omega)];exact h.page q u hu
 ·rw[dU _ _ _ _ _ (by omega),if_neg (by omega)];exact h.num k b
theorem ij (h:dO K pg rt) {p:Nat} (hp:p<pg.length) {o:Option Text} (c:o.isSome= !(pg.getD p av).isSome) (C:∀t,o=aD t->K.getD (2+p) []=t):dO (K.set 1 (flip (K.getD 1 []) p)) (pg.set p o) rt:=by
 have hl:=h.len;have hf:=h.few;have H:(K.getD 1 []).length=512:=h.home (by omega);refine⟨by rw[bP,bP,h.len],h.uE _ (by rw[k_];exact H),fun q a=> ?_,fun q u hu=> ?_,h.vw,fun k b=> ?_,by rw[bP];exact h.few⟩
 ·rw[bP] at a;rw[dU _ _ _ _ _ (by omega),if_pos rfl,D_ _ (by rw[H];omega),dU _ _ _ _ _ hp,h.bit q a];by_cases e:q=p;·grind
  ·grind
 ·rw[dU _ _ _ _ _ (by omega),if_neg (by omega)];by_cases e:q=p;·grind
  ·rw[sy (fun x=>e x.symm)] at hu;exact h.page q u hu
 ·rw[dU _ _ _ _ _ (by omega),if_neg (by omega)];exact h.num k b
theorem free (h:dO K pg rt) {p:Nat} (hp:p<pg.length) (hs:(pg.getD p av).isSome):dO (K.set 1 (flip (K.getD 1 []) p)) (pg.set p av) rt:=
 h.ij hp (by rw[hs];rfl) (fun t H=>by cases H)
theorem RE (h:dO K pg rt) {p:Nat} (hp:p<pg.length) (hs:pg.getD p av=av) {t:Text} (H:t.length=512):dO (K.set (2+p) t) pg rt:=by
 have hl:=h.len;refine⟨by rw[bP,h.len],h.uE _ H,fun q a=> ?_,fun q u hu=> ?_,h.vw,fun k b=> ?_,h.few⟩;·rw[dU _ _ _ _ _ (by omega),if_neg (by omega),h.bit q a]
 ·rw[dU _ _ _ _ _ (by omega),if_neg];·exact h.page q u hu
  ·grind
 ·rw[dU _ _ _ _ _ (by omega),if_neg (by omega)];exact h.num k b
theorem set (h:dO K pg rt) {k n:Nat} (H:k<16) (hn:n<256^8):dO (K.set 0 (put (K.getD 0 []) k n)) pg (rt.set k n):=by
 have hl:=h.len;have a:(K.getD 0 []).length=512:=h.home (by omega);refine⟨by rw[bP,h.len],h.uE _ (by rw[p6];exact a),fun q b=> ?_,fun q u hu=> ?_,by rw[bP];exact h.vw,fun j c=> ?_,h.few⟩;·rw[dU _ _ _ _ _ (by omega),if_neg (by omega),h.bit q b]
 ·rw[dU _ _ _ _ _ (by omega),if_neg (by omega)];exact h.page q u hu
 ·rw[dU _ _ _ _ _ (by omega),if_pos rfl,dU _ _ _ _ _ (by rw[h.vw];exact H)];by_cases e:j=k;·grind [Ou]
  ·rw[if_neg e,Ie _ _ _ _ (by omega) e,h.num j c]
end dO
theorem tP (j:Nat):(bB 512 (0:UInt8)).getD j 0=0:=by grind
theorem z6 (k:Nat):gD (bB 512 0) k=false:=by unfold gD;rw[tP];exact Nat.zero_testBit _
theorem Ea (k:Nat):num (bB 512 0) k=0:=by
 have key:∀i,ju (bB 512 0) k i=0:=by
  intro i;induction i with
  |zero=>rfl
  |succ i I=>
   show ju _ k i*256+_=0;rw[I,tP];rfl
 exact key 8
theorem Ov (n:Nat) (a:2<=n) (b:n<=4098):dO (Wl.dQ n) (bB (n-2) av) (bB 16 0):=by
 have hf:Dk.full []=bB 512 0:=rfl;have hg:∀i,i<n->(Wl.dQ n).getD i []=bB 512 0:=by intro i hi;unfold Wl.dQ;rw[bZ,nT,if_pos hi,Option.getD_some,hf]
 refine⟨by unfold Wl.dQ;rw[dZ,dZ];omega,fun t h=> ?_,fun p hp=> ?_,fun p t hp=> ?_,dZ,fun k H=> ?_,by rw[dZ];omega⟩;·rw[(List.mem_replicate.1 h).2,hf,dZ]
 ·rw[hg 1 (by omega),z6,bZ,nT];rw[dZ] at hp;rw[if_pos hp];rfl
 ·grind
 ·rw[hg 0 (by omega),Ea,bZ,nT,if_pos H];rfl
def used (pg:List (Option Text)):Nat:=(pg.filter Option.isSome).length
def firstFree:List (Option Text)->Option Nat
 |[]=>av
 |none::_=>aD 0
 |some _::l=>(firstFree l).map (· +1)
theorem nV:∀{pg:List (Option Text)} {p:Nat},(∀q,q<p->(pg.getD q av).isSome)->p<pg.length->pg.getD p av=av->firstFree pg=aD p
 |[],_,_,h,_=>absurd h (Nat.not_lt_zero _)
 |none::pg,0,_,_,_=>rfl
 |some t::pg,0,_,_,h=>by cases h
 |none::pg,p+1,h,_,_=>by have:=h 0 (by omega);cases this
 |some t::pg,p+1,h,h2,h3=>by
  show (firstFree pg).map (· +1)=_;rw[nV (p:=p) (fun q H=>h (q+1) (by omega)) (by simpa using h2) h3];rfl
theorem nX:∀{pg:List (Option Text)},(∀q,q<pg.length->(pg.getD q av).isSome)->firstFree pg=av
 |[],_=>rfl
 |none::pg,h=>by have:=h 0 (by simp);cases this
 |some t::pg,h=>by
  show (firstFree pg).map (· +1)=_;rw[nX (pg:=pg) (fun q H=>h (q+1) (by simpa using H))];rfl
theorem m6:∀{pg:List (Option Text)} {p:Nat},firstFree pg=aD p->p<pg.length/\pg.getD p av=av
 |[],_,h=>by cases h
 |none::pg,p,h=>by injection h with h;subst h;exact⟨by simp,rfl⟩
 |some t::pg,p,h=>by
  change (firstFree pg).map (· +1)=aD p at h;cases hf:firstFree pg with
  |none=>rw[hf] at h;cases h
  |some q=>rw[hf] at h;injection h with h;subst h;have:=m6 hf;exact⟨by simpa using this.1,this.2⟩
def refuse (pg:List (Option Text)) (i:Int):Int:=if 0<=i/\i<pg.length then (if (pg.getD i.toNat av).isSome then 0 else 6) else 2
def got (pg:List (Option Text)) (i:Int):Text:=if 0<=i/\i<pg.length then (pg.getD i.toNat av).getD [] else []
def wrote (pg:List (Option Text)) (i:Int) (n:Nat):Int:=if refuse pg i=0 then (if 512<n then 5 else 0) else refuse pg i
def has (pg:List (Option Text)) (i:Int):Bool:=if 0<=i/\i<pg.length then (pg.getD i.toNat av).isSome else false
def vA (pg:List (Option Text)) (i:Int):Int:=if 0<=i/\i<pg.length then 0 else 2
inductive At (pg:List (Option Text)) (i:Int):Prop
 |out (h:i<0\/(pg.length:Int)<=i) (hr:refuse pg i=2) (hg:got pg i=[]) (hh:has pg i=false) (hn:vA pg i=2)
 |free (p:Nat) (hi:i=p) (hp:p<pg.length) (hs:pg.getD p av=av) (hr:refuse pg i=6) (hg:got pg i=[]) (hh:has pg i=false) (hn:vA pg i=0)
 |taken (p:Nat) (t:Text) (hi:i=p) (hp:p<pg.length) (hs:pg.getD p av=aD t) (hr:refuse pg i=0) (hg:got pg i=t) (hh:has pg i=true) (hn:vA pg i=0)
theorem vB (pg:List (Option Text)) (i:Int):At pg i:=by
 by_cases h:0<=i/\i<pg.length
 ·obtain⟨p,rfl⟩:∃p:Nat,i=p:=⟨i.toNat,by omega⟩;have hp:p<pg.length:=by omega
  cases hs:pg.getD p av with
  |none=>exact .free p rfl hp hs (by unfold refuse;rw[if_pos h,dF,hs];rfl) (by unfold got;rw[if_pos h,dF,hs];rfl) (by unfold has;rw[if_pos h,dF,hs];rfl) (by unfold vA;rw[if_pos h])
  |some t=>exact .taken p t rfl hp hs (by unfold refuse;rw[if_pos h,dF,hs];rfl) (by unfold got;rw[if_pos h,dF,hs];rfl) (by unfold has;rw[if_pos h,dF,hs];rfl) (by unfold vA;rw[if_pos h])
 ·exact .out (by omega) (by unfold refuse;rw[if_neg h]) (by unfold got;rw[if_neg h]) (by unfold has;rw[if_neg h]) (by unfold vA;rw[if_neg h])
theorem nG (pg:List (Option Text)):firstFree pg=av\/∃p,firstFree pg=aD p/\p<pg.length/\pg.getD p av=none:=by
 cases h:firstFree pg with
 |none=>exact dc rfl
 |some p=>exact dn ⟨p,rfl,(m6 h).1,(m6 h).2⟩
theorem Eb {s:Text} {pg:List (Option Text)} (h:∀p,p<pg.length->gD s p=(pg.getD p av).isSome) (hs:s.length=512) (hn:pg.length<=4096) {f:Nat} (hf:Gl s f):
  (pg.length<=f/\firstFree pg=av)\/(f<pg.length/\firstFree pg=aD f):=by
 obtain⟨a,b,h3⟩:=hf;by_cases H:f<pg.length
 ·refine dn ⟨H,nV (fun q c=> ?_) H ?_⟩;·grind
  ·have:=h3 (by omega);rw[h f H] at this;cases e:pg.getD f av with
   |none=>rfl
   |some t=>rw[e] at this;cases this
 ·grind [nX]
end Rm
section
open Go.RowKit Lib
section
variable {P:Program}
theorem pL (w:World) (t ty e:TypeId) (i:TypeInfo) (k:P.underlying t=aD (.slice e)) (hi:P.info? e=aD i) (H:i.size=1)
  (g s S:Nat) (cur:Array Value) (f:Nat×Nat) (hg:w.heap[g]?=aD (ey cur e f)) (l:¬(f.1<=s/\s<f.2))
  (a:Addr) (u:Value) (hu:w.cell? a=aD u) (m:u.oneCell'=true) (b:s+1<=S) (hfit:s<cur.size):
  (Builtin.append_ #[t,t] ty #[.slice (aD ⟨g,0,av⟩) s S,.slice (aD a) 1 1]).run P w=.ok (.slice (aD ⟨g,0,av⟩) (s+1) S) (w.setRow g (cur.setIfInBounds s u)):=by
 have hf:=run_firstCells_some (P:=P) w i.size 1 a 1 1 [u] (by simp[H]) (fun j v c=>by
  cases j with
  |zero=>simp at c;subst c;simpa[Addr.add] using hu
  |succ j=>simp at c)
 have hcell:w.cell? ⟨g,s,av⟩=aD cur[s]:=by simp[World.cell?,hg,hfit]
 have Y:w.frozen? ⟨g,s,av⟩=false:=by
  unfold World.frozen?;rw[hg];simp only[Bool.and_eq_false_iff,decide_eq_false_iff_not];by_cases h:f.1<=s;·omega
  ·exact dc h
 have O:(⟨g,s,av⟩:Addr).add 0=⟨g,s,av⟩:=by simp[Addr.add]
 have d:(storeCells ⟨g,s,av⟩ [u]).run P w=.ok () (w.setRow g (cur.setIfInBounds s u)):=by simp only[storeCells,Sem.run_bind];rw[O,run_store P w _ u _ m,hcell];simp[Y,setCell_eq_setRow w g s cur e f u hg]
 simp[Builtin.append_,run_underlying k,sizeOf,typeInfo,hi,H,Builtin.lenOf,b,H▸hf,Addr.add_lit,d]
end
def KJ (B:Nat) (w:World) (v:Value) (l:List UInt8):Prop:=
 ∃g cap cur f,v=cx (aD ⟨g,0,av⟩) l.length cap/\B<=g/\w.heap[g]?=aD (ey cur 5 f)/\(∀j,j<cur.size->¬(f.1<=j/\j<f.2))/\l.length<=cap/\cap<=maxLen/\cur.size=cap/\cur.toList.take l.length=l.map bV
theorem KJ.slice {B:Nat} {w:World} {v:Value} {l:List UInt8} (h:KJ B w v l):∃g cap,v=cx (aD ⟨g,0,av⟩) l.length cap/\B<=g:=by obtain⟨g,cap,cur,f,rfl,H,_⟩:=h;exact⟨g,cap,rfl,H⟩
theorem pV (w:World) (s:ByteArray) (hs:s.size<=1000000):∃v o,(convert 9 94 (.string s)).run Tryz.prog w=.ok v (w.drew.alloc o)/\KJ w.heap.size (w.drew.alloc o) v s.data.toList:=by
 refine⟨_,_,run_bytes_of_string (P:=Tryz.prog) w 9 94 5 s Tryz.underlying9 Tryz.underlying94 Tryz.underlying5, ?_⟩;have H:=grownCap_ge w s.size 0 5;have hle:=grownCap_le_maxLen w s.size 0 5 (by unfold maxLen;omega);have a:(bytesRow s (grownCap w s.size 0 5)).size=grownCap w s.size 0 5:=by have hd:s.data.size=s.size:=rfl;simp[bytesRow,hd];omega
 have hl:s.data.toList.length=s.size:=bk;refine⟨w.heap.size,grownCap w s.size 0 5,bytesRow s (grownCap w s.size 0 5),_,by rw[hl],ah _,heap_alloc_new w.drew _,fun j b h=>by have:=h.1;simp only at this;omega,by rw[hl];exact H,hle,a, ?_⟩;unfold bytesRow;rw[Array.toList_append,List.take_append_of_le_length (by simp),cg (by simp),Array.toList_map];rfl
def ec:Elem UInt8:=oU bV (fun _=>rfl)
theorem KM:dx Tryz.prog 94 5 ec.size:=dx.of (size:=1) (bytes:=1) (z:=.int gx 0) Tryz.underlying94 (by kernel_rfl) rfl (by decide)
abbrev gI (B:Nat) (w:World) (v:Value) (l:List UInt8):Prop:=Own ec 5 B w v l
theorem aG.qR {w w':World} {row:Option Nat} (hg:w.grownBy w' row):aG (fun x=>row=aD x) w w':=⟨hg.os,hg.tape,hg.output,hg.size,fun x h hn=>hg.block x h (fun e=>hn e.symm)⟩
def fk (z:Bool) (B:Nat) (w:World) (v:Value) (l:List UInt8):Prop:=
 ∃g cap cur f,v=cx (aD ⟨g,0,av⟩) l.length cap/\B<=g/\w.heap[g]?=aD (ey cur 5 f)/\(∀j,j<cur.size->¬(f.1<=j/\j<f.2))/\l.length<=cap/\cap<=maxLen/\cur.size=cap/\cur.toList.take l.length=l.map bV/\(z=true->f=(0,0))
variable {z:Bool}
theorem fk.but {B:Nat} {S:Nat->Prop} {w w':World} {v:Value} {l:List UInt8} (h:fk z B w v l) (a:aG S w w') (hn:∀g,v.ownBlock=aD g->¬S g):fk z B w' v l:=by obtain⟨g,cap,cur,f,rfl,b,H,h3⟩:=h;exact⟨g,cap,cur,f,rfl,b,by rw[a.block g (iY.1 H).1 (hn g rfl)];exact H,h3⟩
theorem fk.alloc {B:Nat} {w:World} {v:Value} {l:List UInt8} (h:fk z B w v l) (o:Obj):fk z B (w.alloc o) v l:=h.but ((aG.refl (fun _=>False) w).alloc o) (fun _ _ h=>h)
theorem fk.slice {B:Nat} {w:World} {v:Value} {l:List UInt8} (h:fk z B w v l):∃g cap,v=cx (aD ⟨g,0,av⟩) l.length cap/\B<=g/\g<w.heap.size/\l.length<=cap:=by obtain⟨g,cap,cur,f,rfl,H,a,_,h4,_⟩:=h;exact⟨g,cap,rfl,H,(iY.1 a).1,h4⟩
theorem fk.cell {B:Nat} {w:World} {g n cap:Nat} {l:List UInt8} (h:fk z B w (cx (aD ⟨g,0,av⟩) n cap) l) (j:Nat) (H:j<l.length):w.cell? ⟨g,j,av⟩=aD (bV l[j]):=by
 obtain⟨G,c,cur,f,e,b,a,_,_,_,_,h3,_⟩:=h;injection e with e1 e2 e3;injection e1 with e1;injection e1 with e1;subst e1;rw[cell_of_row w g j cur _ f a];have:(cur.toList.take l.length)[j]?=aD (bV l[j]):=by rw[h3,cD,aK H];rfl
 rw[List.getElem?_take,if_pos H] at this;simpa using this
theorem fk.typed {B:Nat} {w:World} {v:Value} {l:List UInt8} (h:fk z B w v l) {k:Nat} (H:v.ownBlock=aD k):∃cur f,w.heap[k]?=aD (ey cur 5 f):=by obtain⟨g,cap,cur,f,rfl,_,a,_⟩:=h;simp[Value.ownBlock] at H;subst H;exact⟨cur,f,a⟩
theorem fk.Uq {B:Nat} {w:World} {g n cap:Nat} {l:List UInt8} (h:gI B w (cx (aD ⟨g,0,av⟩) n cap) l):fk true B w (cx (aD ⟨g,0,av⟩) n cap) l:=by
 rcases h.2 with⟨e,_⟩|⟨G,c,cur,e,hg,hh,hc,a,hs,H⟩;·cases e
 ·injection e with e1 e2 e3;injection e1 with e1;injection e1 with e1;subst e1 e2 e3;refine⟨g,cap,cur,(0,0),rfl,hg,hh,fun j _ h=>by have:=h.2;simp only at this;omega,hc,a, ?_, ?_,fun _=>rfl⟩;·rw[show ec.size=1 from rfl,Nat.mul_one] at hs;exact hs
  ·rw[show ec.cells l=l.map bV from cV _ _ _,show ec.size=1 from rfl,Nat.mul_one] at H;exact H
theorem fk.const (w:World) (l:List UInt8) (hn:l.length<=1000000):fk false 0 (w.alloc (ey (l.map bV).toArray 5 (l.length,l.length+1))) (cx (aD ⟨w.heap.size,0,av⟩) l.length l.length) l:=
 ⟨w.heap.size,l.length,(l.map bV).toArray,(l.length,l.length+1),rfl,aB _,heap_alloc_new w _,fun j H h=>by have:=h.1;simp at H;simp only at this;omega,ah _,by unfold maxLen;omega,by simp,by rw[cg (by simp)],fun h=>by cases h⟩
theorem sA {B:Nat} {w:World} {v:Value} {l:List UInt8} {ops:Array Oper} {rest:List Oper} {o:Oper} {a:Act} {Q:Exit->Act->World->Prop} (e:o.guard=av) (s x:Operand)
  (A:o.op=.call {callee:=.builtin .append,args:=#[s,x],argTypes:=#[94,94]})
  (hs:a.eval s=v) (hown:fk z B w v l) (C:B<=w.heap.size) (g:Nat) (c:UInt8) (D:a.eval x=.slice (aD ⟨g,0,av⟩) 1 1) (hc:w.cell? ⟨g,0,av⟩=aD (bV c)) (t:l.length<=900000000)
  (h:∀v' w',fk z B w' v' (l++[c])->aG (fun k=>v.ownBlock=aD k) w w'->(v'.ownBlock=v.ownBlock\/∀k,v'.ownBlock=aD k->w.heap.size<=k)->wpList Tryz.prog ops Q rest (a.put o.dst v') w'):wpList Tryz.prog ops Q (o::rest) a w:=by
 obtain⟨i,hi,F,b,m⟩:=kY (P:=Tryz.prog) (E:=5) (size:=1) (bytes:=1) (z:=.int gx 0) (by kernel_rfl);obtain⟨G,cap,cur,f,rfl,I,n,h3,h4,J,L,y,p⟩:=hown;have d:∃v' w',(Builtin.append_ #[94,94] o.type #[.slice (aD ⟨G,0,av⟩) l.length cap,.slice (aD ⟨g,0,av⟩) 1 1]).run Tryz.prog w=.ok v' w'/\fk z B w' v' (l++[c])/\aG (fun k=>aD G=aD k) w w'/\(v'.ownBlock=aD G\/∀k,v'.ownBlock=aD k->w.heap.size<=k):=by
  by_cases H:l.length+1<=cap;·refine⟨_,_,pL w 94 o.type 5 i Tryz.underlying94 hi b G l.length cap cur f n (h3 _ (by omega)) ⟨g,0,av⟩ (bV c) hc rfl H (by omega),⟨G,cap,cur.setIfInBounds l.length (bV c),f,by simp,I,setRow_heap w G cur _ _ f n,by simpa using h3,by simpa using H,J,by simpa using L, ?_,p⟩,(aG.refl _ w).setRow G _ (fun _=>rfl),dc rfl⟩;rw[Array.toList_setIfInBounds,au,ew,cC (by simp;omega),List.getElem_set_self,List.take_set,bQ];rw[List.set_eq_of_length_le (by rw[aO];omega),y];rfl
  ·have holds:∀j u,(l.map bV)[j]?=aD u->w.cell? ((⟨G,0,av⟩:Addr).add j)=aD u:=by
    intro j u hu;rw[show (⟨G,0,av⟩:Addr).add j=⟨G,j,av⟩ by unfold Addr.add;split<;>simp_all,cell_of_row w G j cur _ f n];rw[<-y] at hu;by_cases S:j<l.length;·grind
    ·grind
   have hr:=run_append_grow (P:=Tryz.prog) w 94 o.type 5 i (.int gx 0) Tryz.underlying94 hi F ⟨G,0,av⟩ l.length cap (l.map bV) (by rw[b];simp) holds ⟨g,0,av⟩ 1 1 [bV c] (by rw[b];rfl) (fun j u hu=>by
    cases j with
    |zero=>simp at hu;subst hu;simpa[Addr.add] using hc
    |succ j=>simp at hu) (by omega) (by omega) (growslice_fits (by omega) (by rw[m];omega))
   have q:=grownCap_ge w (l.length+1) cap 5;have hle:=grownCap_le_maxLen w (l.length+1) cap 5 (by unfold maxLen;omega);refine⟨_,_,hr,⟨w.heap.size,grownCap w (l.length+1) cap 5,_,(0,0),by simp,C,heap_alloc_new w.drew _,fun j _ h=>by have:=h.2;simp only at this;omega,by simpa using q,hle, ?_, ?_,fun _=>rfl⟩,(aG.refl _ w).drew.alloc _,dn fun k M=>by simp[Value.ownBlock] at M;omega⟩;·simp only[Array.size_append,List.size_toArray,aT,size_zeroCells,ew];show l.length+1+(grownCap w (l.length+1) cap 5-(l.length+1))*1=_;omega
   ·grind
 obtain⟨v',w',hr,N,O,r⟩:=d;refine wpList_plain e fun K R=> ?_;unfold Oper.wp execOp;simp only[A,resolve,invoke,builtin,Sem.run_bind,Sem.run_pure,Result.andThen_ok,List.map_toArray,bM,List.map_nil,hs,D,hr];exact R _ _ (h v' w' N O r)
theorem fk.back {B:Nat} {w:World} {v:Value} {l:List UInt8} (h:fk z B w v l):(convert 94 9 v).run Tryz.prog w=.ok (bR (bs l)) w:=by
 obtain⟨g,cap,rfl,_⟩:=h.slice
 exact run_convert_bytes_back (P:=Tryz.prog) w 94 9 5 ⟨g,0,av⟩ cap l (by kernel_rfl) (by kernel_rfl) (by kernel_rfl) (by
  intro i hi;rw[show (⟨g,0,av⟩:Addr).add i=⟨g,i,av⟩ by unfold Addr.add;split<;>simp_all];exact h.cell i hi)
theorem BP (w j n:Nat) (h:j<w):Wl.enc (j+1) (n/256^(w-(j+1)))=Wl.enc j (n/256^(w-j))++[bz (n/256^(w-(j+1)))]:=by rw[Wl.enc,Nat.div_div_eq_div_mul,<-Nat.pow_succ,show (w-(j+1)).succ=w-j by omega]
theorem sB (n k:Nat):(n:Int)/2^(8*k)%256=((bz (n/256^k)).toNat:Int):=by
 have e:(n:Int)/2^(8*k)=((n/256^k:Nat):Int):=by rw[Int.natCast_ediv];congr 1;rw[show (256:Nat)=2^8 from rfl,<-Nat.pow_mul,Int.natCast_pow];rfl
 rw[e,eF];omega
theorem sC (z:Bool) (B:Nat) (w:World) (v:Value) (l:List UInt8) (n width:Nat) (hown:fk z B w v l) (g:B<=w.heap.size) (hl:l.length<=800000000) (hn:n<2^64) (D:width<=8):
  Calls Tryz.prog 99 #[v,bf dg n,bf cu width] w fun e w'=>∃v',e=eb v'/\fk z B w' v' (l++Wl.enc width n)/\aG (fun k=>v.ownBlock=aD k) w w'/\(v'.ownBlock=v.ownBlock\/∀k,v'.ownBlock=aD k->w.heap.size<=k):=by
 have Y:(width:Int)<=8:=by omega
 have q:=aa hown;have r:=aa g;have E:=aa hn;clear hown g hn;go_enter Tryz.func99,Tryz.ntmps99;go_wp2
 go_loopw [0,7] (fun u i wr=>∃j:Nat,j<=width/\i=bf cu ((width:Int)-1-j)/\Hid (fk z B wr u (l++Wl.enc j (n/256^(width-j))))/\Hid (aG (fun k=>v.ownBlock=aD k) w wr)/\Hid (u.ownBlock=v.ownBlock\/∀k,u.ownBlock=aD k->w.heap.size<=k)) (fun _ i _=>((RowKit.intOf i)+1).toNat)
 case atStart=>refine⟨0,aB _,by simp,aa ?_,aa (aG.refl _ _),aa (dc rfl)⟩;rw[Wl.enc,bA];exact q.o
 case round=>
  obtain⟨j,m,rfl,p,c,R⟩:=hrel;by_cases H:j<width
  ·obtain⟨k,a⟩:∃k:Nat,(width:Int)-1-j=k:=⟨width-1-j,by omega⟩;have s:(k:Int)<=7:=(by omega);have P:(0:Int)<=k:=(by omega);have t:=aa (show k=width-(j+1) by omega);have d:=aa (And.intro H m);rw[a];have U:=aa a;clear a H m Y;have y:=aa (sB n k);go_wp2_with (at_builtin;refine Hid.o ?_);refine aa ?_;rw[y.o];refine sA rfl _ _ rfl rfl (p.o.alloc _) (by have:=r.o;have:=c.o.size;simp;omega) wr.heap.size (bz (n/256^k)) rfl ((aU.new wr #[bf gx ((bz (n/256^k)).toNat:Int)] 5).cell rfl) (by rw[au,Wl.cE];have:=d.o;omega) ?_;intro v' W G K x
   have f:=aa (show fk z B W v' (l++Wl.enc (j+1) (n/256^(width-(j+1))))/\aG (fun k=>v.ownBlock=aD k) w W/\(v'.ownBlock=v.ownBlock\/∀k,v'.ownBlock=aD k->w.heap.size<=k) by
    have A:=c.o.size;refine⟨?_, ?_, ?_⟩;·rw[BP width j n d.o.1,<-aF,<-t.o];exact G
    ·refine (c.o.alloc _).trans K fun i hi e=> ?_;rcases R.o with h|h;·rw[<-h];exact e
     ·have:=h i e;omega
    ·rcases x with h|h;·rw[h];exact R.o
     ·exact dn fun k a=>by have:=h k a;simp at this;omega)
   clear G K x;go_wp2;go_roundw
   case rel=>exact⟨j+1,d.o.1,congrArg (Value.int cu) (by have:=U.o;omega),aa f.o.1,aa f.o.2.1,aa f.o.2.2⟩
   case measure=>have:=U.o;simp[RowKit.intOf]<;>omega
  ·have C:j=width:=(by omega);subst C;have b:(j:Int)-1-j=-1:=(by omega);rw[b];go_wp2;go_ret;refine⟨_,rfl, ?_,c.o,R.o⟩;have:=p.o
   rwa [Nat.sub_self,Nat.pow_zero,Nat.div_one] at this
theorem mh (s:ByteArray) (k:Nat) (h:k<s.size):s.data.toList.take (k+1)=s.data.toList.take k++[s[k]]:=by rw[cC (by simpa using h)];rfl
theorem Gm (a b:Nat) (ha:a<2^56) (c:b<256):bits .or dg ((a:Int)*256) (b:Int)=((a*256+b:Nat):Int):=by
 have h:(BitVec.ofInt 64 ((a:Int)*256)).toNat=a*256:=by simp_all;omega
 have H:(BitVec.ofInt 64 (b:Int)).toNat=b:=by grind
 have key:(BitVec.ofInt 64 ((a:Int)*256)|||BitVec.ofInt 64 (b:Int)).toNat=a*256+b:=by rw[BitVec.toNat_or,h,H,show a*256=a<<<8 from by rw[Nat.shiftLeft_eq],<-Nat.shiftLeft_add_eq_or_of_lt (by omega:b<2^8)]
 show IntKind.u64.wrap ((BitVec.ofInt 64 ((a:Int)*256)|||BitVec.ofInt 64 (b:Int)).toNat:Nat)=_;rw[key,IntKind.wrap_u64];omega
def KN:Value->Nat
 |bR t=>t.size
 |_=>0
def Ox (l:List UInt8) (c:UInt8) (t:List UInt8):Prop:=∃m,m<=l.length/\t=l.take m/\(∀i,m<=i->i<l.length->l[i]?=aD c)/\(0<m->l[m-1]?≠aD c)
def Ut (l:List UInt8) (c:UInt8) (t:List UInt8):Prop:=∃m,m<=l.length/\t=l.drop m/\(∀i,i<m->l[i]?=aD c)/\(m<l.length->l[m]?≠aD c)
theorem KO {l t u:List UInt8} (a:Ox l 0 t) (b:Ut t 0 u):u=[]↔Wl.blank l=true:=by
 obtain⟨m,H,rfl,ha,c⟩:=a;obtain⟨j,d,rfl,hc,hd⟩:=b;rw[aO,ct H] at d hd;unfold Wl.blank;rw[List.all_eq_true,List.drop_eq_nil_iff,aO,ct H];constructor
 ·intro e;have f:m=0:=by
   rcases Nat.eq_zero_or_pos m with h|h;·exact h
   ·exfalso;have:=hc (m-1) (by omega);rw[List.getElem?_take_of_lt (by omega)] at this;exact c h this
  intro x g;obtain⟨i,hi,rfl⟩:=List.mem_iff_getElem.1 g;have:=ha i (by omega) hi;rw[aK hi] at this;injection this with this;rw[this];rfl
 ·grind [aK,bI,Nat.eq_zero_or_pos]
theorem get_eq (t:ByteArray) (k:Nat) (h:k<t.size):t.data.toList[k]?=aD t[k]:=by rw[aK (by rw[bk];exact h)];rfl
theorem byte_eq {a b:UInt8} (h:((a.toNat:Int)==(b.toNat:Int))=true):a=b:=by rw[beq_iff_eq] at h;exact UInt8.toNat_inj.1 (by omega)
theorem Gn {a b:UInt8} (h:((a.toNat:Int)==(b.toNat:Int))=false):a≠b:=by grind
theorem xX (s:ByteArray) (c:UInt8) (w:World) (hs:s.size<=9223372036854775807):
  Calls Tryz.prog 146 #[bR s,bf gx c.toNat] w fun e w'=>(∃t:ByteArray,e=eb (bR t)/\Ox s.data.toList c t.data.toList)/\w'=w:=by
 go_enter Tryz.func146,Tryz.ntmps146;go_wp2
 go_loop [0] (fun v=>∃t:ByteArray,v=bR t/\Hid (t.data.toList=s.data.toList.take t.size)/\t.size<=s.size/\Hid (∀i,t.size<=i->i<s.size->s.data.toList[i]?=aD c)) KN
 case atStart=>exact⟨s,rfl,aa (by rw[cg (by rw[bk];exact ah _)]),ah _,aa fun i a H=>by omega⟩
 case round=>
  obtain⟨t,rfl,b,d,hc⟩:=hrel;by_cases n:0<t.size
  ·have T:(0:Int)<t.size:=(by omega);have j:t.size-1<t.size:=(by omega);have u:(t.size:Int)-1=((t.size-1:Nat):Int):=(by omega);have p:(t.size:Int)<=9223372036854775807:=(by omega);have m:=aa (get_eq t (t.size-1) j);go_wp2
   ·have q:=byte_eq ‹_›;have k:(t.extract 0 (t.size-1)).size=t.size-1:=(by rw[j6,aP,aO,bk];show min _ t.size=_;omega);refine⟨⟨_,rfl,aa ?_,by omega,aa fun i a H=> ?_⟩,by change (t.extract 0 (t.size-1)).size<t.size;omega⟩;·rw[k,j6,bS,b.o,List.take_take,ct (by omega)]
    ·rcases Nat.lt_or_ge i t.size with hi|hi;·have Y:i=t.size-1:=(by omega);have f:=m.o;rw[b.o,List.getElem?_take_of_lt j] at f;rw[Y,f,q]
     ·exact hc.o i hi H
   ·have l:=Gn ‹_›;go_ret;refine⟨⟨t,rfl,t.size,by rw[bk];exact d,b.o,fun i a H=>hc.o i a (by rw[bk] at H;exact H),fun _ f=>l ?_⟩,rfl⟩;have g:=m.o;rw[b.o,List.getElem?_take_of_lt j,f] at g;injection g with g;exact g.symm
  ·have T:¬(0:Int)<t.size:=(by omega);go_wp2;go_ret;exact⟨⟨t,rfl,t.size,by rw[bk];exact d,b.o,fun i a H=>hc.o i a (by rw[bk] at H;exact H),fun h=>absurd h n⟩,rfl⟩
theorem z7 (s:ByteArray) (c:UInt8) (w:World) (hs:s.size<=9223372036854775807):
  Calls Tryz.prog 145 #[bR s,bf gx c.toNat] w fun e w'=>(∃t:ByteArray,e=eb (bR t)/\Ut s.data.toList c t.data.toList)/\w'=w:=by
 go_enter Tryz.func145,Tryz.ntmps145;go_wp2
 go_loop [0] (fun v=>∃t:ByteArray,v=bR t/\Hid (t.data.toList=s.data.toList.drop (s.size-t.size))/\t.size<=s.size/\Hid (∀i,i<s.size-t.size->s.data.toList[i]?=aD c)) KN
 case atStart=>exact⟨s,rfl,aa (by rw[Nat.sub_self,List.drop_zero]),ah _,aa fun i H=>by omega⟩
 case round=>
  obtain⟨t,rfl,a,l,hc⟩:=hrel;by_cases m:0<t.size
  ·have T:(0:Int)<t.size:=(by omega);have Q:(1:Int)<=t.size:=(by omega);have k:=aa (get_eq t 0 m);go_wp2
   ·have n:=byte_eq ‹_›;have f:(t.extract 1 t.size).data.toList=t.data.toList.drop 1:=l8 t 1;have g:(t.extract 1 t.size).size=t.size-1:=(by rw[ByteArray.size_extract];omega);refine⟨⟨_,rfl,aa ?_,by omega,aa fun i H=> ?_⟩,by change (t.extract 1 t.size).size<t.size;omega⟩;·rw[f,g,a.o,List.drop_drop];congr 1;omega
    ·rcases Nat.lt_or_ge i (s.size-t.size) with hi|hi;·exact hc.o i hi
     ·have Y:i=s.size-t.size:=(by omega);have b:=k.o;rw[a.o,List.getElem?_drop,d_] at b;rw[Y,b,n]
   ·have j:=Gn ‹_›;go_ret;refine⟨⟨t,rfl,s.size-t.size,by rw[bk];exact Nat.sub_le _ _,a.o,fun i H=>hc.o i H,fun _ b=>j ?_⟩,rfl⟩;have d:=k.o;rw[a.o,List.getElem?_drop,d_,b] at d;injection d with d;exact d.symm
  ·have T:¬(0:Int)<t.size:=(by omega);go_wp2;go_ret;refine⟨⟨t,rfl,s.size-t.size,by rw[bk];exact Nat.sub_le _ _,a.o,fun i H=>hc.o i H,fun h=> ?_⟩,rfl⟩;rw[bk] at h;have:s.size=s.data.size:=rfl;omega
end
end Go.Proofs.YtlpfhjbpknbndaaGreatDoor
