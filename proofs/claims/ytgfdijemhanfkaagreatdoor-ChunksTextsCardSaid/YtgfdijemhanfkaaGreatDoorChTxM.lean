/- A part of the law. -/
import Derived.Test.YtgfdijemhanfkaaGreatDoorP37
import Derived.Test.YtgfdijemhanfkaaGreatDoorChAllM
import Derived.Test.YtgfdijemhanfkaaGreatDoorTMapM
import Derived.Test.YtgfdijemhanfkaaGreatDoorPTk
set_option linter.unusedSimpArgs false
set_option linter.unusedVariables false
set_option maxRecDepth 100000
set_option maxHeartbeats 8000000
namespace Go.Proofs.YtgfdijemhanfkaaGreatDoor
open _root_.Go.Proofs.Tryz
open Option renaming some→av,none→aK
open Value renaming string→cu,bool→ey,int→bf,tuple→ec,slice→cx
open IntKind renaming i64→ct
open Ending renaming returned→c8
open Or renaming inl→cS,inr→dc
open List renaming mem_cons->aM,mem_cons_self->au,mem_cons_of_mem->aH,length_cons->a_,length_append->aq
open UInt8 renaming ofNat->az
open Nat renaming le_refl->af,zero_add->bG
open World renaming size_alloc->aY
open Bool renaming and_eq_true->fk
section
open Go.RowKit Go.Maps Lib
theorem eC:prog.underlying 9=av .string:=underlying9
theorem Ht:prog.underlying 4=av .bool:=underlying4
theorem rI:prog.underlying 45=av (.map 9 9):=underlying45
theorem L5:prog.underlying 47=av (.map 9 4):=underlying47
theorem Hu (w:World):(zeroValue 9).run prog w=.ok (cu (bs [])) w:=η
theorem S7 (w:World):(zeroValue 4).run prog w=.ok (ey false) w:=η
abbrev L6 (w:World) (b:Nat) (l:List (Ch.Text×Ch.Text)):Prop:=iK prog 9 9 encS w b l
abbrev W8 (w:World) (b:Nat) (l:List (Ch.Text×Bool)):Prop:=iK prog 9 4 Ze w b l
structure xL (cs:List Ch.C) (l:List (Ch.Text×Ch.Text)):Prop where
 Z5:∀x∈l,∃c∈cs,c.text=x.1/\c.id=x.2
 ab_:∀c∈cs,(c.text,c.id)∈l
 len:l.length=cs.length
theorem xL.nil:xL [] []:=⟨fun _ h=>χ,fun _ h=>χ,rfl⟩
theorem xL.ins {cs:List Ch.C} {l:List (Ch.Text×Ch.Text)} {c:Ch.C} (h:xL cs l) (hn:Ch.find cs c.id=aK):xL (Ch.ins cs c) ((c.text,c.id)::l):=by
 have hp:=Ch.ud hn;refine⟨fun x H=> ?_,fun d hd=> ?_, ?_⟩
 ·rcases aM.1 H with rfl|H;·exact⟨c,hp.mem_iff.2 au,rfl,rfl⟩
  ·obtain⟨d,hd,e⟩:=h.Z5 x H;exact⟨d,hp.mem_iff.2 (aH _ hd),e⟩
 ·rcases aM.1 (hp.mem_iff.1 hd) with rfl|hd;·exact au
  ·exact aH _ (h.ab_ d hd)
 ·rw[hp.length_eq,a_,a_,h.len]
structure CX (w:World) (sb rb q k:Nat) (l l':List (Ch.Text×Ch.Text)) (cs:List Ch.C) (X:World):Prop where
 st:KS w cX sb rb 200 cs [] 0 (60000*k) (fun i=>i=sb\/i=q) (fun Y=>L6 Y q l) X
 fit:Ch.Fit cs [] 0
 few:cs.length<=k
 kf:xL cs l'
 blocks:w.heap.size<=q/\q≠rb/\q≠sb
set_option maxRecDepth 10000
section
variable {w X X':World} {sb rb q k:Nat} {l l':List (Ch.Text×Ch.Text)} {cs:List Ch.C} {t id:Ch.Text}
theorem Zf {m:Nat} (h:m<=20):kG m+kG ([]:List Ch.Rc).length+m+23<=200:=by have H:=AP h;have e:kG 20=54:=rfl;have E:kG ([]:List Ch.Rc).length=0:=rfl;omega
theorem CX.put (h:CX w sb rb q k l l cs X) (i:jC w) (n:k<20) (f:1<=t.length) (g:t.length<=128):
  Calls prog 10 #[ptr sb,cu (bs t)] X fun e X'=>∃id:Ch.Text,id.length=33/\
   ((e=c8 (ec #[cu (bs id),ey false,bf ct 0])/\(t,id)∈l/\CX w sb rb q (k+1) l l cs X')\/
   (e=c8 (ec #[cu (bs id),ey true,bf ct 0])/\(∀x∈l,x.1≠t)/\∃cs',CX w sb rb q (k+1) l ((t,id)::l) cs' X')):=by
 have hf:=h.few
 refine (AZ h.st i Ch.iq h.fit.up h.fit.nm h.fit.one κ f g κ (Zf κ) ξ).mono ?_
 rintro e X' (⟨c,hc,rfl,rfl,b⟩|⟨d,j,a,rfl,_,_,H,_,ha,b⟩)
 ·exact⟨c.id,(h.fit.one c hc).id,cS ⟨rfl,h.kf.ab_ c hc,b.more κ,h.fit,κ,h.kf,h.blocks⟩⟩
 ·refine⟨_, ?_,dc ⟨rfl,fun x m e=> ?_,_,by rw[show 60000*(k+1)=60000*k+60000 by omega];exact b,h.fit.ins f g ha H, ?_, ?_,h.blocks⟩⟩;·rw[aq,Ch.iq];rfl
  ·obtain⟨c,hc,E,_⟩:=h.kf.Z5 x m;exact d c hc (E.trans e)
  ·rw[(Ch.ud (c:=⟨Sha.print t++[az j],a,t,0⟩) H).length_eq,a_];omega
  ·exact h.kf.ins (c:=⟨Sha.print t++[az j],a,t,0⟩) H
theorem CX.yes (h:CX w sb rb q k l l' cs X) (H:(t,id)∈l) (a:t.length<=128):(Instr.lookup 45 (.map (av q)) (cu (bs t)) true).run prog X=.ok (ec #[cu (bs id),ey true]) X:=
 iK.S6 h.st.q eC eC rI (Hu X) H κ
theorem CX.no (h:CX w sb rb q k l l' cs X) (H:∀x∈l,x.1≠t) (a:t.length<=128):(Instr.lookup 45 (.map (av q)) (cu (bs t)) true).run prog X=.ok (ec #[cu (bs []),ey false]) X:=
 iK.VU h.st.q eC eC rI (Hu X) H κ
theorem CX.turned (h:CX w sb rb q k l l' cs X) (H:L6 X' q l') (hg:X.grownBy X' (av q)):CX w sb rb q k l' l' cs X':=by refine⟨h.st.fN (S:=fun i=>i=q) ((aE.dK hg).mono fun x _ e=>zaM) (fun i e=>⟨dc e,by rw[e];exact h.blocks⟩) (fun X2 a=> ?_),h.fit,h.few,h.kf,h.blocks⟩;exact H.but a fun hn=>hn (dc rfl)
theorem CX.note (h:CX w sb rb q k l l' cs X) (d:k<=20) (f:t.length<=128) (hi:id.length=33) (c:(l'=l/\(t,id)∈l)\/(l'=(t,id)::l/\∀x∈l,x.1≠t)):
  ∃X',(Instr.mapUpdate 45 (.map (av q)) (cu (bs t)) (cu (bs id))).run prog X=.ok () X'/\CX w sb rb q k l' l' cs X':=by
 have hl:=h.kf.len;have hf:=h.few;rcases c with⟨rfl,H⟩|⟨rfl,H⟩;·obtain⟨X',e,E,b⟩:=iK.same h.st.q eC rI H κ κ (CW eC κ);exact⟨X',e,h.turned E b⟩
 ·obtain⟨X',e,E,b⟩:=iK.new (a:=id) h.st.q eC rI H κ (by rw[a_] at hl;omega) (CW eC κ);exact⟨X',e,h.turned E b⟩
theorem CX.below (h:CX w sb rb q k l l' cs X):Below w.heap.size w X:=h.st.below
end
theorem OM {w X:World} {sb rb:Nat} (h:KS w cX sb rb 200 [] [] 0 0 (fun k=>k=sb) (fun _=>True) X):CX w sb rb X.heap.size 0 [] [] [] (X.alloc (.map #[] 0)):=by
 have H:=h.Y5;have hs:=H.2.1 sb rfl;have a:L6 (X.alloc (.map #[] 0)) X.heap.size []:=iK.made prog 9 9 encS X;refine⟨h.hold ((Below.refl _ X).alloc (af _) _) (fun i hi=> ?_) (cS rfl) fun X2 _ A=>a.but A fun hn=>hn (dc rfl),Ch.Fit.nil,af _,xL.nil,H.2.2,κ,κ⟩;rcases hi with hi|hi;·exact cS hi
 ·exact dc zbe
structure CY (w:World) (sb rb q m r:Nat) (l:List (Ch.Text×Ch.Text)) (cs:List Ch.C) (D:DataW Unit) (left:Lit->Bool) (cnt:Nat) (ml:List (Ch.Text×Bool)) (X:World):Prop where
 st:KS w cX sb rb 200 cs [] 0 1200000 (fun i=>i=sb\/i=q\/i=m\/i=r) (fun Y=>Y.ranges prog 9 (plainElem prog 9) q r l.length D left cnt/\W8 Y m ml) X
 fit:Ch.Fit cs [] 0
 cH:rT encS l D
 kf:xL cs l
 apart:∀x∈l,left (.string x.1)=true->∀y∈ml,y.1≠x.2
 cnt:ml.length+cnt<=l.length
 few:l.length<=20
 bm:w.heap.size<=m/\m≠rb/\m≠sb/\m≠q
 br:w.heap.size<=r/\r≠rb/\r≠sb/\r≠m
section
variable {w X X':World} {sb rb q m r k cnt cnt':Nat} {l l':List (Ch.Text×Ch.Text)} {cs:List Ch.C} {t id:Ch.Text} {D:DataW Unit} {left:Lit->Bool} {ml:List (Ch.Text×Bool)}
theorem CX.range (h:CX w sb rb q k l l cs X) (f:k<=20) {Y:World} {D:DataW Unit} (b:rT encS l D) (hr:Y.ranges prog 9 (plainElem prog 9) q (X.heap.size+1) l.length D (Maps.has D) (Maps.size D)) (hg:(X.alloc (.map #[] 0)).grownBy Y aK) (hs:Y.heap.size=X.heap.size+2):
  CY w sb rb q X.heap.size (X.heap.size+1) l cs D (Maps.has D) (Maps.size D) [] Y:=by
 have H:=h.st.Y5;have hl:=h.kf.len;have hf:=h.few;have a:Below X.heap.size X (X.alloc (.map #[] 0)):=(Below.refl _ X).alloc (af _) _;have c:Below X.heap.size X Y:=a.trans ⟨hg.os,hg.tape,hg.output,hg.size,fun i hi=>hg.block i zbe ν⟩;have d:W8 Y X.heap.size []:=(iK.made prog 9 4 Ze X).kept hg ν;have g:=H.2.1 q (dc rfl);have e:=H.2.1 sb (cS rfl);refine⟨?_,h.fit,b,h.kf,fun _ _ _ _ hy=>(by cases hy),by rw[b.sz];exact Nat.le_of_eq (bG _),κ,⟨H.2.2,κ,κ,κ⟩,⟨κ,κ,κ,κ⟩⟩;refine (h.st.more (show 60000*k<=1200000 by omega)).hold c (fun i hi=> ?_) (cS rfl) fun X2 _ A=>⟨tF hr A (fun hn=>hn (dc (cS rfl))) (fun hn=>hn (dc (dc (dc rfl)))),d.but A fun hn=>hn (dc (dc (cS rfl)))⟩;rcases hi with hi|hi|hi|hi;·exact cS (cS hi)
 ·exact cS (dc hi)
 ·exact dc κ
 ·exact dc κ
theorem CY.next (h:CY w sb rb q m r l cs D left cnt ml X) {x:Ch.Text} (hr:X'.ranges prog 9 (plainElem prog 9) q r l.length D (fun z=>left z&& !z.sameKey (.string x)) cnt') (hc:cnt'<cnt) (hg:X.grownBy X' (av r)):CY w sb rb q m r l cs D (fun z=>left z&& !z.sameKey (.string x)) cnt' ml X':=by have a:=h.st.q.2.kept hg fun e=>h.br.2.2.2 (Option.some.inj e).symm;have Q:=h.cnt;refine⟨h.st.fN (S:=fun i=>i=r) ((aE.dK hg).mono fun y _ e=>zaM) (fun i e=>⟨dc (dc (dc e)),by rw[e];exact⟨h.br.1,h.br.2.1,h.br.2.2.1⟩⟩) (fun X2 H=>⟨tF hr H (fun hn=>hn (dc (cS rfl))) (fun hn=>hn (dc (dc (dc rfl)))),a.but H fun hn=>hn (dc (dc (cS rfl)))⟩),h.fit,h.cH,h.kf,fun y hy hl=>h.apart y hy (by rw[fk] at hl;exact hl.1),κ,h.few,h.bm,h.br⟩
theorem CY.step (h:CY w sb rb q m r l cs D left cnt ml X) {x c:Ch.Text} {kl:Lit} {y:DataW Unit×List MemPlace} (a:keyOf prog 9 (.string (bs x))=av kl) (b:left kl=true) (e:plainElem (H:=Unit) prog 9 (.string (bs c))=av y) (hat:∀Z,D.atKey kl Z=y.1)
  (hr:X'.ranges prog 9 (plainElem prog 9) q r l.length D (fun z=>left z&& !z.sameKey kl) cnt') (hc:cnt'<cnt) (hg:X.grownBy X' (av r)):
  (x,c)∈l/\(∀y∈ml,y.1≠c)/\ml.length+1+cnt'<=l.length/\CY w sb rb q m r l cs D (fun z=>left z&& !z.sameKey (.string x)) cnt' ml X':=by
 obtain⟨g,E,rfl⟩:=qL eC a;obtain rfl:=QI (by injection E);obtain⟨c',f,rfl⟩:=sC eC e;obtain rfl:=QI (by injection f);have d:=h.cH.met hat;have Q:=h.cnt;exact⟨d,h.apart _ d b,κ,h.next hr hc hg⟩
theorem CY.get (h:CY w sb rb q m r l cs D left cnt ml X) (H:(t,id)∈l):
  Calls prog 14 #[ptr sb,cu (bs id)] X fun e X'=>e=c8 (ec #[cu (bs t),bf ct 0])/\CY w sb rb q m r l cs D left cnt ml X':=by
 obtain⟨c,hc,E,a⟩:=h.kf.Z5 _ H;simp only at E a;have hf:=Ch.TV h.fit.up hc;rw[a] at hf;refine (S0 h.st h.fit.one hf).mono ?_;rintro e X' ⟨rfl,b⟩;rw[E];exact⟨rfl,b,h.fit,h.cH,h.kf,h.apart,h.cnt,h.few,h.bm,h.br⟩
theorem CY.S8 (h:CY w sb rb q m r l cs D left cnt ml X) (H:(t,id)∈l):id.length=33:=by obtain⟨c,hc,_,e⟩:=h.kf.Z5 _ H;rw[<-show c.id=id from e];exact (h.fit.one c hc).id
theorem CY.off (h:CY w sb rb q m r l cs D left cnt ml X) (hi:id.length=33) (hn:∀y∈ml,y.1≠id):(Instr.lookup 47 (.map (av m)) (cu (bs id)) false).run prog X=.ok (ey false) X:=
 iK.off h.st.q.2 eC Ht L5 (S7 X) hn κ
theorem CY.mark (h:CY w sb rb q m r l cs D (fun z=>left z&& !z.sameKey (.string t)) cnt ml X) (b:(t,id)∈l) (hn:∀y∈ml,y.1≠id) (hc:ml.length+1+cnt<=l.length):
  ∃X',(Instr.mapUpdate 47 (.map (av m)) (.string (bs id)) (.bool true)).run prog X=.ok () X'/\CY w sb rb q m r l cs D (fun z=>left z&& !z.sameKey (.string t)) cnt ((id,true)::ml) X':=by
 have j:=h.few;have k:=h.S8 b;obtain⟨X',n,o,E⟩:=iK.new (a:=true) h.st.q.2 eC L5 hn κ κ (plainElem_bool Ht true);have p:=h.st.q.1.kept E (fun e=>h.bm.2.2.2 (Option.some.inj e).symm) (fun e=>h.br.2.2.2 (Option.some.inj e));refine⟨X',n,h.st.fN (S:=fun i=>i=m) ((aE.dK E).mono fun y _ e=>zaM) (fun i e=>⟨dc (dc (cS e)),by rw[e];exact⟨h.bm.1,h.bm.2.1,h.bm.2.2.1⟩⟩) (fun X2 f=>⟨tF p f (fun hn=>hn (dc (cS rfl))) (fun hn=>hn (dc (dc (dc rfl)))),o.but f fun hn=>hn (dc (dc (cS rfl)))⟩),h.fit,h.cH,h.kf,fun x g hl y hy=> ?_,by rw[a_];exact hc,h.few,h.bm,h.br⟩;rcases aM.1 hy with rfl|hy
 ·intro e;rw[fk] at hl;have H:x.1≠t:=fun e=>by rw[e] at hl;rw[WideAt.sameKey_self (a:=Lit.string t) trivial] at hl;exact absurd hl.2 ξ
  obtain⟨c,hc,c1,c2⟩:=h.kf.Z5 _ b;obtain⟨d,hd,s,u⟩:=h.kf.Z5 _ g;have:=Ch.PZ h.fit.up hc hd (by rw[c2,u];exact e);rw[this] at c1;exact H (s.symm.trans c1)
 ·exact h.apart x g hl y hy
theorem CY.all (h:CY w sb rb q m r l cs D left cnt ml X):
  Calls prog 15 #[ptr sb] X fun e X'=>∃a:Option Addr,e=c8 (ec #[cx a l.length l.length,bf ct 0])/\L6 X' q l/\Below w.heap.size w X':=by
 have c:=h.few;have hl:=h.kf.len;refine (Zg h.st h.fit.one κ).mono ?_;rintro e X' ⟨g,b,rfl,_,H⟩;rw[<-hl];exact⟨_,rfl,⟨D,(H.q.1 X' (aE.refl _ _)).1.owns,h.cH⟩,H.below⟩
end
end
end Go.Proofs.YtgfdijemhanfkaaGreatDoor
