/- A part of the law. -/
import Derived.Test.YtgfdijemhanfkaaGreatDoorP3
import Derived.Maps.OwnSet
import Derived.Maps.RangeWalk
import Derived.Lib.Hide
import Derived.Test.YtgfdijemhanfkaaGreatDoorPTk
set_option maxRecDepth 100000
set_option maxHeartbeats 8000000
namespace Go.Proofs.YtgfdijemhanfkaaGreatDoor
open Value renaming string→cu
open Option renaming some→av
open IntKind renaming i64→ct
open List renaming mem_cons->aM,mem_cons_self->au,mem_cons_of_mem->aH
open _root_.Array renaming getElem?_eq_some_iff->fY
section
open Go.RowKit Go.Maps
structure rT {α:Type} (enc:α->DataW Unit) (l:List (List UInt8×α)) (D:DataW Unit):Prop where
 sz:Maps.size D=l.length
 yes:∀x∈l,Maps.has D (.string x.1)=true/\∀z,D.atKey (.string x.1) z=enc x.2
 no:∀t,(∀x∈l,x.1≠t)->Maps.has D (.string t)=false
section
variable {α:Type} {enc:α->DataW Unit} {l:List (List UInt8×α)} {D:DataW Unit} {t:List UInt8} {a:α}
theorem Eu {s t:List UInt8} (h:s≠t):Lit.string s≠Lit.string t:=fun e=>h zbp
theorem rT.none_ (h:rT enc l D) (hn:∀x∈l,x.1≠t) (z:DataW Unit):D.atKey (.string t) z=z:=atKey_of_not_has (h.no t hn) z
theorem rT.made:rT enc [] (.map []):=⟨rfl,fun _ h=>χ,fun _ _=>rfl⟩
theorem rT.new (h:rT enc l D) (c:Tidy D) (hn:∀x∈l,x.1≠t):rT enc ((t,a)::l) (D.put (Lit.string t) (enc a)):=by
 refine⟨?_,fun x H=> ?_,fun s hs=> ?_⟩;·rw[size_put c,h.no t hn,if_neg ξ,h.sz];rfl
 ·rcases aM.1 H with rfl|H;·exact⟨has_put_same c.isMap (by exact trivial) _,fun z=>atKey_put_same c.isMap (by exact trivial) _ z⟩
  ·have b:=Eu (hn x H);exact⟨by rw[has_put_other b];exact (h.yes x H).1,fun z=>by rw[atKey_put_other b];exact (h.yes x H).2 z⟩
 ·rw[has_put_other (Eu fun e=>hs _ au e.symm)];exact h.no s fun x H=>hs x (aH _ H)
theorem rT.same (h:rT enc l D) (b:Tidy D) (c:(t,a)∈l):rT enc l (D.put (Lit.string t) (enc a)):=by
 refine⟨?_,fun x d=> ?_,fun s hs=> ?_⟩;·rw[size_put b,(h.yes _ c).1,if_pos rfl,h.sz]
 ·by_cases e:x.1=t;·have f:=(h.yes x d).2 (.map []);have g:=(h.yes _ c).2 (.map []);rw[e] at f |-;exact⟨has_put_same b.isMap (by exact trivial) _,fun z=>(atKey_put_same b.isMap (by exact trivial) _ z).trans (g.symm.trans f)⟩
  ·have H:=Eu e;exact⟨by rw[has_put_other H];exact (h.yes x d).1,fun z=>by rw[atKey_put_other H];exact (h.yes x d).2 z⟩
 ·rw[has_put_other (Eu fun e=>hs _ c e.symm)];exact h.no s hs
end
def encS (t:List UInt8):DataW Unit:=.lit (.string t)
def Ze (b:Bool):DataW Unit:=.lit (.bool b)
section
variable {P:Program} {T K E:TypeId} {α:Type} {enc:α->DataW Unit} {w w':World} {b n:Nat} {l:List (List UInt8×α)} {D:DataW Unit} {t:List UInt8} {a:α}
theorem vE {R:Value->Option (DataW Unit×List MemPlace)} (h:w.ownsMap P K R b n D):w.ownsMap P K R b (Maps.size D) D:=by obtain⟨es,clock,a,F,_,H⟩:=h;refine⟨es,clock,a,F, ?_,H⟩;rw[H];simp[Maps.size,length_sorted]
def iK (P:Program) (K E:TypeId) (enc:α->DataW Unit) (w:World) (b:Nat) (l:List (List UInt8×α)):Prop:=
 ∃D,w.ownsMap P K (plainElem P E) b l.length D/\rT enc l D
theorem iK.kept {row:Option Nat} (h:iK P K E enc w b l) (hg:w.grownBy w' row) (H:av b≠row):iK P K E enc w' b l:=by obtain⟨D,a,c⟩:=h;exact⟨D,a.kept hg H,c⟩
theorem Hs {R:Value->Option (DataW Unit×List MemPlace)} {S:Φ} (h:w.ownsMap P K R b n D) (a:aE S w w') (hn:¬S b):w'.ownsMap P K R b n D:=by obtain⟨es,clock,H,r⟩:=h;exact⟨es,clock,(a.block b (fY.1 H).1 hn).trans H,r⟩
theorem iK.but {S:Φ} (h:iK P K E enc w b l) (H:aE S w w') (hn:¬S b):iK P K E enc w' b l:=by obtain⟨D,a,c⟩:=h;exact⟨D,Hs a H hn,c⟩
theorem tF {R:Value->Option (DataW Unit×List MemPlace)} {r cnt:Nat} {left:Lit->Bool} {S:Φ} (h:w.ranges P K R b r n D left cnt) (a:aE S w w') (c:¬S b) (d:¬S r):w'.ranges P K R b r n D left cnt:=by have l:=h.owns.lt;have L:=h.lt;obtain⟨es,clock,since,seen,c0,H,F,hs,e,hr,rest⟩:=h;exact⟨es,clock,since,seen,c0,(a.block b l c).trans H,F,hs,e,(a.block r L d).trans hr,rest⟩
theorem iK.made (P:Program) (K E:TypeId) (enc:α->DataW Unit) (w:World):iK P K E enc (w.alloc (.map #[] 0)) w.heap.size []:=
 ⟨.map [],World.ownsMap_made w P K _,rT.made⟩
theorem iK.len (h:iK P K E enc w b l) (H:P.underlying T=av (.map K E)) (ty:TypeId):(Builtin.len_ #[T] ty #[.map (av b)]).run P w=.ok (.int ct l.length) w:=by obtain⟨D,a,c⟩:=h;have:=a.len H ty;rw[c.sz] at this;exact this
theorem nL (a:P.underlying E=av .string) {v:Value} {t:List UInt8} {ps:List MemPlace} (h:plainElem (H:=Unit) P E v=av (.lit (.string t),ps)):v=.string (bs t):=by unfold plainElem at h;rw[a] at h;cases v<;>simp at h;obtain⟨_,rfl,_⟩:=h;rfl
theorem A3 (a:P.underlying E=av .bool) {v:Value} {x:Bool} {ps:List MemPlace} (h:plainElem (H:=Unit) P E v=av (.lit (.bool x),ps)):v=.bool x:=by unfold plainElem at h;rw[a] at h;cases v<;>simp at h;rw[h.1]
theorem A4 (h:P.underlying K=av .string) (H:t.length<=1000000):keyOf P K (.string (bs t))=av (.string t):=
 Go.WideMaps.keyOf_string_mk h (by rw[aG];unfold maxLen;omega)
theorem iK.S6 {l:List (List UInt8×List UInt8)} {a:List UInt8} (h:iK P K E encS w b l) (H:P.underlying K=av .string) (c:P.underlying E=av .string) (g:P.underlying T=av (.map K E)) (i:(zeroValue E).run P w=.ok (.string (bs [])) w) (d:(t,a)∈l) (j:t.length<=1000000):
  (Instr.lookup T (.map (av b)) (.string (bs t)) true).run P w=.ok (.tuple #[.string (bs a),.bool true]) w:=by
 obtain⟨D,k,e⟩:=h;obtain⟨v,ps,hr,f⟩:=k.look_ok (string_keyed H) g i (plainElem_string c (by rw[aG];decide)) (A4 H j);rw[(e.yes _ d).1] at hr;rw[(e.yes _ d).2] at f;rw[nL c f] at hr;exact hr
theorem iK.VU {l:List (List UInt8×List UInt8)} (h:iK P K E encS w b l) (H:P.underlying K=av .string) (a:P.underlying E=av .string) (e:P.underlying T=av (.map K E)) (f:(zeroValue E).run P w=.ok (.string (bs [])) w) (hn:∀x∈l,x.1≠t) (g:t.length<=1000000):
  (Instr.lookup T (.map (av b)) (.string (bs t)) true).run P w=.ok (.tuple #[.string (bs []),.bool false]) w:=by
 obtain⟨D,i,c⟩:=h;obtain⟨v,ps,hr,d⟩:=i.look_ok (string_keyed H) e f (plainElem_string a (by rw[aG];decide)) (A4 H g);rw[c.no t hn] at hr;rw[c.none_ hn] at d;rw[nL a d] at hr;exact hr
theorem iK.off {l:List (List UInt8×Bool)} (h:iK P K E Ze w b l) (H:P.underlying K=av .string) (a:P.underlying E=av .bool) (d:P.underlying T=av (.map K E)) (e:(zeroValue E).run P w=.ok (.bool false) w) (hn:∀x∈l,x.1≠t) (f:t.length<=1000000):
  (Instr.lookup T (.map (av b)) (.string (bs t)) false).run P w=.ok (.bool false) w:=by
 obtain⟨D,g,i⟩:=h;obtain⟨v,ps,hr,c⟩:=g.lookup (string_keyed H) d e (plainElem_bool a false) (A4 H f);rw[i.none_ hn] at c;rw[A3 a c] at hr;exact hr
theorem iK.new (h:iK P K E enc w b l) (H:P.underlying K=av .string) (d:P.underlying T=av (.map K E)) (hn:∀x∈l,x.1≠t) (f:t.length<=1000000) (hl:l.length<=1000000) {v:Value} (g:plainElem P E v=av (enc a,[])):
  ∃w',(Instr.mapUpdate T (.map (av b)) (.string (bs t)) v).run P w=.ok () w'/\iK P K E enc w' b ((t,a)::l)/\w.grownBy w' (av b):=by
 obtain⟨D,c,i⟩:=h;obtain⟨w',j,k,m⟩:=c.update (string_keyed H) d zat (A4 H f) g;have h3:=i.new (a:=a) (c.tidy (string_keyed H)) hn;have e:=vE k;rw[h3.sz] at e;exact⟨w',j,⟨_,e,h3⟩,m⟩
theorem iK.same (h:iK P K E enc w b l) (H:P.underlying K=av .string) (d:P.underlying T=av (.map K E)) (f:(t,a)∈l) (g:t.length<=1000000) (hl:l.length<=1000000) {v:Value} (i:plainElem P E v=av (enc a,[])):
  ∃w',(Instr.mapUpdate T (.map (av b)) (.string (bs t)) v).run P w=.ok () w'/\iK P K E enc w' b l/\w.grownBy w' (av b):=by
 obtain⟨D,c,j⟩:=h;obtain⟨w',k,m,n⟩:=c.update (string_keyed H) d zat (A4 H g) i;have h3:=j.same (c.tidy (string_keyed H)) f;have e:=vE m;rw[h3.sz] at e;exact⟨w',k,⟨_,e,h3⟩,n⟩
theorem CW (h:P.underlying E=av .string) (H:t.length<=1000000):plainElem P E (.string (bs t))=av (encS t,[]):=
 plainElem_string h (by rw[aG];unfold maxLen;omega)
theorem qL (H:P.underlying K=av .string) {key:Value} {kl:Lit} (h:keyOf P K key=av kl):∃t:List UInt8,key=.string (bs t)/\kl=.string t:=by rw[keyOf_string H] at h;cases key<;>simp[mapKey,H] at h;obtain⟨_,rfl⟩:=h;exact⟨_,rfl,rfl⟩
theorem sC (a:P.underlying E=av .string) {v:Value} {y:DataW Unit×List MemPlace} (h:plainElem (H:=Unit) P E v=av y):∃t:List UInt8,v=.string (bs t)/\y=(.lit (.string t),[]):=by unfold plainElem at h;rw[a] at h;cases v<;>simp at h;obtain⟨_,rfl⟩:=h;exact⟨_,rfl,rfl⟩
theorem rT.met {l:List (List UInt8×List UInt8)} (h:rT encS l D) {c:List UInt8} (ha:∀z,D.atKey (.string t) z=.lit (.string c)):(t,c)∈l:=by
 apply Classical.byContradiction;intro hn;by_cases a:∃x∈l,x.1=t;·obtain⟨x,a,rfl⟩:=a;have H:=(h.yes x a).2 (.map []);rw[ha] at H;unfold encS at H;injection H with H;injection H with H;rw[H] at hn;exact hn a
 ·have:=h.none_ (t:=t) (fun x b e=>a ⟨x,b,e⟩) (.map []);rw[ha] at this;cases this
end
end
end Go.Proofs.YtgfdijemhanfkaaGreatDoor
