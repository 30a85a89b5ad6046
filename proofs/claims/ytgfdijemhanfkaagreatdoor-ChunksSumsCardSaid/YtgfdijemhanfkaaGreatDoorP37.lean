/- Elder texts, cut down and merged (37). -/
import Derived.Test.YtgfdijemhanfkaaGreatDoorP36
import Derived.Test.YtgfdijemhanfkaaGreatDoorP15
import Derived.Test.YtgfdijemhanfkaaGreatDoorP19
import Derived.Test.YtgfdijemhanfkaaGreatDoorP5
import Derived.Test.YtgfdijemhanfkaaGreatDoorP1
import Derived.Deep.CutBlock
import Derived.Deep.DeepCutAuto
import Derived.Deep.RegionHeldLaw
import Derived.Test.YtgfdijemhanfkaaGreatDoorPTk
set_option linter.unusedSimpArgs false
set_option linter.unusedVariables false
set_option maxRecDepth 100000
set_option maxHeartbeats 8000000
namespace Go.Proofs.YtgfdijemhanfkaaGreatDoor
open _root_.Go.Proofs.Tryz
open Value renaming int→bf,string→cu,slice→cx,tuple→ec,bool→ey,agg→eU,pointer→dr
open IntKind renaming i64→ct
open Ending renaming returned→c8
open Option renaming none→aK,some→av
open Obj renaming cells→dg
open Or renaming inl→cS,inr→dc
open List renaming append_assoc->aD,mem_filter->dU,length_append->aq,getElem?_eq_getElem->aI,map_congr_left->mK,length_map->aL,setIfInBounds_toArray->aC,set_cons_succ->aB,set_cons_zero->ay,length_cons->a_,mem_map->bY,getElem_mem->bp,nodup_append->aP,map_cons->bI,nodup_cons->cA,mem_cons->aM,mem_cons_of_mem->aH,mem_append->ah,mem_singleton->bB,mem_cons_self->au
open UInt8 renaming ofNat->az
open Nat renaming zero_le->aA,le_refl->af,le_trans->aN
open World renaming alloc->dH
section
open Go.RowKit Lib
theorem Ku (p:List UInt8):bs (p++[255])++(⟨#[0]⟩:ByteArray)=bs (p++[255,0]):=by rw[show (⟨#[0]⟩:ByteArray)=bs [0] from rfl,vM,aD];rfl
section
variable {w X:World} {fv:Value} {sb rb n B last:Nat} {K:Φ} {Q:Ψ} {cs:List Ch.C} {rs:List Ch.Rc} {F:Ch.Text->Ch.Text}
theorem Hl (h:KS w fv sb rb n cs rs last B K Q X) (hF:∀t,(F t).length=32) (hn:Ch.sB F cs) {p:Ch.Text} (hp:p.length=32) (H:∀c∈cs,Ch.One c) (hl:cs.length<=100000):
  Calls prog 20 #[ptr sb,cu (bs p)] X fun e X'=>∃g b,e=c8 (ec #[cx (av ⟨g,0,aK⟩) (Ch.like F cs p).length (Ch.like F cs p).length,bf ct 0])/\g<b/\KS w fv sb rb n cs rs last B (LU K g b) (Ic K Q fun Y=>aW Y g 73 (dV.cells (Ch.like F cs p))) X':=by
 have j:=aa (DI p X κ);have a:(Ch.like F cs p).length<=cs.length:=List.length_filter_le _ _;have f:=aa (fun (W:World) (k:KS w fv sb rb n cs rs last B K Q W)=>L2 k p (p++[255,0]) (l:=Ch.like F cs p) (Ch.OC hF hn hp κ) (fun c hc=>H c (dU.1 hc).1) κ);have m:=aa h;have q:=Ku p;have u:(bs (p++[255])).size+(⟨#[0]⟩:ByteArray).size<=9223372036854775807:=by rw[aG,aq,hp];decide
 clear h hF hn hp H hl a;unfold ptr at f |-;generalize Ch.like F cs p=l at*;generalize bs (p++[255,0])=v at*;generalize bs (p++[255])=H0 at*;generalize bs p=L at*;go_enter func20,ntmps20;go_wp2_with fail;refine j.o.mono ?_;rintro e w1 ⟨rfl,i⟩;have r:=aa (m.o.still i);clear i;go_wp2_with fail;refine (f.o _ r.o).mono ?_;rintro e x ⟨g,b,rfl,d,s⟩;go_wp2
 go_ret2
 exact⟨g,b,rfl,d,s⟩
end
theorem Er {w:World} {g:Nat} {l:List Ch.C} (v:aW w g 73 (dV.cells l)) (p:List UInt8) (hp:p.length<=1000000) (hl:l.length<=255) {L:Nat} (y:L=l.length):
  Calls prog 22 #[cu (bs p),cx (av ⟨g,0,aK⟩) L L] w fun e w'=>∃j:Nat,e=c8 (ec #[cu (bs (p++[az j])),ey true])/\j<=255/\(∀i,i<j->∃c,l[i]?=av c/\c.id=p++[az i])/\(∀c,l[j]?=av c->c.id≠p++[az j])/\Below w.heap.size w w':=by
 have n:=aa v;have D:=aa hp;have F:=aa hl;have J:=aa y;have Z:(L:Int)<=255:=κ
 clear v hp hl y;go_enter func22,ntmps22;go_wp2
 go_loopw [8] (fun I wr=>∃k:Nat,k<=L/\I=bf ct k/\Hid ((∀i,i<k->∃c,l[i]?=av c/\c.id=p++[az i])/\Below w.heap.size w wr)) (fun I _=>256-(RowKit.intOf I).toNat)
 case atStart=>exact⟨0,aA _,rfl,aa ⟨fun i hi=>absurd hi (Nat.not_lt_zero i),Below.refl _ _⟩⟩
 case round=>
  obtain⟨k,m,rfl,H⟩:=hrel;have Y:(k:Int)<256:=κ
  have N:=aa m;have a:=aa (fun W=>zI p k W (by have:=J.o;have:=F.o;omega) D.o);by_cases f:k=L
  ·have q:((k:Int)==(L:Int))=true:=(by rw[f];exact beq_self_eq_true _);have G:=aa f;clear f m;go_wp2_with fail;refine (a.o _).mono ?_;rintro e w1 ⟨rfl,A⟩;go_wp2
   go_ret2
   exact⟨k,rfl,κ,H.o.1,(fun c h=>by rw[List.getElem?_eq_none (by rw[G.o,J.o];exact af _)] at h;cases h),H.o.2.trans (A.mono H.o.2.size)⟩
  ·have q:((k:Int)==(L:Int))=false:=beq_eq_false_iff_ne.2 κ;have E:k<l.length:=(by have:=J.o;omega);have K:(k:Int)<L:=κ;have r:=aa E;obtain⟨c,hc⟩:=ξx (l[k]'E);have z:=aa (show l[k]?=av c by rw[aI E,hc]);have x:=(nK n.o k E).1;rw[<-hc] at x;have B:=aa x;clear x;by_cases hn:c.id=p++[az k]
   ·have s:=aa hn;rw[<-hn] at a;clear f m hc hn E;go_wp2_with fail;refine (a.o _).mono ?_;rintro e w1 ⟨rfl,A⟩;have x0:=((H.o.2.trans (A.mono H.o.2.size)).cell (p:=⟨g,k*4,aK⟩) n.o.lt).trans B.o;have t:=aa (H.o.2.trans (A.mono H.o.2.size));clear A;generalize bs c.id=S at*;go_wp2;go_roundw
    case rel=>exact⟨k+1,by have:=J.o;have:=r.o;omega,ς,aa ⟨fun i hi=>by
     rcases Nat.lt_succ_iff_lt_or_eq.1 hi with hi|rfl;·exact H.o.1 i hi
     ·exact⟨c,z.o,s.o⟩,t.o⟩⟩
    case measure=>simp[RowKit.intOf];omega
   ·have s:=aa hn;have u:((bs c.id).toList==(bs (p++[az k])).toList)=false:=(by rw[bN,bN];exact beq_eq_false_iff_ne.2 hn);clear f m hc hn E;go_wp2_with fail;refine (a.o _).mono ?_;rintro e w1 ⟨rfl,A⟩;have x0:=((H.o.2.trans (A.mono H.o.2.size)).cell (p:=⟨g,k*4,aK⟩) n.o.lt).trans B.o;have t:=aa (H.o.2.trans (A.mono H.o.2.size));obtain⟨O,b⟩:∃S,S=bs (p++[az k]):=⟨_,rfl⟩;rw[<-b] at u |-;have M:=aa b;clear A b;generalize bs c.id=S at*;go_wp2
    go_ret2
    rw[M.o];exact⟨k,rfl,κ,H.o.1,(fun d h=>by rw[z.o] at h;cases h;exact s.o),t.o⟩
def ck0:Value:=eU #[cu ⟨#[]⟩,bf ct 0,bf ct 0,bf ct 0]
def ckO:Option Ch.C->Value
 |some c=>EA c
 |none=>ck0
section
variable {w X:World} {fv:Value} {sb rb n B last:Nat} {K:Φ} {Q:Ψ} {cs:List Ch.C} {rs:List Ch.Rc}
theorem Es (h:KS w fv sb rb n cs rs last B K Q X) (H:∀c∈cs,Ch.One c) (id:List UInt8):
  Calls prog 28 #[ptr sb,cu (bs id)] X fun e X'=>e=c8 (ec #[ckO (Ch.find cs id),bf ct (if (Ch.find cs id).isSome then 0 else 6)])/\KS w fv sb rb n cs rs last B K Q X':=by
 obtain⟨k,f,z,b,D⟩:=h.boxed #[cu ⟨#[]⟩,bf ct 0,bf ct 0,bf ct 0] 73;have p:=aa z;have r:=aa (show ∀Y,f Y->aW Y X.heap.size 73 [cu ⟨#[]⟩,bf ct 0,bf ct 0,bf ct 0] from D);have E:=aa b;have G:=aa (show ∀W,KS w fv sb rb n cs rs last B k f W->Calls prog 19 #[dr (av ⟨sb,0,aK⟩)] W fun e X'=>e=c8 (bf ct 0)/\Below W.heap.size W X' from fun W t=>nJ t);have F:=aa (show ∀W,KS w fv sb rb n cs rs last B k f W->Calls prog 46 #[dr (av ⟨sb,0,aK⟩)] W fun e X'=>e=c8 (dr (av ⟨W.heap.size,0,aK⟩))/\X'=W.alloc (dg #[dr (av ⟨rb,0,aK⟩),bf ct 0] 214) from fun W t=>mB t.store)
 have C:=aa (show ∀tb W,KT w fv sb rb tb 0 n (two (Ch.gT cs) (Ch.cg rs)) last (qG cs) B k f W->Calls prog 51 #[dr (av ⟨tb,0,aK⟩),cu (bs id)] W fun e X'=>e=c8 (ec #[cu (bs (((Ch.find cs id).map Ch.val).getD [])),ey ((Ch.find cs id).map Ch.val).isSome,bf ct 0])/\KS w fv sb rb n cs rs last B k f X' from fun tb W M=>by
  have:=SM (key:=id) M;rw[show two (Ch.gT cs) (Ch.cg rs) 0=Ch.gT cs from rfl,Ch.TU] at this;exact this)
 clear h z D b;unfold ptr;cases T:Ch.find cs id with
 |none=>
  rw[T] at C;have s:=aa (fun W=>JA (bs id) W);simp only[ckO,ck0,Option.isSome_none,Option.map_none,Option.getD_none] at C |-;rw[show bs ([]:List UInt8)=⟨#[]⟩ from rfl] at C;rw[if_neg ξ];obtain⟨v0,J⟩:∃v:ByteArray,v=⟨#[]⟩:=⟨_,rfl⟩;have HV:=aa J;clear T H J;generalize bs id=I at*;go_enter func28,ntmps28;go_wp2_with fail;generalize X.heap.size=O at*;generalize dH X _=X0 at*;refine (G.o _ p.o).mono ?_;rintro e w1 ⟨rfl,A⟩;have g:=aa (p.o.still A);clear A p G;go_wp2_with fail;refine (F.o _ g.o).mono ?_;rintro e P ⟨rfl,j⟩;have N:=aa (show KT w fv sb rb w1.heap.size 0 n _ last _ B k f (w1.alloc (dg #[dr (av ⟨rb,0,aK⟩),bf ct 0] 214)) from g.o.tree ξ);rw[<-j] at N;clear j g;generalize w1.heap.size=tb at*;go_wp2_with fail;refine (C.o _ _ N.o).mono ?_;rintro e w3 ⟨rfl,h3⟩;have l:=aa h3;clear h3 N;go_wp2_with fail;refine (s.o _).mono ?_;rintro e d ⟨rfl,a⟩;have m:=aa (l.o.still a);clear a l;have i:=aa (m.o.still ((Below.refl _ d).alloc (af _) (dg #[cu ⟨#[]⟩,bf ct 0,bf ct 0,bf ct 0] 73)));go_upto_if 42 with fail;clear m;generalize dH d _=R at*;generalize d.heap.size=S at*;obtain⟨U,Z,y2,y3,z0,z1,z2,z3⟩:=four (r.o _ i.o.q);go_wp2;obtain⟨u,x⟩:=Nk (r.o _ i.o.q) (cu ⟨#[]⟩) (bf ct 0) (bf ct 0) (bf ct 0);try simp only[Exit.inBlock,Exit.then]
  refine bodyPost_ret (wE rfl _ rfl u) rfl ?_;exact⟨rfl,E.o _ _ _ _ _ _ i.o x⟩
 |some c=>
  rw[T] at C;obtain⟨L,rfl⟩:=Ch.nj T;have s:=aa (fun W=>zK c (H c L) W);simp only[ckO,Option.isSome_some,Option.map_some,Option.getD_some] at C |-;rw[if_pos trivial];unfold EA at s |-;clear T H L;generalize bs (Ch.val c)=V at*;generalize bs c.id=v0 at*;generalize (c.page:Int)=v1 at*;generalize (c.text.length:Int)=v2 at*;generalize c.count=y at*;go_enter func28,ntmps28;go_wp2_with fail;generalize X.heap.size=O at*;generalize dH X _=X0 at*;refine (G.o _ p.o).mono ?_;rintro e w1 ⟨rfl,A⟩;have g:=aa (p.o.still A);clear A p G;go_wp2_with fail;refine (F.o _ g.o).mono ?_;rintro e P ⟨rfl,j⟩;have N:=aa (show KT w fv sb rb w1.heap.size 0 n _ last _ B k f (w1.alloc (dg #[dr (av ⟨rb,0,aK⟩),bf ct 0] 214)) from g.o.tree ξ);rw[<-j] at N;clear j g;generalize w1.heap.size=tb at*;go_wp2_with fail;refine (C.o _ _ N.o).mono ?_;rintro e w3 ⟨rfl,h3⟩;have l:=aa h3;clear h3 N;go_wp2_with fail;refine (s.o _).mono ?_;rintro e d ⟨rfl,a⟩;have m:=aa (l.o.still a);clear a l;have i:=aa (m.o.still ((Below.refl _ d).alloc (af _) (dg #[cu v0,bf ct v1,bf ct v2,bf ct y] 73)));have RY:=aa (aW.new d #[cu v0,bf ct v1,bf ct v2,bf ct y] 73);go_upto_if 42 with fail;clear m;generalize dH d _=R at*;generalize d.heap.size=S at*;obtain⟨x0,x1,x2,x3,_,_,_,_⟩:=four RY.o;obtain⟨U,Z,y2,y3,z0,z1,z2,z3⟩:=four (r.o _ i.o.q);go_wp2;obtain⟨u,x⟩:=Nk (r.o _ i.o.q) (cu v0) (bf ct v1) (bf ct v2) (bf ct y);try simp only[Exit.inBlock,Exit.then]
  refine bodyPost_ret (wE rfl _ rfl u) rfl ?_;exact⟨rfl,E.o _ _ _ _ _ _ i.o x⟩
end
theorem L3 {w:World} {g:Nat} {t:TypeId} {v0 v1 v2 v:Value} (h:aW w g t [v0,v1,v2,v]):
  w.cell? ⟨g,0,aK⟩=av v0/\w.cell? ⟨g,1,aK⟩=av v1/\w.cell? ⟨g,2,aK⟩=av v2/\w.cell? ⟨g,3,aK⟩=av v:=
 ⟨h.cell rfl,h.cell rfl,h.cell rfl,h.cell rfl⟩
theorem VQ (cs:List Ch.C) (id:Ch.Text) (b:Int):qG (Ch.upd cs id b)=qG cs:=by
 unfold qG Ch.upd;rw[List.map_map];refine mK fun c _=> ?_;show ((if c.id=id then {c with count:=c.count+b} else c:Ch.C).page,_)=_;by_cases h:c.id=id;·simp[h]
 ·simp[h]
section
variable {w X:World} {fv:Value} {sb rb n B last:Nat} {K:Φ} {Q:Ψ} {cs:List Ch.C} {rs:List Ch.Rc}
theorem SZ (h:KS w fv sb rb n cs rs last B K Q X) {c:Ch.C} (hc:c∈cs) (N:Ch.Up cs) (b:Int) (d:Ch.One {c with count:=c.count+b}) (t:B<=50000000) (hn:kG cs.length+kG rs.length+cs.length+23<=n):
  Calls prog 61 #[ptr sb,EA c,bf ct b] X fun e X'=>e=c8 (bf ct 0)/\KS w fv sb rb n (Ch.upd cs c.id b) rs last (B+30000) K Q X':=by
 have T:=aa h.kb;have f:(two (Ch.gT cs) (Ch.cg rs) 0).length=cs.length:=Ch.iO;have L:(two (Ch.gT cs) (Ch.cg rs) 1).length=rs.length:=Ch.j4;have p:(qG cs).length=cs.length:=aL _;have g:=((Below.refl _ X).alloc (af _) (dg #[cu (bs c.id),bf ct c.page,bf ct c.text.length,bf ct (c.count+b)] 73)).drew;have k:aW (X.alloc (dg #[cu (bs c.id),bf ct c.page,bf ct c.text.length,bf ct (c.count+b)] 73)).drew X.heap.size 73 [cu (bs c.id),bf ct c.page,bf ct c.text.length,bf ct (c.count+b)]:=(aW.new X _ _).drew;have l:=h.box (P:=fun Y=>aW Y X.heap.size 73 [cu (bs c.id),bf ct c.page,bf ct c.text.length,bf ct (c.count+b)]) g (fun X2 u=>k.but u fun hn=>hn ⟨af _,k.lt⟩);have i:=aa (fun W=>FT {c with count:=c.count+b} d (bs c.id) W);have v:IntKind.i64.wrap (c.count+b)=c.count+b:=by have:=d.min;have:=d.max;simp only at*;rw[IntKind.wrap_i64];omega
 have y:=aa (show ∀(tb:Nat) (W:World),KT w fv sb rb tb 0 n (two (Ch.gT cs) (Ch.cg rs)) last (qG cs) B _ _ W->Calls prog 47 #[dr (av ⟨tb,0,aK⟩),cu (bs c.id),cu (bs (Ch.val {c with count:=c.count+b}))] W fun e X'=>e=c8 (bf ct 0)/\KS w fv sb rb n (Ch.upd cs c.id b) rs last (B+30000) (LU K X.heap.size (X.alloc (dg #[cu (bs c.id),bf ct c.page,bf ct c.text.length,bf ct (c.count+b)] 73)).drew.heap.size) (Ic K Q fun Y=>aW Y X.heap.size 73 [cu (bs c.id),bf ct c.page,bf ct c.text.length,bf ct (c.count+b)]) X' from fun tb W z=>by
  have:=wV (key:=c.id) (vl:=Ch.val {c with count:=c.count+b}) z (by have:=d.id;simp only at this;omega) (by rw[Ch.Dj];decide) κ (by rw[f,L,p];omega);refine this.mono ?_;rintro e X' ⟨rfl,r⟩;rw[Hh,show two (Ch.gT cs) (Ch.cg rs) 0=Ch.gT cs from rfl,show Tr.put (Ch.gT cs) c.id (Ch.val {c with count:=c.count+b})=Ch.gT (Ch.upd cs c.id b) by rw[<-Ch.TW N hc b];exact Ch.K4 {c with count:=c.count+b}] at r;refine⟨rfl, ?_⟩;show KH _ _ _ _ _ _ _ (qG (Ch.upd cs c.id b)) _ _ _ _;rw[VQ];exact r)
 have A:=aa (mB l.store);have s:=aa l;have O:=aa k;clear h hc N d t hn f L p g l k;unfold EA;unfold ptr at A |-;simp only at i;generalize bs (Ch.val {c with count:=c.count+b})=V at*;generalize (bs c.id)=v0 at*;generalize (c.page:Int)=v1 at*;generalize (c.text.length:Int)=v2 at*;generalize Ch.upd cs c.id b=J at*;generalize M:c.count+b=D at*;go_enter func61,ntmps61;go_wp2_with (refine wp_region_held_drew (S:=(fun Y=>Y.cell? ⟨X.heap.size,0,aK⟩=av (cu v0)/\Y.cell? ⟨X.heap.size,1,aK⟩=av (bf ct v1)/\Y.cell? ⟨X.heap.size,2,aK⟩=av (bf ct v2)/\Y.cell? ⟨X.heap.size,3,aK⟩=av (bf ct D))) η ?_ (fun a=> ?_);focus skip;rotate_left;refine Hid.o ?_);refine aa ?_;·exact L3 O.o
 generalize (dH X _).drew=Y at*;generalize X.heap.size=U at*;refine cN 0 a ?_;refine cN 2 a ?_;refine cN 3 a ?_;refine cN 4 a ?_;try simp only[Act.put,aC,aB,ay]
 clear a;refine fL [1] (fM fun K H=> ?_);go_simp;refine A.o.mono ?_;rintro e w1 ⟨rfl,j⟩;have R:=aa (show KT w fv sb rb Y.heap.size 0 n _ last _ B _ _ (Y.alloc (dg #[dr (av ⟨rb,0,aK⟩),bf ct 0] 214)) from s.o.tree ξ);have x:=(Below.refl _ Y).alloc (af _) (dg #[dr (av ⟨rb,0,aK⟩),bf ct 0] 214);have G:=aa (O.o.below x O.o.lt);generalize Y.heap.size=tb at*;rw[<-j] at R G;refine H.out _ _ (L3 G.o) (fun a=> ?_);clear H a O s x j A;refine fL [5] (fM fun K H=> ?_);go_simp;refine (i.o _).mono ?_;rintro e w3 ⟨rfl,m⟩;have E:=aa (R.o.still m);have F:=aa (G.o.below m G.o.lt);refine H.out _ _ (L3 F.o) (fun a=> ?_);clear H a G R m;refine fL [6] (fM fun K H=> ?_);go_simp;refine (y.o _ _ E.o).mono ?_;rintro e Z ⟨rfl,h4⟩;have I:=aa h4;refine H.out _ _ (L3 h4.q.2) (fun a=> ?_);clear H h4;refine cN 7 a ?_;refine wpAnyH_done η ?_ _;try simp only[Act.put,aC,aB,ay]
 go_wp2_with fail;go_ret;exact⟨rfl,I.o.unbox T.o⟩
end
theorem VR {cs:List Ch.C} {c:Ch.C} (h:Ch.find cs c.id=aK):((c.page,c.text)::qG cs).Perm (qG (Ch.ins cs c)):=by have:=(Ch.ud h).map fun c:Ch.C=>(c.page,(c.text:Wl.Text));exact this.symm
def cX:Value:=.func (.func 18) #[] #[]
section
variable {w X:World} {fv:Value} {sb rb n B last:Nat} {K:Φ} {Q:Ψ} {cs:List Ch.C} {rs:List Ch.Rc}
theorem OG (h:KS w fv sb rb n cs rs last B K Q X) {id t:Ch.Text} (f:id.length=33) (g:1<=t.length) (y:t.length<=128) (H:Ch.find cs id=aK) (G:B<=50000000) (hn:kG cs.length+kG rs.length+cs.length+23<=n) (i:n<=4096):
  Calls prog 23 #[ptr sb,cu (bs id),cu (bs t)] X fun e X'=>e=c8 (bf ct 0)/\∃a:Nat,(∀c∈cs,c.page≠a)/\a<=4096/\KS w fv sb rb n (Ch.ins cs ⟨id,a,t,0⟩) rs last (B+60000) K Q X':=by
 have S:=aa h;have b:(two (Ch.gT cs) (Ch.cg rs) 0).length=cs.length:=Ch.iO;have L:(two (Ch.gT cs) (Ch.cg rs) 1).length=rs.length:=Ch.j4;have p:(qG cs).length=cs.length:=aL _;have c0:=h.store.cell (j:=0) rfl;have q:=aa (LX h);have l:=aa (VJ h (s:=t) κ κ (by rw[b,L,p];omega));have r:=aa (fun (a:Nat) (ha:a<=4096) (W:World)=>FT ⟨id,a,t,0⟩ ⟨f,ha,g,y,by show-4611686018427387904<=(0:Int);omega,by show (0:Int)<=4611686018427387904;omega⟩ ⟨#[]⟩ W)
 have I:=aa (show ∀(a tb:Nat) (W:World),KT w fv sb rb tb 0 n (two (Ch.gT cs) (Ch.cg rs)) last ((a,t)::qG cs) (B+30000) K Q W->Calls prog 47 #[dr (av ⟨tb,0,aK⟩),cu (bs id),cu (bs (Ch.val ⟨id,a,t,0⟩))] W fun e X'=>e=c8 (bf ct 0)/\KS w fv sb rb n (Ch.ins cs ⟨id,a,t,0⟩) rs last (B+60000) K Q X' from fun a tb W M=>by
  have:=wV (key:=id) (vl:=Ch.val ⟨id,a,t,0⟩) M κ (by rw[Ch.Dj];decide) κ (by rw[b,L,a_,p];omega);refine this.mono ?_;rintro e X' ⟨rfl,z⟩;rw[Hh,show two (Ch.gT cs) (Ch.cg rs) 0=Ch.gT cs from rfl,Ch.K4 ⟨id,a,t,0⟩] at z;exact⟨rfl,z.perm (VR (c:=⟨id,a,t,0⟩) H)⟩)
 have C:((bs t).size:Int)=t.length:=by rw[aG]
 have O:=aa (And.intro hn i);clear h b L p f g y H G hn i;unfold ptr at q l c0 |-;obtain⟨T,D⟩:=ξx (bs t);rw[<-D] at C l |-;obtain⟨E,d⟩:=ξx t.length;rw[<-d] at C;have u:=aa d;clear D d;go_enter func23,ntmps23;go_wp2_with fail;refine q.o.mono ?_;rintro e w0 ⟨m,rfl,rfl⟩;go_wp2_with fail;refine l.o.mono ?_;rintro e w1 ⟨a,rfl,k,ha,g⟩;have v:=aa g;have x:=aa (show (∀c∈cs,c.page≠a)/\a<=4096 from⟨fun c hc=>k _ (bY.2 ⟨c,hc,rfl⟩),by have:=O.o.2;omega⟩);clear g k ha l q c0;have A:=aa (mB v.o.store);unfold ptr at A;go_wp2_with fail;refine A.o.mono ?_;rintro e P ⟨rfl,J⟩;have N:=aa (show KT w fv sb rb w1.heap.size 0 n _ last _ _ K Q (w1.alloc (dg #[dr (av ⟨rb,0,aK⟩),bf ct 0] 214)) from v.o.tree ξ);rw[<-J] at N;clear J v A;generalize w1.heap.size=tb at*;have Y:=aa (r.o a x.o.2 P);simp only[<-u.o] at Y;go_wp2_with fail;refine Y.o.mono ?_;rintro e w3 ⟨rfl,F⟩;have R:=aa (N.o.still F);clear F N Y;go_wp2_with fail;refine (I.o a tb w3 R.o).mono ?_;rintro e U ⟨rfl,h4⟩;go_wp2;go_ret;exact⟨rfl,a,x.o.1,x.o.2,h4⟩
theorem AZ (h:KS w cX sb rb n cs rs last B K Q X) (y:jC w) (hF:∀t,(Sha.print t).length=32) (nu:Ch.Up cs) (s:Ch.sB Sha.print cs) (f:∀c∈cs,Ch.One c) (S:cs.length<=255) {t:Ch.Text} (h1:1<=t.length) (h2:t.length<=128) (hB:B<=50000000) (hn:kG cs.length+kG rs.length+cs.length+23<=n) (C:n<=4096):
  Calls prog 10 #[ptr sb,cu (bs t)] X fun e X'=>(∃c∈cs,c.text=t/\e=c8 (ec #[cu (bs c.id),ey false,bf ct 0])/\KS w cX sb rb n cs rs last B K Q X')\/
   ((∀c∈cs,c.text≠t)/\∃j a:Nat,e=c8 (ec #[cu (bs (Sha.print t++[az j])),ey true,bf ct 0])/\j<=255/\(∀i,i<j->∃c∈cs,c.id=Sha.print t++[az i])/\Ch.find cs (Sha.print t++[az j])=aK/\(∀c∈cs,c.page≠a)/\a<=4096/\KS w cX sb rb n (Ch.ins cs ⟨Sha.print t++[az j],a,t,0⟩) rs last (B+60000) K Q X'):=by
 have U:=aa h
 have c1:=h.store.cell (j:=1) rfl
 have Z:=aa (nJ h)
 have Y9:=aa (And.intro nu (And.intro s f))
 have J:=aa (And.intro S (And.intro h1 (And.intro h2 (And.intro hB (And.intro hn C)))))
 have Z3:=aa (show ∀W,Below w.heap.size w W->Calls prog 18 #[cu (bs t)] W fun e w'=>e=c8 (cu (bs (Sha.print t)))/\Below W.heap.size W w' from fun W hW=>by
  have:=zO (bs t) W (y.below hW (af _)) zaS;rw[bJ] at this;exact this)
 have G:=aa (fun (W:World) (hW:KS w cX sb rb n cs rs last B K Q W)=>Hl hW hF s (hF t) f κ)
 have H:(Ch.like Sha.print cs (Sha.print t)).length<=255:=aN (List.length_filter_le _ _) S
 have V:=aa (show ∀c∈Ch.like Sha.print cs (Sha.print t),c∈cs from fun c hc=>(dU.1 hc).1)
 have dP:=aa (show ∀c∈cs,c.text=t->c∈Ch.like Sha.print cs (Sha.print t) from fun c hc e=>dU.2 ⟨hc,decide_eq_true (by rw[e])⟩)
 have u:=aa (hF t)
 have hs1:¬((bs t).size:Int)<1:=zaS
 have kH:¬((bs t).size:Int)>128:=zaS
 have Wn:¬(128:Int)<(bs t).size:=zaS
 clear h y hF nu s f S h1 h2 hB hn C
 obtain⟨p,hp⟩:=ξx (Sha.print t)
 rw[<-hp] at Z3 G V dP H u |-
 have HPP:=aa hp
 obtain⟨l,hl⟩:=ξx (Ch.like Sha.print cs p)
 rw[<-hl] at G V dP H
 have HL:=aa hl
 clear hp hl
 unfold ptr at Z G c1 |-
 unfold cX at c1
 obtain⟨T,y⟩:=ξx (bs t)
 rw[<-y] at Z3 hs1 kH Wn |-
 have Zw:=aa y
 obtain⟨L,hL⟩:=ξx l.length
 rw[<-hL] at H G
 have O:=aa hL
 have zJ:(L:Int)<=255:=κ
 clear y hL
 go_enter func10,ntmps10
 go_wp2_with fail
 refine Z.o.mono ?_
 rintro e w1 ⟨rfl,aT⟩
 have P:=aa (U.o.still aT)
 have d1:=P.o.store.cell (j:=1) rfl
 unfold cX at d1
 clear aT Z c1
 go_wp2_with fail
 refine (Z3.o _ P.o.below).mono ?_
 rintro e w2 ⟨rfl,aQ⟩
 have H2:=aa (P.o.still aQ)
 clear aQ d1 P
 go_wp2_with fail
 refine (G.o _ H2.o).mono ?_
 rintro e w3 ⟨g,b,rfl,F,h3⟩
 have H3:=aa h3
 have HGB:=aa F
 clear h3 F H2 G
 go_wp2
 go_loopw [49] (fun iv wr=>∃k:Nat,k<=L/\iv=bf ct k/\Hid ((∀i d,i<k->l[i]?=av d->d.text≠t)/\KS w cX sb rb n cs rs last B (LU K g b) (Ic K Q fun Y=>aW Y g 73 (dV.cells l)) wr)) (fun iv _=>L-(RowKit.intOf iv).toNat)
 case atStart=>exact⟨0,aA _,rfl,aa ⟨fun i _ hi=>absurd hi (Nat.not_lt_zero i),H3.o⟩⟩
 case round=>
  clear H3;obtain⟨k,hk,rfl,z⟩:=hrel;by_cases I:k<L
  ·have hI:(k:Int)<L:=κ;have E:k<l.length:=(by rw[<-O.o];exact I);have HK:=aa E;obtain⟨x0,x1,x2,x3⟩:=nK z.o.2.q.2 k E;obtain⟨c,hc⟩:=ξx (l[k]'E);rw[<-hc] at x0 x1 x2 x3;have AY:=aa (V.o c (by rw[hc];exact bp E));have HC:=aa (show l[k]?=av c by rw[aI E,hc]);have b8:=(Below.refl _ wr).alloc (af _) (dg #[cu (bs c.id),bf ct c.page,bf ct c.text.length,bf ct c.count] 73);have H4:=aa (z.o.2.still b8);have F_:=aa (aW.new wr #[cu (bs c.id),bf ct c.page,bf ct c.text.length,bf ct c.count] 73);have vK:=aa (LY H4.o AY.o (Y9.o.2.2 c AY.o));unfold ptr EA at vK;clear E hc b8;go_wp2_with fail;refine vK.o.mono ?_;rintro e w5 ⟨rfl,D⟩;have R:=aa (H4.o.still D);have y0:=(F_.o.below D F_.o.lt).cell (j:=0) rfl;clear D H4 F_ vK x0 x1 x2 x3;by_cases A:c.text=t
   ·have v:bs c.text=T:=(by rw[A,Zw.o]);have HE:=aa A;rw[v];clear A v;go_wp2
    go_ret3
    exact cS ⟨c,AY.o,HE.o,rfl,R.o.unbox U.o.kb⟩
   ·have v:((bs c.text).toList==T.toList)=false:=(by rw[Zw.o,bN,bN];exact beq_eq_false_iff_ne.2 A);have HE:=aa A;clear A;generalize bs c.text=CT at*;go_wp2;go_roundw
    case rel=>exact⟨k+1,I,ς,aa ⟨fun i d hi hd=>by
     rcases Nat.lt_succ_iff_lt_or_eq.1 hi with hi|rfl;·exact z.o.1 i d hi hd
     ·rw[HC.o] at hd;cases hd;exact HE.o,R.o⟩⟩
    case measure=>simp[RowKit.intOf];omega
  ·obtain rfl:k=L:=by omega
   have hI:¬(k:Int)<k:=κ
   have HNT:=aa (show ∀c∈cs,c.text≠t from fun c hc e=>by
    obtain⟨i,hi,Gb⟩:=List.mem_iff_getElem.1 (dP.o c hc e);exact z.o.1 i c (by rw[O.o];exact hi) (by rw[aI hi,Gb]) e)
   have M:=aa (Er z.o.2.q.2 p (by have:=u.o;omega) (by rw[<-O.o];exact H) O.o);go_wp2_with fail;refine M.o.mono ?_;rintro e w5 ⟨j,rfl,hj,G9,N,D⟩;have R:=aa (z.o.2.still D);have m:Ch.find cs (p++[az j])=none:=Ch.OE Y9.o.1 Y9.o.2.1 hj (by rw[<-HL.o];exact G9) (by rw[<-HL.o];exact N)
   have HJ:=aa (show j<=255/\(∀i,i<j->∃c∈cs,c.id=p++[az i])/\Ch.find cs (p++[az j])=aK from⟨hj,fun i hi=>by
    obtain⟨d,h,e⟩:=G9 i hi;exact⟨d,V.o d (List.mem_of_getElem? h),e⟩,m⟩)
   have r:=aa (OG R.o (id:=p++[az j]) (t:=t) (by rw[aq,u.o];rfl) J.o.2.1 J.o.2.2.1 m J.o.2.2.2.1 J.o.2.2.2.2.1 J.o.2.2.2.2.2);rw[<-Zw.o] at r;unfold ptr at r;clear hj G9 N D m M;obtain⟨ID,Y_⟩:∃x,x=bs (p++[az j]):=⟨_,rfl⟩;rw[<-Y_] at r |-;have W6:=aa Y_;clear Y_;go_wp2_with fail;refine r.o.mono ?_;rintro e w6 ⟨rfl,a,vI,Xr,h6⟩;have H6:=aa (And.intro vI (And.intro Xr (h6.unbox U.o.kb)));clear vI Xr h6;go_wp2
   go_ret3
   exact dc ⟨HNT.o,j,a,(by rw[<-W6.o];rfl),HJ.o.1,HJ.o.2.1,HJ.o.2.2,H6.o.1,H6.o.2.1,H6.o.2.2⟩
end
section
variable {w X:World} {fv:Value} {sb rb n B last:Nat} {K:Φ} {Q:Ψ} {cs:List Ch.C} {rs:List Ch.Rc}
theorem KH.pages {l:Nat->Tr.eO} {bl:List (Nat×Wl.Text)} (h:KH w fv sb rb n l last bl B K Q X):(bl.map (·.1)).Nodup:=by obtain⟨g,b,xb,R,ps,pg,rt,p,H,a,h3⟩:=h.ms;exact (aP.1 (aP.1 H.nd).2.1).2.1
theorem KS.page (h:KS w fv sb rb n cs rs last B K Q X) {c d:Ch.C} (hc:c∈cs) (hd:d∈cs) (e:c.page=d.page):c=d:=by
 have hp:=KH.pages h;unfold qG at hp;rw[List.map_map] at hp;clear h;induction cs with
 |nil=>cases hc
 |cons a l i=>
  rw[bI,cA] at hp;rcases aM.1 hc with rfl|A
  ·rcases aM.1 hd with rfl|H;·rfl
   ·exact absurd (bY.2 ⟨d,H,e.symm⟩) hp.1
  ·rcases aM.1 hd with rfl|H;·exact absurd (bY.2 ⟨c,A,e⟩) hp.1
   ·exact i A H hp.2
theorem S0 (h:KS w fv sb rb n cs rs last B K Q X) (H:∀c∈cs,Ch.One c) {c:Ch.C} {id:Ch.Text} (hf:Ch.find cs id=av c):
  Calls prog 14 #[ptr sb,cu (bs id)] X fun e X'=>e=c8 (ec #[cu (bs c.text),bf ct 0])/\KS w fv sb rb n cs rs last B K Q X':=by
 obtain⟨a,rfl⟩:=Ch.nj hf;have b:=Es h H c.id;rw[hf,Option.isSome_some,if_pos rfl] at b;have s:=aa b;have v:=aa (fun (W:World) (g:KS w fv sb rb n cs rs last B K Q W)=>LY g a (H c a));clear h H hf b a;unfold ptr at s v |-;simp only[ckO] at s;unfold EA at s v;go_enter func14,ntmps14;go_wp2_with fail;refine s.o.mono ?_;rintro e w1 ⟨rfl,d⟩;have f:=aa (d.still ((Below.refl _ w1).alloc (af _) (dg #[cu (bs c.id),bf ct c.page,bf ct c.text.length,bf ct c.count] 73)));clear d s;go_wp2_with fail;refine (v.o _ f.o).mono ?_;rintro e j ⟨rfl,A⟩;have i:=aa (f.o.still A);clear A;go_wp2
 go_ret2
 exact⟨rfl,i.o⟩
theorem Kv (h:KS w fv sb rb n cs rs last B K Q X) (H:∀c∈cs,Ch.One c) {c:Ch.C} {id:Ch.Text} (hf:Ch.find cs id=av c) (b:Int) (t:b=1\/b=-1):
  Calls prog 24 #[ptr sb,cu (bs id),bf ct b] X fun e X'=>e=c8 (ec #[EA c,bf ct 0])/\KS w fv sb rb n cs rs last B K Q X':=by
 obtain⟨k,d,j,a,l⟩:=h.boxed #[cu ⟨#[]⟩,bf ct 0,bf ct 0,bf ct 0] 73;have p:=aa j;have m:=aa (show ∀Y,d Y->aW Y X.heap.size 73 [cu ⟨#[]⟩,bf ct 0,bf ct 0,bf ct 0] from l);have v:=aa a;have G:=aa (show ∀W,KS w fv sb rb n cs rs last B k d W->Calls prog 19 #[dr (av ⟨sb,0,aK⟩)] W fun e X'=>e=c8 (bf ct 0)/\Below W.heap.size W X' from fun W f=>nJ f)
 have g:=aa (show ∀W,KS w fv sb rb n cs rs last B k d W->Calls prog 28 #[dr (av ⟨sb,0,aK⟩),cu (bs id)] W fun e X'=>e=c8 (ec #[eU #[cu (bs c.id),bf ct c.page,bf ct c.text.length,bf ct c.count],bf ct 0])/\KS w fv sb rb n cs rs last B k d X' from fun W f=>by
  have:=Es f H id;rw[hf,Option.isSome_some,if_pos rfl] at this;exact this)
 clear h j l a H hf;unfold ptr EA;generalize bs c.id=v0 at*;generalize (c.page:Int)=v1 at*;generalize (c.text.length:Int)=v2 at*;generalize c.count=V at*;generalize bs id=I at*;rcases t with rfl|rfl
 all_goals
  go_enter func24,ntmps24
  go_wp2_with fail
  generalize X.heap.size=y at*
  generalize dH X _=X0 at*
  refine (G.o _ p.o).mono ?_
  rintro e w1 ⟨rfl,A⟩
  have r:=aa (p.o.still A)
  clear A p G
  go_wp2_with fail
  refine (g.o _ r.o).mono ?_
  rintro e z ⟨rfl,s⟩
  have i:=aa s
  obtain⟨D,E,F,J,Z,L,M,N⟩:=four (m.o _ i.o.q)
  clear s r
  go_wp2
  obtain⟨u,x⟩:=Nk (m.o _ i.o.q) (cu v0) (bf ct v1) (bf ct v2) (bf ct V)
  try simp only[Exit.inBlock,Exit.then]
  refine bodyPost_ret (wE rfl _ rfl u) rfl ?_
  exact⟨rfl,v.o _ _ _ _ _ _ i.o x⟩
end
section
variable {w X:World} {sb rb n B last:Nat} {K:Φ} {Q:Ψ} {cs:List Ch.C} {rs:List Ch.Rc}
theorem Ho (h:KS w cX sb rb n cs rs last B K Q X) (hT:jC w) (hF:∀t,(Sha.print t).length=32) (s:Ch.sB Sha.print cs) (H:∀c∈cs,Ch.One c) (q9:cs.length<=100000) {c:Ch.C} (hc:c∈cs):
  Calls prog 60 #[ptr sb,bf ct c.page] X fun e X'=>e=c8 (ec #[EA c,bf ct 0])/\KS w cX sb rb n cs rs last B K Q X':=by
 have A:=aa (show ∀d∈cs,d.page=c.page->d=c from fun d hd e=>h.page hd hc e);obtain⟨D,F,I,a,hq⟩:=h.boxed #[cu ⟨#[]⟩,bf ct 0,bf ct 0,bf ct 0] 73;have pL:=aa I;have J:=aa (show ∀Y,F Y->aW Y X.heap.size 73 [cu ⟨#[]⟩,bf ct 0,bf ct 0,bf ct 0] from hq);have vA:=aa a;have M:=H c hc;have V:=aa (CO I (bY.2 ⟨c,hc,rfl⟩) (by have:=M.high;omega))
 have Z3:=aa (show ∀W,Below w.heap.size w W->Calls prog 18 #[cu (bs c.text)] W fun e w'=>e=c8 (cu (bs (Sha.print c.text)))/\Below W.heap.size W w' from fun W N=>by
  have:=zO (bs c.text) W (hT.below N (af _)) (by rw[aG];have:=M.high;omega);rw[bJ] at this;exact this)
 have G:=aa (fun (W:World) (N:KS w cX sb rb n cs rs last B D F W)=>Hl N hF s (hF c.text) H κ);have VS:=aa (show ∀d∈Ch.like Sha.print cs (Sha.print c.text),d∈cs from fun d hd=>(dU.1 hd).1);have u:c∈Ch.like Sha.print cs (Sha.print c.text):=dU.2 ⟨hc,decide_eq_true rfl⟩;have AY:=aa u;have m:(Ch.like Sha.print cs (Sha.print c.text)).length<=100000:=aN (List.length_filter_le _ _) q9;clear h I a hq hT hF s H q9 hc M u;obtain⟨p,hp⟩:=ξx (bs (Sha.print c.text));rw[<-hp] at Z3 G;obtain⟨l,hl⟩:=ξx (Ch.like Sha.print cs (Sha.print c.text));rw[<-hl] at G VS AY m;clear hp hl;unfold ptr at V G |-;obtain⟨L,O⟩:=ξx l.length;rw[<-O] at m G;have jD:=aa O;have zJ:(L:Int)<=100000:=κ
 clear O;go_enter func60,ntmps60;go_wp2_with fail;generalize X.heap.size=P at*;generalize dH X _=X0 at*;refine V.o.mono ?_;rintro e w1 ⟨rfl,aT⟩;have y:=aa (pL.o.still aT);have d1:=y.o.store.cell (j:=1) rfl;unfold cX at d1;clear aT V pL;go_wp2_with fail;refine (Z3.o _ y.o.below).mono ?_;rintro e w2 ⟨rfl,aQ⟩;have R:=aa (y.o.still aQ);clear aQ d1 y;go_wp2_with fail;refine (G.o _ R.o).mono ?_;rintro e w3 ⟨g,b,rfl,S,h3⟩;have H3:=aa h3;have Ts:=aa R.o.kb;clear h3 S R G;go_wp2
 go_loopw [38] (fun T wr=>∃k:Nat,k<=L/\T=bf ct k/\Hid ((∀i d,i<k->l[i]?=av d->d.page≠c.page)/\KS w cX sb rb n cs rs last B (LU D g b) (Ic D F fun Y=>aW Y g 73 (dV.cells l)) wr)) (fun T _=>L-(RowKit.intOf T).toNat)
 case atStart=>exact⟨0,aA _,rfl,aa ⟨fun i _ hi=>absurd hi (Nat.not_lt_zero i),H3.o⟩⟩
 case round=>
  clear H3;obtain⟨k,hk,rfl,r⟩:=hrel;by_cases v:k<L
  ·have hI:(k:Int)<L:=κ;have E:k<l.length:=(by rw[<-jD.o];exact v);obtain⟨x0,x1,x2,x3⟩:=nK r.o.2.q.2 k E;obtain⟨d,hd⟩:=ξx (l[k]'E);rw[<-hd] at x0 x1 x2 x3;have HD:=aa (show d∈cs/\l[k]?=av d from⟨VS.o d (by rw[hd];exact bp E),by rw[aI E,hd]⟩);have x:=(Below.refl _ wr).alloc (af _) (dg #[cu (bs d.id),bf ct d.page,bf ct d.text.length,bf ct d.count] 73);have U:=aa (r.o.2.still x);have F_:=aa (aW.new wr #[cu (bs d.id),bf ct d.page,bf ct d.text.length,bf ct d.count] 73);clear x E hd;by_cases z:d.page=c.page
   ·have Z:=A.o d HD.o.1 z;subst Z;have xR:P<wr.heap.size:=(J.o _ (r.o.2.unbox Ts.o).q).lt;have H5:=aa (U.o.unbox Ts.o);have hne:¬wr.heap.size=P:=κ;have xQ:¬P=wr.heap.size:=κ;clear z r U;go_upto_if 45 with fail;generalize dH wr _=w5 at*;generalize wr.heap.size=gb at*;obtain⟨x0,x1,x2,x3,_,_,_,_⟩:=four F_.o;obtain⟨y0,y1,y2,y3,z0,z1,z2,z3⟩:=four (J.o _ H5.o.q);go_wp2;obtain⟨q1,q2⟩:=Nk (J.o _ H5.o.q) (cu (bs d.id)) (bf ct d.page) (bf ct d.text.length) (bf ct d.count);try simp only[Exit.inBlock,Exit.then]
    refine bodyPost_ret (wE rfl _ rfl q1) rfl ?_;exact⟨rfl,vA.o _ _ _ _ _ _ H5.o q2⟩
   ·have heI:((d.page:Int)==(c.page:Int))=false:=beq_eq_false_iff_ne.2 κ;have HE:=aa z;clear z;go_wp2;go_roundw
    case rel=>exact⟨k+1,v,ς,aa ⟨fun i f hi hf=>by
     rcases Nat.lt_succ_iff_lt_or_eq.1 hi with hi|rfl;·exact r.o.1 i f hi hf
     ·rw[HD.o.2] at hf;cases hf;exact HE.o,U.o⟩⟩
    case measure=>simp[RowKit.intOf];omega
  ·exfalso;obtain⟨i,hi,Gb⟩:=List.mem_iff_getElem.1 AY.o;exact r.o.1 i c (by have:=jD.o;omega) (by rw[aI hi,Gb]) rfl
end
end
namespace Ch
open Tr
structure Fit (cs:List C) (rs:List Rc) (last:Nat):Prop where
 up:Up cs
 nm:sB Sha.print cs
 one:∀c∈cs,One c
 lg:dG rs last
 inn:∀x∈aZ rs,∃c∈cs,c.page=x.1
theorem iq (t:Text):(Sha.print t).length=32:=Sha.pQ _ 8
section
variable {cs:List C} {rs:List Rc} {last:Nat}
theorem Fit.nil:Fit [] [] 0:=⟨.nil,fun _ h=>χ,fun _ h=>χ,dG.nil ξ,fun _ h=>χ⟩
theorem Fit.ins (h:Fit cs rs last) {j a:Nat} {t:Text} (b:1<=t.length) (d:t.length<=128) (ha:a<=4096) (hn:find cs (Sha.print t++[az j])=aK):Fit (Ch.ins cs ⟨Sha.print t++[az j],a,t,0⟩) rs last:=by
 have hp:=ud (c:=⟨Sha.print t++[az j],a,t,0⟩) hn;have H:∀c,c∈Ch.ins cs ⟨Sha.print t++[az j],a,t,0⟩->c=⟨Sha.print t++[az j],a,t,0⟩\/c∈cs:=fun c hc=>aM.1 (hp.mem_iff.1 hc);refine⟨Xu h.up,fun c hc=> ?_,fun c hc=> ?_,h.lg,fun x f=> ?_⟩
 ·rcases H c hc with rfl|hc;·exact⟨_,rfl⟩
  ·exact h.nm c hc
 ·rcases H c hc with rfl|hc;·exact⟨by show (Sha.print t++[_]).length=33;rw[aq,iq];rfl,ha,b,d,by show-4611686018427387904<=(0:Int);omega,by show (0:Int)<=4611686018427387904;omega⟩
  ·exact h.one c hc
 ·obtain⟨c,hc,e⟩:=h.inn x f;exact⟨c,hp.mem_iff.2 (aH _ hc),e⟩
theorem Fit.enter (h:Fit cs rs last) (hl:last+1<4611686018427387904) {c:C} (hc:c∈cs) {b:Int} (a:b=1\/b=-1):Fit cs (Ch.enter rs last (c.page,b)).1 (Ch.enter rs last (c.page,b)).2:=by
 refine⟨h.up,h.nm,h.one,h.lg.enter hl ⟨(h.one c hc).page,a⟩,fun x H=> ?_⟩;rw[y_] at H;rcases ah.1 H with H|H;·exact h.inn x H
 ·rw[bB.1 H];exact⟨c,hc,rfl⟩
theorem A0 {l:List (Nat×Int)} {d:C} (h:d∈merged cs l):∃c∈cs,d={c with count:=c.count+tot l c.page}:=by obtain⟨c,hc,rfl⟩:=bY.1 h;exact⟨c,hc,rfl⟩
theorem OH (h:Up cs) (l:List (Nat×Int)):Up (merged cs l):=List.pairwise_map.2 (h.imp fun h=>h)
theorem Fit.merge (h:Fit cs rs last) (k:Nat) (H:∀c∈cs,-4611686018427387904<=c.count+tot ((aZ rs).take k) c.page/\c.count+tot ((aZ rs).take k) c.page<=4611686018427387904):Fit (merged cs ((aZ rs).take k)) (leave rs k) last:=by
 refine⟨OH h.up _,fun d hd=> ?_,fun d hd=> ?_,h.lg.leave k,fun x a=> ?_⟩;·obtain⟨c,hc,rfl⟩:=A0 hd;exact h.nm c hc
 ·obtain⟨c,hc,rfl⟩:=A0 hd;have o:=h.one c hc;exact⟨o.id,o.page,o.low,o.high,(H c hc).1,(H c hc).2⟩
 ·rw[lE] at a;obtain⟨c,hc,e⟩:=h.inn x (List.mem_of_mem_drop a);exact⟨_,bY.2 ⟨c,hc,rfl⟩,e⟩
theorem vD (h:dG rs last):rs.length<=(aZ rs).length:=by
 have:∀l:List Rc,(∀r∈l,1<=r.en.length)->l.length<=(aZ l).length:=by
  intro l;induction l with
  |nil=>intro _;exact aA _
  |cons r l i=>intro hl;have a:=hl r au;have b:=i fun q H=>hl q (aH _ H);show l.length+1<=(r.en++aZ l).length;rw[aq];omega
 exact this rs fun r hr=>(h.len r hr).1
end
def mine (c:C) (n:Int):C:={c with count:=n}
theorem o9 (c:C) (n:Int) (l:List (Nat×Int)):merged [mine c n] l=[mine c (n+tot l c.page)]:=rfl
theorem qJ (c:C) (n:Int):find [mine c n] c.id=av (mine c n):=by unfold find mine;rw[List.find?_cons_of_pos (by exact beq_self_eq_true _)]
end Ch
end Go.Proofs.YtgfdijemhanfkaaGreatDoor
