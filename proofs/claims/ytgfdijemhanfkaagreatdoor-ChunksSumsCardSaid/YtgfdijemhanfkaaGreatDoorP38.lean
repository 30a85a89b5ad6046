/- Elder texts, cut down and merged (38). -/
import Derived.Test.YtgfdijemhanfkaaGreatDoorP36
import Derived.Test.YtgfdijemhanfkaaGreatDoorP5
import Derived.Test.YtgfdijemhanfkaaGreatDoorP37
import Derived.Test.YtgfdijemhanfkaaGreatDoorPTk
set_option linter.unusedSimpArgs false
set_option linter.unusedVariables false
set_option maxRecDepth 100000
set_option maxHeartbeats 8000000
namespace Go.Proofs.YtgfdijemhanfkaaGreatDoor
open _root_.Go.Proofs.Tryz
open Value renaming int→bf,string→cu,slice→cx,pointer→dr,agg→eU,bool→ey,tuple→ec
open IntKind renaming i64→ct
open Ending renaming returned→c8
open Obj renaming cells→dg
open Option renaming none→aK,some→av
open Or renaming inr→dc,inl→cS
open List renaming length_map->aL,mem_cons_self->au,take_of_length_le->bD,length_drop->aS,nil_append->cM,setIfInBounds_toArray->aC,set_cons_succ->aB,set_cons_zero->ay,drop_eq_getElem_cons->cE,take_append_drop->b_,getElem_mem->bp,take_succ_eq_append_getElem->cz,length_append->aq,append_nil->bh,length_take->aJ,getElem?_eq_getElem->aI,length_cons->a_
open Nat renaming le_refl->af,zero_add->bG,lt_of_lt_of_le->bL,zero_le->aA,sub_self->dm,min->eV,min_eq_left->bT,le_trans->aN
open World renaming alloc->dH,size_alloc->aY
open Int renaming tdiv_eq_ediv_of_nonneg->mL
section
open Go.RowKit Lib
section
variable {w X:World} {fv:Value} {sb rb n B last:Nat} {K:Φ} {Q:Ψ} {cs:List Ch.C} {rs:List Ch.Rc} {r:Ch.Rc}
theorem Et (h:KS w fv sb rb n cs (r::rs) last B K Q X) (J:Ch.dG (r::rs) last) {ge cp m k:Nat} (hl:bg gp X ge 0 r.en) (j:ge<X.heap.size) (F:m=r.en.length) (Bn:m<=cp) (v:k<m) (hB:B<=50000000) (hn:kG cs.length+kG (r::rs).length+cs.length+23<=n):
  Calls prog 97 #[ptr sb,eU #[cu (bs (Wl.enc 8 r.num)),cx (av ⟨ge,0,aK⟩) m cp],bf ct k] X fun e X'=>e=c8 (bf ct 0)/\KS w fv sb rb n cs (⟨r.num,r.en.drop k⟩::rs) last (B+30000) K Q X':=by
 have l:(two (Ch.gT cs) (Ch.cg (r::rs)) 0).length=cs.length:=Ch.iO;have L:(two (Ch.gT cs) (Ch.cg (r::rs)) 1).length=(r::rs).length:=Ch.j4;have P:(qG cs).length=cs.length:=aL _;have p:=J.len r au;have M:=J.en r au;have s:=(Below.refl _ X).alloc (af _) (dg #[cu (bs (Wl.enc 8 r.num)),cx (av ⟨ge,0,aK⟩) m cp] 186);obtain⟨O,x,R,H,z⟩:=h.boxed #[cu (bs (Wl.enc 8 r.num)),cx (av ⟨ge,0,aK⟩) m cp] 186;have N:=R.grow.still ((Below.refl _ _).drew);have vA:=aa H;have T:=aa (show ∀Y,x Y->Y.cell? ⟨X.heap.size,0,aK⟩=av (cu (bs (Wl.enc 8 r.num)))/\Y.cell? ⟨X.heap.size,1,aK⟩=av (cx (av ⟨ge,0,aK⟩) m cp) from fun Y U=>⟨(z Y U).cell rfl,(z Y U).cell rfl⟩);have C:=aa (fun (a:Nat) (W:World) (D:KG w fv sb rb n (two (Ch.gT cs) (Ch.cg (r::rs))) last (qG cs) B O x a W)=>T.o W D.done.q);have z8:=aa (fun (a:Nat) (W:World) (D:KG w fv sb rb n (two (Ch.gT cs) (Ch.cg (r::rs))) last (qG cs) B O x a W)=>Kr D);have d:=(hl.below s j).part k (m-k) κ;rw[show (r.en.drop k).take (m-k)=r.en.drop k from bD (by rw[aS];omega),bG,show gp.size=2 from rfl] at d;have f:=aa (show bg gp (X.alloc (dg #[cu (bs (Wl.enc 8 r.num)),cx (av ⟨ge,0,aK⟩) m cp] 186)).drew ge (k*2) (r.en.drop k)/\ge<(X.alloc (dg #[cu (bs (Wl.enc 8 r.num)),cx (av ⟨ge,0,aK⟩) m cp] 186)).drew.heap.size from⟨d,by show ge<(dH _ _).heap.size;rw[aY];omega⟩);have t:m-k=(r.en.drop k).length:=by rw[aS,F]
 have vK:=aa (show ∀(W:World),bg gp W ge (k*2) (r.en.drop k)->ge<W.heap.size->Calls prog 54 #[cx (av ⟨ge,k*2,aK⟩) (m-k) (cp-k)] W fun e w'=>e=c8 (cu (bs (Ch.txt (r.en.drop k))))/\Below W.heap.size W w' from fun W v h2=>by
  rw[t];exact oT v h2 (fun y hy=>M y (List.mem_of_mem_drop hy)) (cp-k) (by rw[aS];omega))
 have BD:=aa (show ∀(tb:Nat) (W:World) (K':Φ) (Q':Ψ),KT w fv sb rb tb 1 n (two (Ch.gT cs) (Ch.cg (r::rs))) last (qG cs) B K' Q' W->Calls prog 47 #[dr (av ⟨tb,0,aK⟩),cu (bs (Wl.enc 8 r.num)),cu (bs (Ch.txt (r.en.drop k)))] W fun e X'=>e=c8 (bf ct 0)/\KS w fv sb rb n cs (⟨r.num,r.en.drop k⟩::rs) last (B+30000) K' Q' X' from fun tb W K' Q' ht=>by
  have:=wV (key:=Wl.enc 8 r.num) (vl:=Ch.txt (r.en.drop k)) ht (by rw[Wl.bO];decide) (by rw[Ch.qV,aS];omega) κ (by rw[l,L,P];omega);refine this.mono ?_;rintro e X' ⟨rfl,V⟩;have u:=Ch.P0 (A:=[]) (r:=r) (B:=rs) J (r.en.drop k);rw[cM,cM] at u;rw[vw,show two (Ch.gT cs) (Ch.cg (r::rs)) 1=Ch.cg (r::rs) from rfl,u] at V;exact⟨rfl,V⟩)
 have g:=aa N;have hkm:(k:Int)<m:=κ
 have afb:(k:Int)<=m:=κ
 have pY:(0:Int)<=(k:Int):=κ
 have afc:(m:Int)<=cp:=κ
 have hkc:¬cp=k:=κ
 have afd:(k:Int)<=cp:=κ
 have Z:=C.o _ _ N;have hkN:k<=m:=κ
 clear h J hl j R N H z d t l L P p M s hB hn F Bn v;unfold ptr;generalize bs (Wl.enc 8 r.num)=KY at*;generalize (⟨r.num,r.en.drop k⟩::rs:List Ch.Rc)=RN at*;generalize (r::rs:List Ch.Rc)=RS at*;generalize bs (Ch.txt (r.en.drop k))=TX at*;go_enter func97,ntmps97;go_wp2_with fail;go_wp2_with (refine wp_region_held_drew (S:=(fun Y=>Y.cell? ⟨X.heap.size,0,aK⟩=av (cu KY)/\Y.cell? ⟨X.heap.size,1,aK⟩=av (cx (av ⟨ge,0,aK⟩) m cp))) η ?_ (fun b=> ?_);focus skip;rotate_left;refine Hid.o ?_);refine aa ?_;·exact Z
 clear Z;generalize (dH X _).drew=Y at*;generalize X.heap.size=bb at*;refine aR 0 b ?_;refine aR 2 b ?_;refine aR 3 b ?_;refine aR 4 b ?_;refine aR 5 b ?_;refine aR 6 b ?_;refine aR 7 b ?_;try simp only[Act.put,aC,aB,ay]
 clear b;refine fL [1] (fM fun K c=> ?_);go_simp;refine (z8.o _ _ g.o).mono ?_;rintro e w1 ⟨tb,rfl,vI,aT,I,G⟩;have i:=aa (And.intro aT vI);have f:=aa (And.intro (f.o.1.below G f.o.2) (bL f.o.2 G.size));have g:=aa I;refine c.out _ _ (C.o _ _ I) (fun b=> ?_);clear c b vI aT I G;refine fL [8] (fM fun K c=> ?_);go_simp;refine (vK.o _ f.o.1 f.o.2).mono ?_;rintro e w8 ⟨rfl,E⟩;have i:=aa (And.intro (i.o.1.below E i.o.1.lt) i.o.2);have g:=aa (g.o.still E);refine c.out _ _ (C.o _ _ g.o) (fun b=> ?_);clear c b E f;refine fL [9] (fM fun K c=> ?_);go_simp;refine (BD.o _ _ _ _ (g.o.look ξ i.o.2 i.o.1)).mono ?_;rintro e w9 ⟨rfl,u⟩;have H9:=aa (u.unbox g.o.kb);refine c.out _ _ (T.o _ H9.o.q) (fun b=> ?_);clear c u;refine aR 10 b ?_;refine wpAnyH_done η ?_ _;try simp only[Act.put,aC,aB,ay]
 go_wp2_with fail;go_ret;exact⟨rfl,vA.o _ _ _ _ _ _ H9.o (aE.refl _ _)⟩
theorem Hp (h:KS w fv sb rb n cs (r::rs) last B K Q X) (j:Ch.dG (r::rs) last) {ge cp m:Nat} (D:B<=50000000):
  Calls prog 97 #[ptr sb,eU #[cu (bs (Wl.enc 8 r.num)),cx (av ⟨ge,0,aK⟩) m cp],bf ct m] X fun e X'=>e=c8 (bf ct 0)/\KS w fv sb rb n cs rs last (B+30000) K Q X':=by
 obtain⟨p,g,s,H,i⟩:=h.boxed #[cu (bs (Wl.enc 8 r.num)),cx (av ⟨ge,0,aK⟩) m cp] 186;have N:=s.grow.still ((Below.refl _ _).drew);have F:=aa H;have E:=aa (show ∀Y,g Y->Y.cell? ⟨X.heap.size,0,aK⟩=av (cu (bs (Wl.enc 8 r.num)))/\Y.cell? ⟨X.heap.size,1,aK⟩=av (cx (av ⟨ge,0,aK⟩) m cp) from fun Y t=>⟨(i Y t).cell rfl,(i Y t).cell rfl⟩);have u:=aa (fun (a:Nat) (W:World) (k:KG w fv sb rb n (two (Ch.gT cs) (Ch.cg (r::rs))) last (qG cs) B p g a W)=>E.o W k.done.q);have Z:=aa (fun (a:Nat) (W:World) (k:KG w fv sb rb n (two (Ch.gT cs) (Ch.cg (r::rs))) last (qG cs) B p g a W)=>Kr k)
 have l:=aa (show ∀(tb:Nat) (W:World) (K':Φ) (Q':Ψ),KT w fv sb rb tb 1 n (two (Ch.gT cs) (Ch.cg (r::rs))) last (qG cs) B K' Q' W->Calls prog 148 #[dr (av ⟨tb,0,aK⟩),cu (bs (Wl.enc 8 r.num))] W fun e X'=>e=c8 (ec #[ey true,bf ct 0])/\KS w fv sb rb n cs rs last (B+30000) K' Q' X' from fun tb W K' Q' G=>by
  have:=Y6 (key:=Wl.enc 8 r.num) G κ;have v:=Ch.P5 (A:=[]) (r:=r) (B:=rs) j;have c:=Ch.Xv (A:=[]) (r:=r) (B:=rs) j;rw[cM] at v c;rw[cM] at c;rw[vw,show two (Ch.gT cs) (Ch.cg (r::rs)) 1=Ch.cg (r::rs) from rfl,v,c] at this;exact this)
 have f:=aa N;have J:¬(m:Int)<m:=κ
 have x:=u.o _ _ N;clear h j s N H i D;unfold ptr;generalize bs (Wl.enc 8 r.num)=L at*;generalize (r::rs:List Ch.Rc)=R at*;go_enter func97,ntmps97;go_wp2_with fail;go_wp2_with (refine wp_region_held_drew (S:=(fun Y=>Y.cell? ⟨X.heap.size,0,aK⟩=av (cu L)/\Y.cell? ⟨X.heap.size,1,aK⟩=av (cx (av ⟨ge,0,aK⟩) m cp))) η ?_ (fun b=> ?_);focus skip;rotate_left;refine Hid.o ?_);refine aa ?_;·exact x
 clear x;generalize (dH X _).drew=Y at*;generalize X.heap.size=O at*;refine aR 0 b ?_;refine aR 2 b ?_;refine aR 3 b ?_;try simp only[Act.put,aC,aB,ay]
 clear b;refine fL [1] (fM fun K d=> ?_);go_simp;refine (Z.o _ _ f.o).mono ?_;rintro e w1 ⟨tb,rfl,V,y,I,M⟩;have z:=aa (And.intro y V);have f:=aa I;refine d.out _ _ (u.o _ _ I) (fun b=> ?_);clear d b V y I M;refine fL [4] (fM fun K d=> ?_);go_simp;refine (l.o _ _ _ _ (f.o.look ξ z.o.2 z.o.1)).mono ?_;rintro e P ⟨rfl,c⟩;have C:=aa (c.unbox f.o.kb);refine d.out _ _ (E.o _ C.o.q) (fun b=> ?_);clear d c;refine aR 5 b ?_;refine aR 6 b ?_;refine aR 7 b ?_;refine aR 8 b ?_;refine aR 9 b ?_;refine wpAnyH_done η ?_ _;try simp only[Act.put,aC,aB,ay]
 go_wp2_with fail;go_ret;exact⟨rfl,F.o _ _ _ _ _ _ C.o (aE.refl _ _)⟩
end
structure L4 (w:World) (fv:Value) (sb rb n:Nat) (cs:List Ch.C) (rs:List Ch.Rc) (last B:Nat) (K:Φ) (Q:Ψ) (g b:Nat) (es:List Re) (l:List Ch.Rc) (v:Value) (c:Nat) (X:World):Prop where
 kw:∃O:Φ,KW w fv sb rb n (two (Ch.gT cs) (Ch.cg (Ch.leave rs c))) last (qG cs) B K Q O (fun Y=>vB Y g b es l/\oS 0 Y v ((Ch.aZ rs).take c)) X/\(∀k,g<=k->k<b->O k)/\∀k,v.ownBlock=av k->b<=k/\O k
section
variable {w X X':World} {fv:Value} {sb rb n B last:Nat} {K:Φ} {Q:Ψ} {cs:List Ch.C} {rs l:List Ch.Rc} {g b c:Nat} {es:List Re} {v:Value}
theorem L4.still (h:L4 w fv sb rb n cs rs last B K Q g b es l v c X) (H:Below X.heap.size X X'):L4 w fv sb rb n cs rs last B K Q g b es l v c X':=by obtain⟨O,a,d⟩:=h.kw;exact⟨O,a.still H,d⟩
theorem L4.p (h:L4 w fv sb rb n cs rs last B K Q g b es l v c X):vB X g b es l/\oS 0 X v ((Ch.aZ rs).take c):=by obtain⟨O,H,a⟩:=h.kw;exact H.p
theorem L4.done (h:L4 w fv sb rb n cs rs last B K Q g b es l v c X):KS w fv sb rb n cs (Ch.leave rs c) last B K Q X/\oS 0 X v ((Ch.aZ rs).take c):=by obtain⟨O,H,a⟩:=h.kw;exact⟨H.done,H.p.2⟩
theorem L4.le (h:L4 w fv sb rb n cs rs last B K Q g b es l v c X):b<=X.heap.size:=by have hp:=h.p.1.lt;obtain⟨O,H,a,h3⟩:=h.kw;have:=H.kh.Y5.2.1 (b-1) (dc (a (b-1) κ κ));omega
theorem L4.next (h:L4 w fv sb rb n cs rs last B K Q g b es l v c X) {v':Value} {L:List (Nat×Int)} (m:oS 0 X' v' L) (hg:X.grownBy X' v.ownBlock) (f:v'.ownBlock=v.ownBlock\/∀k,v'.ownBlock=av k->X.heap.size<=k):
  ∃(K':Φ) (Q':Ψ),KS w fv sb rb n cs (Ch.leave rs c) last B K' Q' X'/\∀(c' B':Nat) Y,(Ch.aZ rs).take c'=L->KS w fv sb rb n cs (Ch.leave rs c') last B' K' Q' Y->L4 w fv sb rb n cs rs last B' K Q g b es l v' c' Y:=by
 have t:=h.le;replace f:∀k,v'.ownBlock=av k->v.ownBlock=av k\/X.heap.size<=k:=fun k H=>by
  rcases f with f|f;·exact cS (by rw[<-f];exact H)
  ·exact dc (f k H)
 obtain⟨O,o,q,h3⟩:=h.kw;have j:∀k,v'.ownBlock=av k->k<X'.heap.size:=fun k H=>(Own.block m k H).2;have i:=o.p.1.but (aE.dK hg) fun k a d e=>by have:=(h3 k e).1;omega
 have r:=o.fN (O':=fun k=>O k\/v'.ownBlock=av k) (P':=fun Y=>vB Y g b es l/\oS 0 Y v' L) ((aE.dK hg).mono fun k _ e=>(h3 k e).2) (fun k H=>by
  rcases H with H|H;·exact cS H
  ·rcases f k H with h4|h4;·exact cS (h3 k h4).2
   ·exact dc ⟨h4,j k H⟩) (fun X2 A=>⟨i.but A fun k a d hn=>hn (cS (q k a d)),Own.but m A fun k H hn=>hn (dc H)⟩)
 refine⟨_,_,r.kh,fun c' B' Y hc s=>⟨fun k=>O k\/v'.ownBlock=av k, ?_,fun k a d=>Or.inl (q k a d),fun k H=>⟨?_,Or.inr H⟩⟩⟩;·rw[hc];exact r.on s
 ·rcases f k H with h4|h4;·exact (h3 k h4).1
  ·omega
end
theorem OI (lim:Int):-4611686018427387904<=lim->lim<=4611686018427387904->wrap64 (lim.tdiv 18)=lim.tdiv 18/\wrap64 (lim.tdiv 18+2)=lim.tdiv 18+2/\(0<=lim->(lim.tdiv 18+2).toNat=lim.toNat/18+2):=by
 intro H a;by_cases h:0<=lim;·rw[mL h];unfold wrap64;omega
 ·obtain⟨m,rfl⟩:∃m:Int,lim=-m:=⟨-lim,κ⟩;rw[Int.neg_tdiv,mL κ];unfold wrap64;omega
theorem bg.upto {α:Type} {K:Elem α} {w:World} {g o:Nat} {l:List α} (h:bg K w g o l) (m:Nat):bg K w g o (l.take m):=by have:=h.part 0 m (aA _);rw[Nat.zero_mul,Nat.add_zero,List.drop_zero] at this;exact this
theorem OJ {rs:List Ch.Rc} {last k:Nat} (j:Ch.dG rs last) (H:k<rs.length) {r:Ch.Rc} (hr:rs[k]?=av r):
  Ch.leave rs (Ch.aZ (rs.take k)).length=r::rs.drop (k+1)/\Ch.dG (r::rs.drop (k+1)) last/\(Ch.aZ (rs.take (k+1))).length=(Ch.aZ (rs.take k)).length+r.en.length/\
  (∀m,1<=m->m<r.en.length->Ch.leave rs ((Ch.aZ (rs.take k)).length+m)=⟨r.num,r.en.drop m⟩::rs.drop (k+1))/\Ch.leave rs ((Ch.aZ (rs.take k)).length+r.en.length)=rs.drop (k+1)/\
  (∀m,m<=r.en.length->(Ch.aZ rs).take ((Ch.aZ (rs.take k)).length+m)=(Ch.aZ rs).take (Ch.aZ (rs.take k)).length++r.en.take m)/\(Ch.aZ (rs.take k)).length+r.en.length<=(Ch.aZ rs).length:=by
 obtain⟨g,rfl⟩:=List.getElem?_eq_some_iff.1 hr;have e:rs=rs.take k++rs[k]::rs.drop (k+1):=by rw[<-cE H,b_]
 have h:∀q∈rs.take k,1<=q.en.length:=fun q d=>(j.len q (List.mem_of_mem_take d)).1;have M:=(j.len rs[k] (bp H)).1;have c:Ch.leave rs (Ch.aZ (rs.take k)).length=rs[k]::rs.drop (k+1):=by have:=Ch.qW (rs.take k) (rs[k]::rs.drop (k+1)) 0 h;rw[<-e,Nat.add_zero,Ch.sK] at this;exact this
 have E:Ch.aZ rs=Ch.aZ (rs.take k)++(rs[k].en++Ch.aZ (rs.drop (k+1))):=by have:=Ch.nr (rs.take k) (rs[k]::rs.drop (k+1));rw[<-e] at this;exact this
 refine⟨c,by have:=j.leave (Ch.aZ (rs.take k)).length;rwa [c] at this, ?_,fun m a b=> ?_, ?_,fun m f=> ?_, ?_⟩;·rw[cz H,wX,aq]
 ·have:=Ch.IP (A:=rs.take k) (B:=rs.drop (k+1)) (r:=rs[k]) h a b
  rwa [<-e] at this
 ·have:=Ch.MG (A:=rs.take k) (B:=rs.drop (k+1)) (r:=rs[k]) h M
  rwa [<-e] at this
 ·rw[E,List.take_append,bD κ,show (Ch.aZ (rs.take k)).length+m-(Ch.aZ (rs.take k)).length=m by omega,List.take_append_of_le_length f,List.take_append,bD (af _),dm,List.take_zero,bh]
 ·rw[E,aq,aq];omega
section
variable {w X:World} {fv:Value} {sb rb n B last:Nat} {K:Φ} {Q:Ψ} {cs:List Ch.C} {rs:List Ch.Rc}
theorem S1 (h:KS w fv sb rb n cs rs last B K Q X) (jR:Ch.dG rs last) (lim:Int) (lG:-4611686018427387904<=lim) (P:lim<=4611686018427387904) (hn:rs.length<=1000) (he:(Ch.aZ rs).length<=1000) (hB:B<=10000000) (s:lim.toNat<(Ch.aZ rs).length->kG cs.length+kG rs.length+cs.length+23<=n):
  Calls prog 56 #[ptr sb,bf ct lim] X fun e X'=>∃v,e=c8 (ec #[v,bf ct 0])/\oS 0 X' v ((Ch.aZ rs).take lim.toNat)/\KS w fv sb rb n cs (Ch.leave rs lim.toNat) last (B+30000*((Ch.aZ rs).take lim.toNat).length) K Q X':=by
 obtain⟨N,hN⟩:=ξx (((Ch.aZ rs).take lim.toNat).length);rw[<-hN];have HN:=aa hN;clear hN;obtain⟨hwT,R,S⟩:=OI lim lG P;obtain⟨F,hF⟩:=ξx (lim.tdiv 18+2);rw[<-hF] at S;have ZD:=Hj h jR F κ;have Ts:=aa h.kb;have EH:=aa jR;have Cf:=aa (show (Ch.aZ rs).length<=1000/\B<=10000000/\(lim.toNat<(Ch.aZ rs).length->kG cs.length+kG rs.length+cs.length+23<=n)/\rs.length<=1000 from⟨he,hB,s,hn⟩);have Z4:(rs.take F.toNat).length<=1000:=zaE
 have dP:=aa (show ∀k,k<(rs.take F.toNat).length->k<rs.length/\(rs.take F.toNat)[k]?=rs[k]? from fun k I=>by
  rw[aJ] at I;exact⟨κ,List.getElem?_take_of_lt κ⟩)
 have ab6:=aa (show (Ch.aZ rs).take (eV lim.toNat (Ch.aZ (rs.take (rs.take F.toNat).length)).length)=(Ch.aZ rs).take lim.toNat/\Ch.leave rs (eV lim.toNat (Ch.aZ (rs.take (rs.take F.toNat).length)).length)=Ch.leave rs lim.toNat by
  by_cases h0:0<=lim
  ·have e1:rs.take (rs.take F.toNat).length=rs.take F.toNat:=(by rw[aJ];rw[List.take_eq_take_iff];omega);rw[e1,S h0];rcases Ch.Xw (k:=lim.toNat) jR with H|H
   ·rw[H];by_cases h3:lim.toNat<=(Ch.aZ rs).length;·rw[show eV lim.toNat (Ch.aZ rs).length=lim.toNat from bT h3];exact⟨rfl,rfl⟩
    ·rw[show eV lim.toNat (Ch.aZ rs).length=(Ch.aZ rs).length from Nat.min_eq_right κ,List.take_length,bD κ,Ch.wj rs _ (fun r hr=>(jR.len r hr).1) (af _),Ch.wj rs lim.toNat (fun r hr=>(jR.len r hr).1) κ];exact⟨rfl,rfl⟩
   ·rw[show eV lim.toNat (Ch.aZ (rs.take (lim.toNat/18+2))).length=lim.toNat from bT κ];exact⟨rfl,rfl⟩
  ·rw[show lim.toNat=0 by omega,show ∀x,eV 0 x=0 from fun x=>Nat.zero_min x];exact⟨rfl,rfl⟩)
 rw[<-hF] at R;generalize hl:rs.take F.toNat=l at*;obtain⟨L,hL⟩:=ξx l.length;rw[<-hL] at ZD Z4 ab6 dP;have jD:=aa hL;have sV:=aa ZD;have zJ:(L:Int)<=1000:=κ
 have Ib:=aa (And.intro lG P);rw[hF] at R sV;clear h jR hn he hB s S ZD hL hl hF lG P F;unfold ptr at sV |-;go_enter func56,ntmps56;go_wp2_with fail;refine sV.o.mono ?_;rintro e w1 ⟨g,b,es,rfl,⟨y,wM⟩,hbs,f⟩
 have H1:=aa (show L4 w fv sb rb n cs rs last B K Q g b es l (cx aK 0 0) 0 w1 by
  have ho:=f.owned wM Ts.o;refine⟨fun k=>g<=k/\k<b, ?_,fun k f H=>⟨f,H⟩,fun k I=>by cases I⟩;rw[Ch.sK];exact⟨ho.kh.imp fun Y hY=>⟨hY.1,hY.2,Own.nil _ _ _ _⟩,ho.low,ho.kb⟩)
 have hcs:∀c:Nat,c<=1000->wrap64 (lim-(c:Int))=lim-c:=fun c hc=>by have:=Ib.o;unfold wrap64;omega
 have HCS:=aa hcs;clear f wM y sV hbs hwT R hcs;go_wp2
 go_loopw [8,26] (fun v iv wr=>∃k:Nat,k<=L/\iv=bf ct k/\∃c,Hid (c=eV lim.toNat (Ch.aZ (rs.take k)).length/\L4 w fv sb rb n cs rs last (B+30000*c) K Q g b es l v c wr)) (fun _ iv _=>L-(RowKit.intOf iv).toNat)
 case atStart=>exact⟨0,aA _,rfl,0,aa ⟨by rw[List.take_zero,show (Ch.aZ []).length=0 from rfl];exact (Nat.min_zero _).symm,H1.o⟩⟩
 case round=>
  clear H1;obtain⟨k,I,rfl,c,t⟩:=hrel;have q9:c<=(Ch.aZ rs).length:=by rw[t.o.1];exact aN (Nat.min_le_right _ _) (CS rs k)
  obtain⟨a,cap,hv,hcap⟩:=Own.slice t.o.2.p.2;rw[show ((Ch.aZ rs).take c).length=c by rw[aJ];exact bT q9] at hv hcap;subst hv;have adU:c<=1000:=by have:=Cf.o.1;omega
  have hwc:=HCS.o c adU;by_cases z:k<L
  ·have hI:(k:Int)<L:=κ;obtain⟨U,hlk⟩:=dP.o k z;have i:=t.o.2.p.1;have M:k<es.length:=(by rw[i.len,<-jD.o];exact z);obtain⟨x0,x1⟩:=AX i.blk k M;obtain⟨r,hr⟩:∃r,rs[k]?=av r:=⟨_,aI U⟩;obtain⟨ge,hge,J,V,A,y⟩:∃ge,(es[k]'M).blk=av ge/\(es[k]'M).key=Wl.enc 8 r.num/\(es[k]'M).n=r.en.length/\oS (g+1) wr (cx (av ⟨ge,0,aK⟩) (es[k]'M).n (es[k]'M).cap) r.en/\ge<b:=by obtain⟨⟨f,H,ge,h3,h4⟩,h5⟩:=i.all k (es[k]'M) r (aI M) (by rw[hlk];exact hr);exact⟨ge,h3,f,H,h4,h5 ge h3⟩
   rw[J] at x0;rw[show (es[k]'M).val=cx (av ⟨ge,0,aK⟩) (es[k]'M).n (es[k]'M).cap by unfold Re.val;rw[hge];rfl,V] at x1;rw[V] at A;have hcut:=OJ EH.o U hr;have Za:r.en.length<=(es[k]'M).cap:=(by obtain⟨_,cp0,ee,Za⟩:=Own.slice A;injection ee with _ _ ee;omega);have T:=aa hcut;have DL:=aa (And.intro A (And.intro y Za));have W:1<=r.en.length:=(EH.o.len r (List.mem_of_getElem? hr)).1;generalize (es[k]'M).cap=cp at*;clear i M hge J V A y hcut hlk U Za;obtain⟨m,hm⟩:=ξx r.en.length;rw[<-hm] at x1 W;have C:=aa hm;have HRL:=aa (show m<=1000/\(Ch.aZ rs).length<=1000 from⟨by have:=T.o.2.2.2.2.2.2;have:=Cf.o.1;omega,Cf.o.1⟩);obtain⟨KY,Y8⟩:=ξx (bs (Wl.enc 8 r.num));rw[<-Y8] at x0;have HKY:=aa Y8;clear hm Y8 hr;have E:=(Below.refl _ wr).alloc (af _) (dg #[cu KY,cx (av ⟨ge,0,aK⟩) m cp] 186);have HA:=aa (t.o.2.still E);by_cases hbr:lim-(c:Int)<1
   ·have hmin:min (m:Int) (lim-(c:Int))=lim-c:=κ;have hlc:c=lim.toNat:=by have f:=t.o.1;have H:eV lim.toNat (Ch.aZ (rs.take k)).length<=lim.toNat:=Nat.min_le_left _ _;omega
    have HE:=aa (show oS 0 _ (cx a c cap) ((Ch.aZ rs).take lim.toNat)/\KS w fv sb rb n cs (Ch.leave rs lim.toNat) last (B+30000*N) K Q _ by
     have hd:=HA.o.done;rw[HN.o,<-hlc];exact⟨hd.2,hd.1.more (by rw[aJ,bT q9];exact af _)⟩)
    clear W hlc E;go_wp2
    go_ret2
    exact⟨_,rfl,HE.o.1,HE.o.2⟩
   ·have Z:c=(Ch.aZ (rs.take k)).length:=by
     have f:=t.o.1;rcases Nat.le_total lim.toNat (Ch.aZ (rs.take k)).length with H|H;·rw[show eV lim.toNat (Ch.aZ (rs.take k)).length=lim.toNat from bT H] at f;omega
     ·rwa [show eV lim.toNat (Ch.aZ (rs.take k)).length=(Ch.aZ (rs.take k)).length from Nat.min_eq_right H] at f
    obtain⟨d,hmin,hk1,hk2,qh⟩:∃d:Nat,min (m:Int) (lim-(c:Int))=(d:Int)/\1<=d/\d<=m/\c+d=eV lim.toNat (Ch.aZ (rs.take (k+1))).length:=by
     have h3:=T.o.2.2.1;rw[<-C.o,<-Z] at h3;rw[h3];rcases Nat.le_total lim.toNat (c+m) with H|H;·exact⟨lim.toNat-c,κ,κ,κ,by rw[show eV lim.toNat (c+m)=lim.toNat from bT H];omega⟩
     ·exact⟨m,κ,κ,κ,(show eV lim.toNat (c+m)=c+m from Nat.min_eq_right H).symm⟩
    have hn1:¬(d:Int)<1:=κ;have hkm:(d:Int)<=m:=κ;have pY:(0:Int)<=(d:Int):=κ;have afe:(d:Int)<=cp:=(by have:=DL.o.2.2;have:=C.o;omega);have D:=aa (And.intro hk1 (And.intro hk2 (And.intro qh Z)));have hbp:=aW.new wr #[cu KY,cx (av ⟨ge,0,aK⟩) m cp] 186;have HBP:=aa hbp;have HLi:=aa ((Own.lies DL.o.1).below E (Own.block DL.o.1 ge rfl).2);have HVB:=aa (fun q hq=>Own.block t.o.2.p.2 q hq);clear W hk1 hk2 qh Z hbp E hbr;go_wp2_with (at_builtin;refine Hid.o ?_);generalize dH wr _=wa at*;generalize hpb:wr.heap.size=pb at*;refine aa ?_;refine fB (K:=gp) Ni rfl _ _ rfl rfl HA.o.p.2 (aA _) ge 0 d cp (r.en.take d) rfl (by rw[aJ];have:=D.o.2.1;have:=C.o;omega) (bg.upto HLi.o d) (by rw[aJ];have:=D.o.2.1;have:=HRL.o;omega) ?_;intro v' w4 oP iE QM;obtain⟨K',Q',G,u⟩:=HA.o.next oP iE QM;have htk:=T.o.2.2.2.2.2.1 d (by rw[<-C.o];exact D.o.2.1);rw[<-D.o.2.2.2] at htk;have hb4:=HBP.o.but (aE.dK iE) (fun e=>by have:=(HVB.o pb e).2;omega)
    have ZE:=HLi.o.but (aE.dK iE) (fun e=>by
     obtain⟨O,_,_,h3⟩:=t.o.2.kw;have:=(h3 ge e).1;have:=DL.o.2.1;omega)
    have Gd:ge<w4.heap.size:=(by have f:=(Own.block DL.o.1 ge rfl).2;have H:=iE.size;have h3:=HBP.o.lt;omega);have hlv:=T.o.1;rw[<-D.o.2.2.2] at hlv;rw[hlv] at G;have qK:d<m->kG cs.length+kG (r::rs.drop (k+1)).length+cs.length+23<=n:=fun hq=>by
     have oQ:lim.toNat<(Ch.aZ rs).length:=by
      have f:=D.o.2.2.1;have H:=T.o.2.2.2.2.2.2;have h3:=T.o.2.2.1;rw[<-C.o] at H h3;have h4:=D.o.2.2.2;rcases Nat.le_total lim.toNat (Ch.aZ (rs.take (k+1))).length with h5|h5;·rw[show eV lim.toNat (Ch.aZ (rs.take (k+1))).length=lim.toNat from bT h5] at f;omega
      ·rw[show eV lim.toNat (Ch.aZ (rs.take (k+1))).length=(Ch.aZ (rs.take (k+1))).length from Nat.min_eq_right h5] at f;omega
     have:=Cf.o.2.2.1 oQ
     have h8:kG (r::rs.drop (k+1)).length<=kG rs.length:=AP (by
      rw[a_,aS];have:k<rs.length:=(dP.o k z).1;omega)
     omega
    have Rg:B+30000*c<=50000000:=(by have:=Cf.o.2.1;omega);have adV:=D.o.1
    have Xz:=aa (show Calls prog 97 #[dr (av ⟨sb,0,aK⟩),eU #[cu KY,cx (av ⟨ge,0,aK⟩) m cp],bf ct d] w4 fun e X'=>e=c8 (bf ct 0)/\KS w fv sb rb n cs (Ch.leave rs (c+d)) last (B+30000*(c+d)) K' Q' X' by
     rw[HKY.o];by_cases hq:d<m;·have h7:=Et (cp:=cp) (m:=m) (k:=d) G T.o.2.1 ZE Gd C.o (by have:=DL.o.2.2;have:=C.o;omega) hq Rg (qK hq);unfold ptr at h7;have h8:=T.o.2.2.2.1 d D.o.1 (by rw[<-C.o];exact hq);rw[<-D.o.2.2.2] at h8;rw[h8];exact h7.mono fun e X' ⟨he,I⟩=>⟨he,I.more κ⟩
     ·have hqm:d=m:=(by have:=D.o.2.1;omega);have h7:=Hp G T.o.2.1 (ge:=ge) (cp:=cp) (m:=m) Rg;unfold ptr at h7;have h8:=T.o.2.2.2.2.1;rw[<-D.o.2.2.2,<-C.o] at h8;rw[hqm,h8];exact h7.mono fun e X' ⟨he,I⟩=>⟨he,I.more κ⟩)
    have HNX:=aa (fun Y hY=>u (c+d) (B+30000*(c+d)) Y htk hY);have z0:=hb4.cell (j:=0) rfl;have z1:=hb4.cell (j:=1) rfl;clear oP iE QM G u htk hb4 ZE Gd hlv qK Rg adV HA HLi HVB HBP t;go_wp2_with fail;refine Xz.o.mono ?_;rintro e w6 ⟨rfl,h6⟩;have H6:=aa (HNX.o _ h6);clear h6 z0 z1;go_wp2;go_roundw
    case rel=>exact⟨k+1,z,ς,c+d,aa ⟨D.o.2.2.1,H6.o⟩⟩
    case measure=>simp[RowKit.intOf];omega
  ·obtain rfl:k=L:=by omega
   have hI:¬(k:Int)<k:=κ
   have HE:=aa (show oS 0 wr (cx a c cap) ((Ch.aZ rs).take lim.toNat)/\KS w fv sb rb n cs (Ch.leave rs lim.toNat) last (B+30000*N) K Q wr by
    have hd:=t.o.2.done;have f:=ab6.o;rw[<-t.o.1] at f;have H:c=((Ch.aZ rs).take lim.toNat).length:=(by rw[<-f.1,aJ,bT q9]);rw[f.1,f.2] at hd;rw[HN.o,<-H];exact⟨hd.2,hd.1⟩)
   go_wp2
   go_ret2
   exact⟨_,rfl,HE.o.1,HE.o.2⟩
end
section
variable {w X:World} {fv:Value} {sb rb n B last:Nat} {K:Φ} {Q:Ψ} {cs:List Ch.C} {rs:List Ch.Rc}
theorem S3 (h:KS w fv sb rb n cs rs last B K Q X) (H:∀c∈cs,Ch.One c) {c:Ch.C} {id:Ch.Text} (hf:Ch.find cs id=av c) (b:Int) (d:b=1\/b=-1) (j:Ch.dG rs last) (hl:last+1<4611686018427387904) (g:B<=50000000) (hn:kG cs.length+kG rs.length+cs.length+23<=n):
  Calls prog 11 #[ptr sb,cu (bs id),bf ct b] X fun e X'=>e=c8 (bf ct 0)/\KS w fv sb rb n cs (Ch.enter rs last (c.page,b)).1 (Ch.enter rs last (c.page,b)).2 (B+60000) K Q X':=by
 have f:=aa (Kv h H hf b d);have a:=(Ch.nj hf).1;have k:=aa (show ∀W,KS w fv sb rb n cs rs last B K Q W->Calls prog 25 #[dr (av ⟨sb,0,aK⟩),eU #[bf ct c.page,bf ct b]] W fun e X'=>e=c8 (bf ct 0)/\KS w fv sb rb n cs (Ch.enter rs last (c.page,b)).1 (Ch.enter rs last (c.page,b)).2 (B+60000) K Q X' from fun W l=>SP l j hl (x:=(c.page,b)) ⟨(H c a).page,d⟩ g hn);clear h H hf d j hl g hn a;unfold ptr EA at f;unfold ptr;generalize bs c.id=v0 at*;generalize (c.text.length:Int)=v2 at*;generalize c.count=v at*;go_enter func11,ntmps11;go_wp2_with fail;refine f.o.mono ?_;rintro e w1 ⟨rfl,i⟩;have m:=aa (i.still ((Below.refl _ w1).alloc (af _) (dg #[cu v0,bf ct c.page,bf ct v2,bf ct v] 73)));clear i f;go_wp2_with fail;refine (k.o _ m.o).mono ?_;rintro e q ⟨rfl,p⟩;go_wp2;go_ret;exact⟨rfl,p⟩
theorem Hq (h:KS w fv sb rb n cs rs last B K Q X) (H:∀c∈cs,Ch.One c) {c:Ch.C} {id:Ch.Text} (hf:Ch.find cs id=av c) (j:Ch.dG rs last) (hn:rs.length<=1000) (i:(Ch.aZ rs).length<=1000):
  Calls prog 13 #[ptr sb,cu (bs id)] X fun e X'=>e=c8 (ec #[bf ct c.count,bf ct (Ch.tot (Ch.aZ rs) c.page),bf ct 0])/\KS w fv sb rb n cs rs last B K Q X':=by
 have d:=(Ch.nj hf).1;obtain⟨O,-⟩:=And.intro (H c d).page trivial;have l:=Es h H id;rw[hf,Option.isSome_some,if_pos rfl] at l;have s:=aa l;have D:=aa (And.intro (vC j) (And.intro i O));have f:∀W:World,KH w fv sb rb n (two (Ch.gT cs) (Ch.cg rs)) last (qG cs) B K Q W->∃(k:Φ) (a:Ψ),KS w fv sb rb n cs rs last B k a (W.alloc (dg #[cu (bs c.id),bf ct c.page,bf ct c.text.length,bf ct c.count] 73))/\(∀Y,KS w fv sb rb n cs rs last B k a Y->KS w fv sb rb n cs rs last B K Q Y)/\∀Y,a Y->aW Y W.heap.size 73 [cu (bs c.id),bf ct c.page,bf ct c.text.length,bf ct c.count]:=fun W p=>by obtain⟨k,a,F,g,G⟩:=p.boxed #[cu (bs c.id),bf ct c.page,bf ct c.text.length,bf ct c.count] 73;exact⟨k,a,F,fun Y I=>g _ _ _ _ _ _ I (aE.refl _ _),G⟩
 have r:=aa f;have t:=aa (show ∀(k:Φ) (a:Ψ) W,KS w fv sb rb n cs rs last B k a W->Calls prog 29 #[dr (av ⟨sb,0,aK⟩)] W fun e X'=>∃b m,e=c8 (ec #[.map (av b),bf ct 0])/\SMap X' b m/\Ch.nv m (Ch.aZ rs)/\KS w fv sb rb n cs rs last B k a X' from fun k a W p=>Kt p j hn i);clear h H hf j hn i d l f O;simp only[ckO] at s;unfold ptr EA at s;unfold ptr;obtain⟨pg,A⟩:=ξx c.page;rw[<-A] at s r D |-;generalize bs c.id=v0 at*;generalize (c.text.length:Int)=v2 at*;generalize c.count=V at*;clear A;go_enter func13,ntmps13;go_wp2_with fail;refine s.o.mono ?_;rintro e w1 ⟨rfl,v⟩;obtain⟨k,a,x,y,z⟩:=r.o w1 v;have u:=aa (And.intro x (And.intro y z));clear v s r x y z;go_wp2_with fail;generalize dH w1 _=M at*;generalize w1.heap.size=N at*;refine (t.o _ _ _ u.o.1).mono ?_;rintro e w3 ⟨b,m,rfl,E,h3,h4⟩;have P:=aa h4;obtain⟨x0,R,T,U,_,_,_,_⟩:=four (u.o.2.2 w3 h4.q);have S:∀q,(Instr.lookup 84 (.map (av b)) (bf ct pg) false).run prog (w3.drewN q)=.ok (bf ct (Ch.tot (Ch.aZ rs) pg)) (w3.drewN q):=fun q=>(show SMap (w3.drewN q) b m from E).tells h3 D.o.1 (by have:=D.o.2.1;omega) (by have:=D.o.2.2;omega);have J:(Instr.lookup 84 (.map (av b)) (bf ct pg) false).run prog w3.drew=.ok (bf ct (Ch.tot (Ch.aZ rs) pg)) w3.drew:=S 1;have L:=aa (show KS w fv sb rb n cs rs last B K Q w3.drew from u.o.2.1 _ (h4.still ((Below.refl _ w3).drew)));clear E h3 h4;go_wp2_with fail
 go_region
 go_wp2_with fail
 go_ret3
 exact⟨rfl,L.o⟩
end
end
end Go.Proofs.YtgfdijemhanfkaaGreatDoor
