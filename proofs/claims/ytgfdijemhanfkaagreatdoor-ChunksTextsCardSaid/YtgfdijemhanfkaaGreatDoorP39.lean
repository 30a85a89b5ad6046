/- Elder texts, cut down and merged (39). -/
import Derived.Test.YtgfdijemhanfkaaGreatDoorP38
import Derived.Test.YtgfdijemhanfkaaGreatDoorP17
import Derived.Test.YtgfdijemhanfkaaGreatDoorP37
import Derived.Test.YtgfdijemhanfkaaGreatDoorP5
import Derived.Test.YtgfdijemhanfkaaGreatDoorP23
import Derived.Test.YtgfdijemhanfkaaGreatDoorPTk
set_option linter.unusedSimpArgs false
set_option linter.unusedVariables false
set_option maxRecDepth 100000
set_option maxHeartbeats 8000000
namespace Go.Proofs.YtgfdijemhanfkaaGreatDoor
open _root_.Go.Proofs.Tryz
open IntKind renaming i64→ct
open Or renaming inr→dc,inl→cS
open Value renaming int→bf,string→cu,slice→cx,pointer→dr,tuple→ec,bool→ey
open Ending renaming returned→c8
open Obj renaming cells→dg
open Option renaming none→aK,some→av
open Nat renaming le_trans->aN,zero_le->aA,le_refl->af,zero_add->bG,mul_one->eR
open List renaming length_take->aJ,length_map->aL,getElem_map->gS,getElem_mem->bp,pairwise_iff_getElem->gh,take_succ_eq_append_getElem->cz,take_of_length_le->bD,mem_map->bY,replicate->aV,length_replicate->dR,getD_eq_getElem?_getD->bC,getElem?_replicate->mF,mem_cons_self->au,mem_singleton->bB
open World renaming size_alloc->aY
open UInt8 renaming ofNat->az
section
open Go.RowKit Lib
structure Kw (w:World) (fv:Value) (sb rb n:Nat) (cs:List Ch.C) (rs:List Ch.Rc) (last B:Nat) (K:Φ) (Q:Ψ) (bm:Nat) (m:Wl.ew) (u:Value) (X:World):Prop where
 kw:∃O:Φ,KW w fv sb rb n (two (Ch.gT cs) (Ch.cg rs)) last (qG cs) B K Q O (fun Y=>SMap Y bm m/\Own (eo ct) 3 0 Y u (m.map fun x=>(x.1:Int))) X
section
variable {w X X':World} {fv:Value} {sb rb n B B' last bm:Nat} {K:Φ} {Q:Ψ} {cs cs':List Ch.C} {rs rs':List Ch.Rc} {m:Wl.ew} {u:Value}
theorem Kw.p (h:Kw w fv sb rb n cs rs last B K Q bm m u X):SMap X bm m/\Own (eo ct) 3 0 X u (m.map fun x=>(x.1:Int)):=by obtain⟨O,H⟩:=h.kw;exact H.p
theorem Kw.still (h:Kw w fv sb rb n cs rs last B K Q bm m u X) (H:Below X.heap.size X X'):Kw w fv sb rb n cs rs last B K Q bm m u X':=by obtain⟨O,a⟩:=h.kw;exact⟨O,a.still H⟩
theorem Kw.done (h:Kw w fv sb rb n cs rs last B K Q bm m u X):KS w fv sb rb n cs rs last B K Q X:=by obtain⟨O,H⟩:=h.kw;exact H.done
theorem Kw.call (h:Kw w fv sb rb n cs rs last B K Q bm m u X):∃(K':Φ) (Q':Ψ),KS w fv sb rb n cs rs last B K' Q' X/\∀cs' rs' B' Y,KS w fv sb rb n cs' rs' last B' K' Q' Y->Kw w fv sb rb n cs' rs' last B' K Q bm m u Y:=by obtain⟨O,H⟩:=h.kw;exact⟨_,_,H.kh,fun cs' rs' B' Y a=>⟨O,H.on a⟩⟩
theorem Kw.begin {b:Nat} (h:KS w fv sb rb n cs rs last B K Q X) (c:Below X.heap.size X X') (a:SMap X' bm m) (d:X.heap.size<=bm) (h3:Own (eo ct) 3 b X' u (m.map fun x=>(x.1:Int))) (h4:X.heap.size<=b):Kw w fv sb rb n cs rs last B K Q bm m u X':=by refine⟨fun k=>X.heap.size<=k/\k<X'.heap.size,(KH.own h).fN (aE.aF c _) (fun k H=>dc H) fun X2 A=>⟨a.but A fun hn=>hn ⟨d,a.lt⟩,Own.mono (Own.but h3 A fun k H hn=>hn ⟨aN h4 (Own.block h3 k H).1,(Own.block h3 k H).2⟩) (aA _)⟩⟩
end
section
variable {w X:World} {sb rb n B last:Nat} {K:Φ} {Q:Ψ} {cs:List Ch.C} {rs:List Ch.Rc}
theorem S4 (h:KS w cX sb rb n cs rs last B K Q X) (hT:jC w) (hF:∀t,(Sha.print t).length=32) (nu:Ch.Up cs) (S:Ch.sB Sha.print cs) (E:∀c∈cs,Ch.One c) (T:∀c∈cs,-4000000000000000000<=c.count/\c.count<=4000000000000000000) (q9:cs.length<=1000) (jR:Ch.dG rs last) (U:∀x∈Ch.aZ rs,∃c∈cs,c.page=x.1) (lim:Int) (lG:-4611686018427387904<=lim) (H:lim<=4611686018427387904) (hn:rs.length<=1000) (y:(Ch.aZ rs).length<=500) (hB:B<=10000000) (q:lim.toNat<(Ch.aZ rs).length->kG cs.length+kG rs.length+cs.length+23<=n) (qK:kG cs.length+kG (Ch.leave rs lim.toNat).length+cs.length+23<=n):
  Calls prog 27 #[ptr sb,bf ct lim] X fun e X'=>e=c8 (ec #[bf ct ((Ch.aZ rs).take lim.toNat).length,bf ct 0])/\KS w cX sb rb n (Ch.merged cs ((Ch.aZ rs).take lim.toNat)) (Ch.leave rs lim.toNat) last (B+60000*((Ch.aZ rs).take lim.toNat).length) K Q X':=by
 have HPG:=aa (show ∀c∈cs,∀d∈cs,c.page=d.page->c=d from fun c hc d hd e=>h.page hc hd e);have A_:=aa (S1 h jR lim lG H hn κ hB q);obtain⟨L,V⟩:=ξx ((Ch.aZ rs).take lim.toNat);have A:∀x∈L,Ch.oG x:=fun x Y=>by rw[V] at Y;exact vC jR x (List.mem_of_mem_take Y)
 have Z:L.length<=500:=by rw[V,aJ];omega
 have Z4:L.length<=1000:=κ
 have HIN:=aa (show ∀p,Ch.there L p=true->∃c∈cs,c.page=p from fun p hp=>by
  unfold Ch.there at hp;obtain⟨x,Y,y⟩:=List.any_eq_true.1 hp;obtain⟨c,hc,e⟩:=U x (by rw[V] at Y;exact List.mem_of_mem_take Y);exact⟨c,hc,by rw[e];exact of_decide_eq_true y⟩)
 have r:=aa (And.intro hT (And.intro hF (And.intro nu (And.intro S (And.intro E T)))));have HN:=aa (show cs.length<=1000/\B<=10000000/\kG cs.length+kG (Ch.leave rs lim.toNat).length+cs.length+23<=n/\L.length<=1000 from⟨q9,hB,qK,Z4⟩)
 have F:=aa (show ∀(a:Option Addr) (cap:Nat) (W:World),oS 0 W (cx a L.length cap) L->Calls prog 57 #[cx a L.length cap] W fun e w'=>∃m,e=c8 (.map (av W.heap.size))/\SMap w' W.heap.size m/\Ch.nv m L/\m.length<=L.length/\Below W.heap.size W w' from fun a cap W ho=>by
  by_cases h0:0<L.length;·obtain⟨g,cap',e,_,hg,_⟩:=Own.form ho h0;injection e with e1 _ e3;subst e1 e3;exact oU (g:=g) (o:=0) _ _ (fun _=>⟨rfl,Own.lies ho,hg⟩) A Z4
  ·exact oU (g:=0) (o:=0) _ _ (fun h=>absurd h h0) A Z4)
 rw[<-V] at A_ |-;generalize Ch.leave rs lim.toNat=RN at*;have S5:=aa (And.intro A Z);clear h jR lG H hn y hB q qK U A Z4 Z hT hF nu S E T q9 V;unfold ptr at A_ |-;obtain⟨N,hN⟩:=ξx L.length;rw[<-hN] at F |-;have Cf:=aa hN;clear hN;go_enter func27,ntmps27;go_wp2_with fail;refine A_.o.mono ?_;rintro e w1 ⟨v,rfl,rO,s⟩;obtain⟨a,cap,rfl,hc1⟩:=Own.slice rO;rw[<-Cf.o] at rO s |-;have H1:=aa s;have WK:=aa (F.o a cap w1 rO);clear s rO hc1 A_ F;go_wp2_with fail;refine WK.o.mono ?_;rintro e w2 ⟨m,rfl,hm2,kH,H,aQ⟩;have C:=aa (And.intro hm2 (And.intro kH (And.intro H aQ)));clear hm2 kH H aQ WK;go_wp2_with fail;refine (Nr (av w1.heap.size) w2).mono ?_;rintro e w3 ⟨rfl,rfl⟩;have b8:=(Below.refl _ w2).alloc (af _) (dg #[.map (av w1.heap.size)] 84);have HSO:=aa (FX w1.heap.size w2.heap.size m _ (C.o.1.but (aE.aF b8 (fun _=>False)) id) (by have:=C.o.2.2.1;have:=S5.o.2;have:=Cf.o;omega) ((aW.new w2 #[.map (av w1.heap.size)] 84).cell rfl));have R:=aa b8;clear b8;go_wp2_with fail;refine HSO.o.mono ?_;rintro e w4 ⟨u,rfl,hu,G⟩;have ab9:=(C.o.2.2.2.trans (R.o.mono C.o.2.2.2.size)).trans (G.mono (by have h5:=C.o.2.2.2.size;have h6:=R.o.size;omega))
 have H4:=aa (show Kw w cX sb rb n (Ch.added cs L []) RN last (B+30000*N) K Q w1.heap.size m u w4 by
  rw[Ch.MH];exact Kw.begin H1.o ab9 (C.o.1.but (aE.aF (R.o.trans (G.mono R.o.size)) (fun _=>False)) id) (af _) hu (by have h5:=C.o.2.2.2.size;have h6:=R.o.size;omega))
 obtain⟨ua,adX,rfl,_⟩:=Own.slice hu;rw[aL];have D:=aa (And.intro C.o.2.1 C.o.2.2.1);have OZ:=aa C.o.1.2;clear hu G ab9 HSO R C H1;generalize w1.heap.size=bm at*;obtain⟨J,hJ⟩:=ξx m.length;rw[<-hJ];have HJ:=aa hJ;have hJN:J<=N:=by have:=D.o.2;omega
 have O6:N<=500:=by have:=S5.o.2;have:=Cf.o;omega
 have HJN:=aa (And.intro hJN O6);have hJI:(J:Int)<=500:=κ
 clear hJN O6;clear hJ;go_wp2
 go_loopw [29] (fun iv wr=>∃k:Nat,k<=J/\iv=bf ct k/\Hid (Kw w cX sb rb n (Ch.added cs L ((m.map (·.1)).take k)) RN last (B+30000*N+30000*k) K Q bm m (cx ua (m.map fun x=>(x.1:Int)).length adX) wr)) (fun iv _=>J-(RowKit.intOf iv).toNat)
 case atStart=>exact⟨0,aA _,rfl,aa (by rw[List.take_zero];exact H4.o)⟩
 case round=>
  clear H4;obtain⟨k,hk,rfl,HR⟩:=hrel;by_cases hlt:k<J
  ·have hI:(k:Int)<J:=κ;have f:k<m.length:=(by rw[<-HJ.o];exact hlt);have eP:k<(m.map fun x=>(x.1:Int)).length:=(by rw[aL];exact f);obtain⟨g,cap',hv,_,hg,_⟩:=Own.form HR.o.p.2 κ;injection hv with EB B9 Ti;subst EB Ti;clear B9;have H:bg (eo ct) wr g 0 (m.map fun x=>(x.1:Int)):=Own.lies HR.o.p.2;have x0:=H.at k 0 ξ eP (bf ct (m[k]'f).1) (by rw[gS];rfl);rw[show (eo ct).size=1 from rfl,bG,eR,Nat.add_zero] at x0;obtain⟨e,y⟩:=ξx (m[k]'f);rw[<-y] at x0;have hem:(e.1,e.2)∈m:=(by rw[y];exact bp f);have hth:Ch.there L e.1=true:=by
    have s:=Wl.w_ OZ.o.1 hem;rw[D.o.1.at_ e.1] at s;by_cases h2:Ch.there L e.1=true;·exact h2
    ·rw[if_neg h2] at s;cases s
   obtain⟨c,hc,Bn⟩:=HIN.o e.1 hth;have I:c.page∉(m.map (·.1)).take k:=(by intro hmem;obtain⟨i,hi,Zk⟩:=List.mem_iff_getElem.1 hmem;rw[aJ,aL] at hi;rw[List.getElem_take,gS] at Zk;have h3:=gh.1 OZ.o.1 i k κ f κ;rw[Zk,Bn,y] at h3;omega);have M:c∈Ch.added cs L ((m.map (·.1)).take k):=by
    have:=Ch.MI (l:=L) (ps:=(m.map (·.1)).take k) hc;rw[if_neg I,Int.add_zero] at this;exact this
   have O:=fun p=>Ch.we L p S5.o.1;have hL5:=S5.o.2;have ZM:∀d∈Ch.added cs L ((m.map (·.1)).take k),Ch.One d:=fun d hd=>by
    obtain⟨d0,We,q1,q2,q3,q4⟩:=Ch.B1 hd;have o:=r.o.2.2.2.2.1 d0 We;have b:=r.o.2.2.2.2.2 d0 We;have t:=O d0.page;refine⟨by rw[q1];exact o.id,by rw[q2];exact o.page,by rw[q3];exact o.low,by rw[q3];exact o.high, ?_, ?_⟩;·rw[q4];split<;>omega
    ·rw[q4];split<;>omega
   have hna:Ch.sB Sha.print (Ch.added cs L ((m.map (·.1)).take k)):=fun d hd=>by obtain⟨d0,We,q1,q2,q3,q4⟩:=Ch.B1 hd;obtain⟨z,hz⟩:=r.o.2.2.2.1 d0 We;exact⟨z,by rw[q1,q3];exact hz⟩
   have hoc:Ch.One {c with count:=c.count+Ch.tot L c.page}:=(by have o:=r.o.2.2.2.2.1 c hc;have b:=r.o.2.2.2.2.2 c hc;have t:=O c.page;exact⟨o.id,o.page,o.low,o.high,by show-4611686018427387904<=c.count+_;omega,by show c.count+_<=_;omega⟩);have P:=Ch.Dm cs L ((m.map (·.1)).take k);have j:=Ch.IQ r.o.2.2.1 HPG.o (l:=L) hc I;have hnx:(m.map (·.1)).take (k+1)=(m.map (·.1)).take k++[c.page]:=(by rw[cz (by rw[aL];exact f),gS,Bn,y]);rw[<-hnx] at j;have hua:=Ch.P7 r.o.2.2.1 L ((m.map (·.1)).take k);obtain⟨K',Q',hks,cL⟩:=HR.o.call;have sq:∀W:World,SMap W bm m->(Instr.lookup 84 (.map (av bm)) (bf ct c.page) false).run prog W=.ok (bf ct (Ch.tot L c.page)) W:=fun W hW=>hW.tells D.o.1 S5.o.1 κ (by have:=(r.o.2.2.2.2.1 c hc).page;omega);have VS:=aa sq;rw[<-Bn] at x0;have Rg:B+30000*N+30000*k<=50000000:=(by have:=HJN.o;have:=HN.o.2.1;omega);have gU:=aa (Ho hks r.o.1 r.o.2.1 hna ZM (by rw[P];have:=HN.o.1;omega) M)
   have HAD:=aa (show ∀W,KS w cX sb rb n (Ch.added cs L ((m.map (·.1)).take k)) RN last (B+30000*N+30000*k) K' Q' W->Calls prog 61 #[dr (av ⟨sb,0,aK⟩),EA c,bf ct (Ch.tot L c.page)] W fun e X'=>e=c8 (bf ct 0)/\KS w cX sb rb n (Ch.added cs L ((m.map (·.1)).take (k+1))) RN last (B+30000*N+30000*(k+1)) K' Q' X' from fun W hW=>by
    have:=SZ hW M hua (Ch.tot L c.page) hoc Rg (by rw[P];exact HN.o.2.2.1);rw[j] at this;exact this)
   have FN:=aa cL;clear f eP hg H y hem hth Bn I M O hL5 ZM hna hoc P j hnx hua hks cL sq Rg hc;unfold ptr at gU;unfold EA at gU HAD;go_wp2_with fail;refine gU.o.mono ?_;rintro e9 w5 ⟨rfl,h5⟩;have H5:=aa (FN.o _ _ _ _ h5);have H6:=aa (h5.still ((Below.refl _ w5).alloc (af _) (dg #[cu (bs c.id),bf ct c.page,bf ct c.text.length,bf ct c.count] 73)));have hlk:=VS.o _ (H5.o.still ((Below.refl _ w5).alloc (af _) (dg #[cu (bs c.id),bf ct c.page,bf ct c.text.length,bf ct c.count] 73))).p.1;clear h5 gU H5 x0;go_wp2_with fail;refine (HAD.o _ H6.o).mono ?_;rintro e10 w7 ⟨rfl,h7⟩;have H7:=aa (FN.o _ _ _ _ h7);clear h7 hlk;go_wp2;go_roundw
   case rel=>exact⟨k+1,hlt,ς,H7⟩
   case measure=>simp[RowKit.intOf];omega
  ·obtain rfl:k=J:=by omega
   have hI:¬(k:Int)<k:=κ
   have HE:=aa (show KS w cX sb rb n (Ch.merged cs L) RN last (B+60000*N) K Q wr by
    have s:=HR.o.done
    rw[bD (by rw[aL,HJ.o];exact af _),Ch.MJ (fun p hp=>by
     have h2:=D.o.1.at_ p;rw[if_pos hp] at h2;exact bY.2 ⟨_,Wl.ET h2,rfl⟩)] at s
    exact s.more (by have:=HJN.o;omega))
   go_wp2
   go_ret2
   exact⟨rfl,HE.o⟩
end
theorem Hr (W:World) (args:Array Value):Sem.run prog (callFunc 27 args) W=.ok (.enter 27 args) W:=by simp[callFunc,go_sem,Tryz.f27]
section
variable {w X:World} {fv:Value} {sb rb n B last:Nat} {K:Φ} {Q:Ψ} {cs:List Ch.C} {rs:List Ch.Rc}
theorem OK (h:KS w fv sb rb n cs rs last B K Q X) (f:Nat) (j:∀(W:World) (args:Array Value),Sem.run prog (callFunc f args) W=.ok (.enter f args) W) (lim N:Int) (R:Ψ) (hf:∀W,KS w fv sb rb n cs rs last B K Q W->Calls prog f #[ptr sb,bf ct lim] W fun e X'=>e=c8 (ec #[bf ct N,bf ct 0])/\R X'):
  Calls prog 26 #[ptr sb,.func (.func f) #[ptr sb] #[],bf ct lim] X fun e X'=>e=c8 (ec #[bf ct N,bf ct 0])/\R X':=by
 have d:=aa h;have g:=aa (nJ h);have H:=aa hf;clear h hf;unfold ptr at g H |-;go_enter func26,ntmps26;go_wp2_with fail;refine g.o.mono ?_;rintro e w1 ⟨rfl,a⟩;have b:=aa (d.o.still a);have c:=aa (LX b.o);unfold ptr at c;clear a g;go_wp2_with fail;refine c.o.mono ?_;rintro e k ⟨m,rfl,rfl⟩;go_wp2_with fail;refine (H.o _ b.o).mono ?_;rintro e w3 ⟨rfl,h3⟩;have i:=aa h3;clear h3;go_wp2
 go_ret2
 exact⟨rfl,i.o⟩
theorem CV (h:KS w cX sb rb n cs rs last B K Q X) (j:jC w) (hF:∀t,(Sha.print t).length=32) (k:Ch.Up cs) (b:Ch.sB Sha.print cs) (a:∀c∈cs,Ch.One c) (d:∀c∈cs,-4000000000000000000<=c.count/\c.count<=4000000000000000000) (q:cs.length<=1000) (J:Ch.dG rs last) (f:∀x∈Ch.aZ rs,∃c∈cs,c.page=x.1) (lim:Int) (L:-4611686018427387904<=lim) (g:lim<=4611686018427387904) (hn:rs.length<=1000) (m:(Ch.aZ rs).length<=500) (p:B<=10000000) (H:lim.toNat<(Ch.aZ rs).length->kG cs.length+kG rs.length+cs.length+23<=n) (r:kG cs.length+kG (Ch.leave rs lim.toNat).length+cs.length+23<=n):
  Calls prog 12 #[ptr sb,bf ct lim] X fun e X'=>e=c8 (ec #[bf ct ((Ch.aZ rs).take lim.toNat).length,bf ct 0])/\KS w cX sb rb n (Ch.merged cs ((Ch.aZ rs).take lim.toNat)) (Ch.leave rs lim.toNat) last (B+60000*((Ch.aZ rs).take lim.toNat).length) K Q X':=by
 have i:=aa (OK h 27 Hr lim _ _ fun W u=>S4 u j hF k b a d q J f lim L g hn m p H r);clear h j hF k b a d q J f hn m p H r L g;generalize ((Ch.aZ rs).take lim.toNat)=l at*;obtain⟨N,s⟩:=ξx l.length;rw[<-s] at i |-;clear s;unfold ptr at i |-;go_enter func12,ntmps12;go_wp2_with fail;refine i.o.mono ?_;rintro e w3 ⟨rfl,h3⟩;have v:=aa h3;clear h3;go_wp2
 go_ret2
 exact⟨rfl,v.o⟩
end
theorem nX (X:World) (rb:Nat):Calls prog 7 #[ptr rb] X fun e X'=>e=c8 (ptr X.heap.size)/\X'=X.alloc (dg #[ptr rb,cX] 60):=by unfold ptr cX;go_enter func7,ntmps7;go_wp2_with fail;go_ret;exact⟨rfl,rfl⟩
theorem A1 {w X:World} {A:Φ} {g b xb n:Nat} (h:C1 A 200 g 1 b xb (Wl.dJ n) [] X) (hA:∀k,k<w.heap.size->A k) (i:Below w.heap.size w X) (j:3<=n) (l:n<=4098):
  KS w cX (X.heap.size+1) X.heap.size n [] [] 0 0 (fun k=>k=X.heap.size+1) (fun _=>True) ((X.alloc (dg #[ptr xb] 62)).alloc (dg #[ptr X.heap.size,cX] 60)):=by
 have hr:=JM h j l;generalize K:(X.alloc (dg #[ptr xb] 62))=W1 at*;have d:W1.heap.size=X.heap.size+1:=by rw[<-K];exact aY _ _
 have m:Below w.heap.size w W1:=by rw[<-K];exact i.alloc i.size _
 have o:=(Below.refl _ W1).alloc (af _) (dg #[ptr X.heap.size,cX] 60);have H:=aW.new W1 #[ptr X.heap.size,cX] 60;rw[d] at H;refine⟨g,b,xb,fun k=>(A k\/k=X.heap.size)\/k=X.heap.size+1,[],aV (n-2) aK,aV 16 0,fun _=>[],⟨hr.fN (aE.aF o (fun _=>False)) (fun _ _ f=>f.elim) id (fun k a=>a.imp_right fun e=>by rw[e,aY,d];omega) (cS (dc rfl)),fun k a=>cS ⟨?_, ?_,rfl⟩,fun c hc=>(by cases hc),List.nodup_nil,SL _⟩,rfl,⟨af _,dR,fun k a=> ?_,m.alloc (by have:=i.size;omega) _,fun _ _=>trivial,rfl,H⟩⟩
 ·rw[bC,mF]
  split<;>rfl
 ·unfold two
  split
  ·rfl
  ·split<;>rfl
 ·rcases a with a|a;·exact cS (cS (hA k a))
  ·exact dc a
theorem yq (p:Nat) (b:Int):Ch.tot [(p,b)] p=b:=by simp[Ch.tot]
theorem xK (w:World) (J:jC w):Calls prog 5 #[] w fun e w'=>e=c8 (ey true)/\Below w.heap.size w w':=by
 have A:=aa J;clear J;go_enter func5,ntmps5;go_wp2_with fail;refine (z6 w 40 ξ ξ).mono ?_;rintro e w2 ⟨g,b,rfl,n,K⟩;have v:=aa (And.intro n K);clear n K;go_wp2_with fail;refine (zR v.o.1).mono ?_;rintro e w3 ⟨xb,rfl,h3,L⟩;have B:=aa (And.intro h3 (v.o.2.trans (L.mono v.o.2.size)));clear h3 L;go_wp2_with fail;refine (DV w3 xb).mono ?_;rintro e W ⟨rfl,R⟩;have p:W.heap.size=w3.heap.size+1:=by rw[R];exact aY _ _
 have D:=aa (nX W w3.heap.size);unfold ptr at D;have E:=aa (And.intro R p);clear R p;go_wp2_with fail;refine D.o.mono ?_;rintro e S ⟨rfl,X⟩
 have M:=aa (show KS w cX W.heap.size w3.heap.size 40 [] [] 0 0 (fun k=>k=W.heap.size) (fun _=>True) S by
  rw[X,E.o.2,E.o.1];exact A1 B.o.1 (fun k T=>T) B.o.2 ξ ξ)
 clear X v B D E;generalize W.heap.size=sb at*;generalize w3.heap.size=rb at*;have H:=aa (AZ M.o A.o Ch.iq Ch.Fit.nil.up Ch.Fit.nil.nm Ch.Fit.nil.one ξ (t:=[97]) ξ ξ ξ ξ ξ);rw[show bs [97]=⟨#[97]⟩ from rfl] at H;unfold ptr at H;go_wp2_with fail;refine H.o.mono ?_;rintro e w6 (⟨c,hc,_⟩|⟨_,j,a,rfl,_,N,l,_,ha,F⟩);·cases hc
 obtain rfl:j=0:=by
  rcases Nat.eq_zero_or_pos j with h|h;·exact h
  ·obtain⟨c,hc,_⟩:=N 0 h;cases hc
 have G:=Ch.Fit.nil.ins (j:=0) (a:=a) (t:=[97]) ξ ξ ha l;obtain⟨c,hc⟩:∃c:Ch.C,c=⟨Sha.print [97]++[az 0],a,[97],0⟩:=⟨_,rfl⟩;rw[show Ch.ins [] ⟨Sha.print [97]++[az 0],a,[97],0⟩=[Ch.mine c 0] by rw[hc];rfl] at F G;rw[show Sha.print [97]++[az 0]=c.id by rw[hc]];have q:c.text=[97]:=by rw[hc]
 have f:=aa (And.intro F G);have r:=aa q;clear hc q F G l N ha H M;have hz:(bs c.id).size=33:=by rw[aG];exact (f.o.2.one _ au).id
 have H:=aa (AZ f.o.1 A.o Ch.iq f.o.2.up f.o.2.nm f.o.2.one (by show 1<=255;decide) (t:=[97]) ξ ξ ξ (by show 16+0+1+23<=40;decide) ξ);rw[show bs [97]=⟨#[97]⟩ from rfl] at H;unfold ptr at H;go_wp2_with fail;refine H.o.mono ?_;rintro e w7 (⟨c',Y,_,rfl,O⟩|⟨I,_⟩)
 ·obtain rfl:c'=Ch.mine c 0:=bB.1 Y;rw[show (Ch.mine c 0).id=c.id from rfl];have i:=aa (S3 O f.o.2.one (Ch.qJ c 0) 1 (cS rfl) f.o.2.lg ξ ξ (by show 16+0+1+23<=40;decide));rw[show Ch.enter [] 0 ((Ch.mine c 0).page,1)=([⟨1,[(c.page,1)]⟩],1) from rfl] at i;have Z:=aa (show Ch.Fit [Ch.mine c 0] [⟨1,[(c.page,1)]⟩] 1 from f.o.2.enter ξ (c:=Ch.mine c 0) au (cS rfl));unfold ptr at i;clear Y O H f;go_wp2_with fail;refine i.o.mono ?_;rintro e w8 ⟨rfl,P⟩;have x:=aa (CV P A.o Ch.iq Z.o.up Z.o.nm Z.o.one (fun d hd=>by rw[bB.1 hd];show-4000000000000000000<=(0:Int)/\(0:Int)<=4000000000000000000;decide) zbj Z.o.lg Z.o.inn 9 ξ ξ zbj (by show 1<=500;decide) ξ (fun U=>absurd U (by show ¬9<1;decide)) (by show 16+0+1+23<=40;decide));rw[show (Ch.aZ ([⟨1,[(c.page,1)]⟩],1).1).take (9:Int).toNat=[(c.page,1)] from rfl,Ch.o9,yq,show Ch.leave ([⟨1,[(c.page,1)]⟩],1).1 (9:Int).toNat=[] from rfl] at x
  have m:=aa (show Ch.Fit [Ch.mine c 1] [] 1 from by
   have:=Z.o.merge 9 (fun d hd=>by
    rw[bB.1 hd,show (Ch.aZ [⟨1,[(c.page,1)]⟩]).take 9=[(c.page,1)] from rfl,show (Ch.mine c 0).page=c.page from rfl,yq];show-4611686018427387904<=(0:Int)+1/\(0:Int)+1<=4611686018427387904;decide)
   rw[show (Ch.aZ [⟨1,[(c.page,1)]⟩]).take 9=[(c.page,1)] from rfl,Ch.o9,yq,show Ch.leave [⟨1,[(c.page,1)]⟩] 9=[] from rfl] at this;exact this)
  unfold ptr at x;clear P i Z;go_wp2_with fail;refine x.o.mono ?_;rintro e w9 ⟨rfl,Q⟩;have y:=aa (Hq Q m.o.one (Ch.qJ c 1) m.o.lg ξ ξ);rw[show (Ch.mine c 1).count=1 from rfl,show Ch.tot (Ch.aZ []) (Ch.mine c 1).page=0 from rfl] at y;unfold ptr at y;clear Q x;go_wp2_with fail;refine y.o.mono ?_;rintro e V ⟨rfl,s⟩;have z:=aa (S0 s m.o.one (Ch.qJ c 1));rw[show (Ch.mine c 1).text=c.text from rfl,r.o,show bs [97]=⟨#[97]⟩ from rfl] at z;unfold ptr at z;clear s y;go_wp2_with fail;refine z.o.mono ?_;rintro e w11 ⟨rfl,u⟩;have HB:=aa u.below;clear u z;generalize bs c.id=ID at*;go_wp2;go_ret;exact⟨rfl,HB.o⟩
 ·exact absurd r.o (I (Ch.mine c 0) au)
end
end Go.Proofs.YtgfdijemhanfkaaGreatDoor
