/- Elder texts, cut down and merged (20). -/
import Derived.Test.YtlpfhjbpknbndaaGreatDoorP19
import Derived.Test.YtlpfhjbpknbndaaGreatDoorP18
import Derived.Deep.CutBlock
import Derived.Deep.DeepCutAuto
import Derived.Test.YtlpfhjbpknbndaaGreatDoorPTk
set_option maxRecDepth 100000
set_option maxHeartbeats 8000000
namespace Go.Proofs.YtlpfhjbpknbndaaGreatDoor
open Value renaming int→bf,string→bR,bool→eX,tuple→gu,agg→iK,pointer→e7,slice→cx
open IntKind renaming i64→cu,u64→dg,u8→gx
open Option renaming none→av,some→aD
open Obj renaming cells→ey
open Ending renaming returned→eb
open Or renaming inl→dc,inr→dn
open World renaming size_alloc->aS,alloc->aC
open Nat renaming le_refl->ah,zero_add->bE,le_trans->aH,zero_le->aB,add_zero->d_,lt_of_lt_of_le->dD
open List renaming length_drop->aZ,length_cons->a_,replicate->bB,getElem?_toArray->aL,getElem?_cons_zero->aM,getElem?_cons_succ->aQ,setIfInBounds_toArray->aA,set_cons_succ->az,set_cons_zero->ay,getElem_mem->bI,pairwise_iff_getElem->ga,length_set->bP,length_map->aT,take_append_drop->cP,drop_eq_getElem_cons->cw,filter_append->lU,length_take->aO,map_append->bQ,map_cons->bM,map_congr_left->mS,mem_filter->dz,take_succ_eq_append_getElem->cC,append_nil->bA,eraseIdx_of_length_le->FY,length_append->au,length_singleton->ew,append_assoc->aF,length_nil->ef,nil_append->dI,mem_cons_self->aE,mem_cons_of_mem->aI,mem_singleton->cQ,take_of_length_le->cg,length_replicate->dZ,getElem?_eq_getElem->aK
open UInt8 renaming lt_iff_toNat_lt->tD
open _root_.Array renaming length_toList->bk
open Int renaming toNat_natCast->dF
section
open Go.RowKit Lib
theorem oQ {n:List UInt8} (h:Nm.bucket n=true):Nm.Qm n=Bk.key n:=by unfold Nm.Qm;rw[if_pos h,Bk.Nk h]
structure N_ (w:World) (KK RV:ByteArray) (X:World):Prop where
 below:Below w.heap.size w X
 pair:aU X w.heap.size 89 [bR KK,bR RV]
 res:aU X (w.heap.size+1) 46 [bR ⟨#[]⟩,bf cu 0,bf dg 0,eX false,bR ⟨#[]⟩,bf dg 0]
theorem N_.later {w X X':World} {KK RV:ByteArray} (h:N_ w KK RV X) (H:Below X.heap.size X X'):N_ w KK RV X':=
 ⟨h.below.trans (H.mono h.below.size),h.pair.below H h.pair.lt,h.res.below H h.res.lt⟩
theorem N_.but {w X X':World} {KK RV:ByteArray} {g:Nat} (h:N_ w KK RV X) (H:aG (fun k=>k=g) X X') (hg:w.heap.size+1<g/\True):N_ w KK RV X':=
 ⟨h.below.trans (H.below h.below.size fun k a e=>by omega),h.pair.but H (by omega),h.res.but H (by omega)⟩
theorem xA {w X:World} {KK RV:ByteArray} {g:Nat} {v0 v1 v2 v3 v4 v5:Value} (h:N_ w KK RV X) (H:aU X g 46 [v0,v1,v2,v3,v4,v5]):
  X.cell? ⟨g,0,av⟩=aD v0/\X.cell? ⟨g,1,av⟩=aD v1/\X.cell? ⟨g,2,av⟩=aD v2/\X.cell? ⟨g,3,av⟩=aD v3/\X.cell? ⟨g,4,av⟩=aD v4/\X.cell? ⟨g,5,av⟩=aD v5/\X.cell? ⟨w.heap.size,1,av⟩=aD (bR RV):=
 ⟨H.cell rfl,H.cell rfl,H.cell rfl,H.cell rfl,H.cell rfl,H.cell rfl,h.pair.cell rfl⟩
theorem N_.begin (w:World) (KK RV:ByteArray):N_ w KK RV ((w.alloc (ey #[bR KK,bR RV] 89)).alloc (ey #[bR ⟨#[]⟩,bf cu 0,bf dg 0,eX false,bR ⟨#[]⟩,bf dg 0] 46)):=by have hs:(w.alloc (ey #[bR KK,bR RV] 89)).heap.size=w.heap.size+1:=aS _ _;refine⟨((Below.refl _ w).alloc (ah _) _).alloc (by rw[hs];omega) _,(aU.new w _ _).alloc _, ?_⟩;have:=aU.new (w.alloc (ey #[bR KK,bR RV] 89)) #[bR ⟨#[]⟩,bf cu 0,bf dg 0,eX false,bR ⟨#[]⟩,bf dg 0] 46;rw[hs] at this;exact this
theorem r7 (b:Bk.B) (h:Bk.One b) (w:World):Calls Tryz.prog 33 #[iK #[bR (bs (Bk.key b.name)),bR (bs (Bk.gB b))]] w fun e w'=>e=eb (gu #[qH b,eX true])/\Below w.heap.size w w':=by
 have U:=aa (show ∀W,Calls Tryz.prog 54 #[bR (bs ((Bk.key b.name).drop 1))] W fun e w'=>e=eb (gu #[bR (bs b.name),bR ⟨#[]⟩,eX true])/\Below W.heap.size W w' from fun W=>by
  have:=Nu (bs ((Bk.key b.name).drop 1)) W (by rw[aP,aZ];have:=Bk.Hj h.name;omega);rw[bS,Bk.Qh h] at this;exact this)
 have YT:=aa (show ∀W,Calls Tryz.prog 55 #[bR ⟨#[98,110,98,110,116,114]⟩,bR (bs (Bk.gB b))] W fun e w'=>(∃v',e=eb (gu #[v',eX true])/\Own gN 134 W.heap.size w' v' (Bk.kU b))/\Below W.heap.size W w' from fun W=>by
  have:=FR ⟨#[98,110,98,110,116,114]⟩ (Bk.gB b) W (by decide) (by rw[Bk.Dm h];decide);rw[show (⟨#[98,110,98,110,116,114]⟩:ByteArray).data.toList=Bk.kinds from rfl,Bk.JW h] at this;exact this)
 have kO:=aa (show ∀W,Calls Tryz.prog 30 #[bR (bs b.name)] W fun e w'=>e=eb (bR (bs (Bk.key b.name)))/\Below W.heap.size W w' from fun W=>by
  have:=gR (bs b.name) W;rw[bS,oQ h.name] at this;exact this)
 have V:=aa (show ∀W,Calls Tryz.prog 37 #[qH b] W fun e w'=>e=eb (eX true)/\Below W.heap.size W w' from fun W=>by
  have:=rZ b W;rw[decide_eq_true h.low,decide_eq_true h.high,h.right] at this;exact this)
 have Ub:=aa (fun W=>zJ b h W)
 have HEX:=aa (show (bs (Bk.key b.name)).extract 1 (bs (Bk.key b.name)).size=bs ((Bk.key b.name).drop 1) by
  apply ByteArray.ext;apply Array.ext';rw[l8,bS,bS])
 have hK1:(1:Int)<=(bs (Bk.key b.name)).size:=by rw[aP];unfold Bk.key;rw[a_];omega
 have hex:=HEX.o;unfold qH at V Ub |-;obtain⟨l,Bo⟩:∃l:Nat,b.state=l:=⟨b.state.toNat,by have:=h.low;omega⟩;have kZ:(l:Int)<=2:=by have:=h.high;omega
 have x:=aa (show (gN.cells (Bk.kU b))=[bf dg l,bR ⟨#[]⟩,bf dg b.born,bR ⟨#[]⟩,bf dg (Bk.nO b.on),bR ⟨#[]⟩,bf dg b.after,bR ⟨#[]⟩,bf dg 0,bR (bs b.pre),bf dg 0,bR (bs (bB (20-b.pre.length) 0))] by
  unfold Bk.kU;rw[Bo];rfl)
 have rI:=aa (show (Bk.kU b).length=6 from rfl);have hon:decide (0<Bk.nO b.on)=b.on:=by cases b.on<;>rfl
 have hwr:IntKind.i64.wrap (l:Int)=(l:Int):=by rw[IntKind.wrap_i64];omega
 rw[Bo] at V Ub |-;generalize bs (Bk.gB b)=RV at*;generalize bs ((Bk.key b.name).drop 1)=KD at*;generalize bs (Bk.key b.name)=KK at*;generalize bs b.name=N at*;generalize bs b.pre=PB at*;generalize Bk.kU b=FL at*;generalize Bk.nO b.on=ON at*;generalize b.on=on at*;generalize b.born=born at*;generalize b.after=after at*;generalize bs (bB (20-b.pre.length) 0)=Z at*;clear h Bo;go_enter Tryz.func33,Tryz.ntmps33;go_wp2_with fail;refine (U.o _).mono ?_;rintro e w1 ⟨rfl,bK⟩;have IE:=aa ((N_.begin w KK RV).later bK);have x1:=IE.o.pair.cell (j:=1) rfl;clear bK;go_wp2_with fail;refine (YT.o _).mono ?_;rintro e w2 ⟨⟨v',rfl,O⟩,aV⟩;have y:=aa (IE.o.later aV);obtain⟨g,cap,rfl,sP,fR,F⟩:=Own.form O (by rw[rI.o];decide);rw[rI.o] at O F |-;have Yh:=aa O;have HG:=aa (And.intro sP fR);clear aV O sP fR x1 IE;go_wp2_with fail;go_wp2_with (refine wp_region_held_drew (S:=(fun X=>X.cell? ⟨w.heap.size,0,av⟩=aD (bR KK))) (by kernel_rfl) ?_ (fun A=> ?_);focus skip;rotate_left;refine Hid.o ?_);refine aa ?_;·exact y.o.pair.cell (j:=0) rfl
 refine wpAnyH_take (i:=0) (v:= ?_) (by simp only[aL,aM];exact rfl) (by kernel_rfl) (by kernel_rfl) (by kernel_rfl) (by exact fun _ _ _ h=>h) (Or.inl ⟨by rfl, ?_⟩) A ?_;rotate_left;·intro w a;obtain s0:=a;go_simp;try with_reducible rfl
 refine wpAnyH_take (i:=1) (v:= ?_) (by simp only[aL,aQ,aM];exact rfl) (by kernel_rfl) (by kernel_rfl) (by kernel_rfl) (by exact fun _ _ _ h=>h) (Or.inl ⟨by rfl, ?_⟩) A ?_;rotate_left;·intro w a;obtain s0:=a;go_simp;try with_reducible rfl
 refine wpAnyH_take (i:=2) (v:= ?_) (by simp only[aL,aQ,aM];exact rfl) (by kernel_rfl) (by kernel_rfl) (by kernel_rfl) (by exact fun _ _ _ h=>h) (Or.inl ⟨by rfl, ?_⟩) A ?_;rotate_left;·intro w a;obtain s0:=a;go_simp;try with_reducible rfl
 refine wpAnyH_take (i:=3) (v:= ?_) (by simp only[aL,aQ,aM];exact rfl) (by kernel_rfl) (by kernel_rfl) (by kernel_rfl) (by exact fun _ _ _ h=>h) (Or.inl ⟨by rfl, ?_⟩) A ?_;rotate_left;·intro w a;obtain s0:=a;go_simp;try with_reducible rfl
 refine wpAnyH_take (i:=5) (v:= ?_) (by simp only[aL,aQ,aM];exact rfl) (by kernel_rfl) (by kernel_rfl) (by kernel_rfl) (by exact fun _ _ _ h=>h) (Or.inl ⟨by rfl, ?_⟩) A ?_;rotate_left;·intro w a;obtain s0:=a;go_simp;try with_reducible rfl
 refine wpAnyH_take (i:=6) (v:= ?_) (by simp only[aL,aQ,aM];exact rfl) (by kernel_rfl) (by kernel_rfl) (by kernel_rfl) (by exact fun _ _ _ h=>h) (Or.inl ⟨by rfl, ?_⟩) A ?_;rotate_left;·intro w a;obtain s0:=a;go_simp;try with_reducible rfl
 try simp only[Act.put,aA,az,ay]
 refine iV [4] (iW fun K H=> ?_);go_simp;refine (kO.o _).mono ?_;rintro e w3 ⟨rfl,E⟩;replace E:Below w2.heap.size w2 w3:=(Below.refl _ w2).drew.trans E;have cZ:=aa (y.o.later E);have T_:=aa (Own.below Yh.o E (ah _));refine H.out _ _ ((E.cell (p:=⟨w.heap.size,0,av⟩) y.o.pair.lt).trans A) (fun A=> ?_);clear H K E;refine wpAnyH_take (i:=7) (v:= ?_) (by simp only[aL,aQ,aM];exact rfl) (by kernel_rfl) (by kernel_rfl) (by kernel_rfl) (by exact fun _ _ _ h=>h) (Or.inl ⟨by rfl, ?_⟩) A ?_;rotate_left;·intro w a;obtain s0:=a;go_simp;try with_reducible rfl
 refine wpAnyH_take (i:=8) (v:= ?_) (by simp only[aL,aQ,aM];exact rfl) (by kernel_rfl) (by kernel_rfl) (by kernel_rfl) (by exact fun _ _ _ h=>h) (Or.inl ⟨by rfl, ?_⟩) A ?_;rotate_left;·intro w a;obtain s0:=a;go_simp;try with_reducible rfl
 refine wpAnyH_done (by kernel_rfl) ?_ _;try simp only[Act.put,aA,az,ay]
 have z:=Own.lies (K:=gN) T_.o;have QB:=aa z;have l0:=z 0 (bf dg l) (by rw[x.o];rfl);have l2:=z 2 (bf dg born) (by rw[x.o];rfl);have L:=z 4 (bf dg ON) (by rw[x.o];rfl);have m:=z 6 (bf dg after) (by rw[x.o];rfl);have n:=z 9 (bR PB) (by rw[x.o];rfl);simp only[bE] at l0 l2 L m n;have T:=aa (show g<w3.heap.size from ((Own.block T_.o) g rfl).2);clear z;go_wp2_with fail;go_wp2_with (refine wp_region_held_drew (S:=(fun X=>X.cell? ⟨g,0,av⟩=aD (bf dg l)/\X.cell? ⟨g,2,av⟩=aD (bf dg born)/\X.cell? ⟨g,4,av⟩=aD (bf dg ON)/\X.cell? ⟨g,6,av⟩=aD (bf dg after)/\X.cell? ⟨g,9,av⟩=aD (bR PB))) (by kernel_rfl) ?_ (fun A=> ?_);focus skip;rotate_left;refine Hid.o ?_);refine aa ?_;·exact⟨l0,l2,L,m,n⟩
 refine wpAnyH_take (i:=0) (v:= ?_) (by simp only[aL,aM];exact rfl) (by kernel_rfl) (by kernel_rfl) (by kernel_rfl) (by exact fun _ _ _ h=>h) (Or.inl ⟨by rfl, ?_⟩) A ?_;rotate_left;·intro w a;obtain⟨s0,s1,s2,s,c⟩:=a;go_simp;try with_reducible rfl
 refine wpAnyH_take (i:=1) (v:= ?_) (by simp only[aL,aQ,aM];exact rfl) (by kernel_rfl) (by kernel_rfl) (by kernel_rfl) (by exact fun _ _ _ h=>h) (Or.inl ⟨by rfl, ?_⟩) A ?_;rotate_left;·intro w a;obtain⟨s0,s1,s2,s,c⟩:=a;go_simp;try with_reducible rfl
 refine wpAnyH_take (i:=2) (v:= ?_) (by simp only[aL,aQ,aM];exact rfl) (by kernel_rfl) (by kernel_rfl) (by kernel_rfl) (by exact fun _ _ _ h=>h) (Or.inl ⟨by rfl, ?_⟩) A ?_;rotate_left;·intro w a;obtain⟨s0,s1,s2,s,c⟩:=a;go_simp;try with_reducible rfl
 refine wpAnyH_take (i:=3) (v:= ?_) (by simp only[aL,aQ,aM];exact rfl) (by kernel_rfl) (by kernel_rfl) (by kernel_rfl) (by exact fun _ _ _ h=>h) (Or.inl ⟨by rfl, ?_⟩) A ?_;rotate_left;·intro w a;obtain⟨s0,s1,s2,s,c⟩:=a;go_simp;try with_reducible rfl
 refine wpAnyH_take (i:=4) (v:= ?_) (by simp only[aL,aQ,aM];exact rfl) (by kernel_rfl) (by kernel_rfl) (by kernel_rfl) (by exact fun _ _ _ h=>h) (Or.inl ⟨by rfl, ?_⟩) A ?_;rotate_left;·intro w a;obtain⟨s0,s1,s2,s,c⟩:=a;go_simp;try with_reducible rfl
 refine wpAnyH_take (i:=5) (v:= ?_) (by simp only[aL,aQ,aM];exact rfl) (by kernel_rfl) (by kernel_rfl) (by kernel_rfl) (by exact fun _ _ _ h=>h) (Or.inl ⟨by rfl, ?_⟩) A ?_;rotate_left;·intro w a;obtain⟨s0,s1,s2,s,c⟩:=a;go_simp;try with_reducible rfl
 refine wpAnyH_take (i:=6) (v:= ?_) (by simp only[aL,aQ,aM];exact rfl) (by kernel_rfl) (by kernel_rfl) (by kernel_rfl) (by exact fun _ _ _ h=>h) (Or.inl ⟨by rfl, ?_⟩) A ?_;rotate_left;·intro w a;obtain⟨s0,s1,s2,s,c⟩:=a;go_simp;try with_reducible rfl
 refine wpAnyH_take (i:=7) (v:= ?_) (by simp only[aL,aQ,aM];exact rfl) (by kernel_rfl) (by kernel_rfl) (by kernel_rfl) (by exact fun _ _ _ h=>h) (Or.inl ⟨by rfl, ?_⟩) A ?_;rotate_left;·intro w a;obtain⟨s0,s1,s2,s,c⟩:=a;go_simp;try with_reducible rfl
 refine wpAnyH_take (i:=8) (v:= ?_) (by simp only[aL,aQ,aM];exact rfl) (by kernel_rfl) (by kernel_rfl) (by kernel_rfl) (by exact fun _ _ _ h=>h) (Or.inl ⟨by rfl, ?_⟩) A ?_;rotate_left;·intro w a;obtain⟨s0,s1,s2,s,c⟩:=a;go_simp;try with_reducible rfl
 refine wpAnyH_take (i:=9) (v:= ?_) (by simp only[aL,aQ,aM];exact rfl) (by kernel_rfl) (by kernel_rfl) (by kernel_rfl) (by exact fun _ _ _ h=>h) (Or.inl ⟨by rfl, ?_⟩) A ?_;rotate_left;·intro w a;obtain⟨s0,s1,s2,s,c⟩:=a;go_simp;try with_reducible rfl
 refine wpAnyH_take (i:=10) (v:= ?_) (by simp only[aL,aQ,aM];exact rfl) (by kernel_rfl) (by kernel_rfl) (by kernel_rfl) (by exact fun _ _ _ h=>h) (Or.inl ⟨by rfl, ?_⟩) A ?_;rotate_left;·intro w a;obtain⟨s0,s1,s2,s,c⟩:=a;go_simp;try with_reducible rfl
 refine wpAnyH_take (i:=11) (v:= ?_) (by simp only[aL,aQ,aM];exact rfl) (by kernel_rfl) (by kernel_rfl) (by kernel_rfl) (by exact fun _ _ _ h=>h) (Or.inl ⟨by rfl, ?_⟩) A ?_;rotate_left;·intro w a;obtain⟨s0,s1,s2,s,c⟩:=a;go_simp;try with_reducible rfl
 refine wpAnyH_take (i:=12) (v:= ?_) (by simp only[aL,aQ,aM];exact rfl) (by kernel_rfl) (by kernel_rfl) (by kernel_rfl) (by exact fun _ _ _ h=>h) (Or.inl ⟨by rfl, ?_⟩) A ?_;rotate_left;·intro w a;obtain⟨s0,s1,s2,s,c⟩:=a;go_simp;try with_reducible rfl
 refine wpAnyH_take (i:=13) (v:= ?_) (by simp only[aL,aQ,aM];exact rfl) (by kernel_rfl) (by kernel_rfl) (by kernel_rfl) (by exact fun _ _ _ h=>h) (Or.inl ⟨by rfl, ?_⟩) A ?_;rotate_left;·intro w a;obtain⟨s0,s1,s2,s,c⟩:=a;go_simp;try with_reducible rfl
 refine wpAnyH_take (i:=14) (v:= ?_) (by simp only[aL,aQ,aM];exact rfl) (by kernel_rfl) (by kernel_rfl) (by kernel_rfl) (by exact fun _ _ _ h=>h) (Or.inl ⟨by rfl, ?_⟩) A ?_;rotate_left;·intro w a;obtain⟨s0,s1,s2,s,c⟩:=a;go_simp;try with_reducible rfl
 refine wpAnyH_take (i:=15) (v:= ?_) (by simp only[aL,aQ,aM];exact rfl) (by kernel_rfl) (by kernel_rfl) (by kernel_rfl) (by exact fun _ _ _ h=>h) (Or.inl ⟨by rfl, ?_⟩) A ?_;rotate_left;·intro w a;obtain⟨s0,s1,s2,s,c⟩:=a;go_simp;try with_reducible rfl
 refine wpAnyH_take (i:=16) (v:= ?_) (by simp only[aL,aQ,aM];exact rfl) (by kernel_rfl) (by kernel_rfl) (by kernel_rfl) (by exact fun _ _ _ h=>h) (Or.inl ⟨by rfl, ?_⟩) A ?_;rotate_left;·intro w a;obtain⟨s0,s1,s2,s,c⟩:=a;go_simp;try with_reducible rfl
 refine wpAnyH_take (i:=17) (v:= ?_) (by simp only[aL,aQ,aM];exact rfl) (by kernel_rfl) (by kernel_rfl) (by kernel_rfl) (by exact fun _ _ _ h=>h) (Or.inl ⟨by rfl, ?_⟩) A ?_;rotate_left;·intro w a;obtain⟨s0,s1,s2,s,c⟩:=a;go_simp;try with_reducible rfl
 refine wpAnyH_take (i:=18) (v:= ?_) (by simp only[aL,aQ,aM];exact rfl) (by kernel_rfl) (by kernel_rfl) (by kernel_rfl) (by exact fun _ _ _ h=>h) (Or.inl ⟨by rfl, ?_⟩) A ?_;rotate_left;·intro w a;obtain⟨s0,s1,s2,s,c⟩:=a;go_simp;try with_reducible rfl
 refine wpAnyH_take (i:=19) (v:= ?_) (by simp only[aL,aQ,aM];exact rfl) (by kernel_rfl) (by kernel_rfl) (by kernel_rfl) (by exact fun _ _ _ h=>h) (Or.inl ⟨by rfl, ?_⟩) A ?_;rotate_left;·intro w a;obtain⟨s0,s1,s2,s,c⟩:=a;go_simp;try with_reducible rfl
 refine wpAnyH_take (i:=20) (v:= ?_) (by simp only[aL,aQ,aM];exact rfl) (by kernel_rfl) (by kernel_rfl) (by kernel_rfl) (by exact fun _ _ _ h=>h) (Or.inl ⟨by rfl, ?_⟩) A ?_;rotate_left;·intro w a;obtain⟨s0,s1,s2,s,c⟩:=a;go_simp;try with_reducible rfl
 refine wpAnyH_take (i:=21) (v:= ?_) (by simp only[aL,aQ,aM];exact rfl) (by kernel_rfl) (by kernel_rfl) (by kernel_rfl) (by exact fun _ _ _ h=>h) (Or.inl ⟨by rfl, ?_⟩) A ?_;rotate_left;·intro w a;obtain⟨s0,s1,s2,s,c⟩:=a;go_simp;try with_reducible rfl
 refine wpAnyH_take (i:=22) (v:= ?_) (by simp only[aL,aQ,aM];exact rfl) (by kernel_rfl) (by kernel_rfl) (by kernel_rfl) (by exact fun _ _ _ h=>h) (Or.inl ⟨by rfl, ?_⟩) A ?_;rotate_left;·intro w a;obtain⟨s0,s1,s2,s,c⟩:=a;go_simp;try with_reducible rfl
 refine wpAnyH_take (i:=23) (v:= ?_) (by simp only[aL,aQ,aM];exact rfl) (by kernel_rfl) (by kernel_rfl) (by kernel_rfl) (by exact fun _ _ _ h=>h) (Or.inl ⟨by rfl, ?_⟩) A ?_;rotate_left;·intro w a;obtain⟨s0,s1,s2,s,c⟩:=a;go_simp;try with_reducible rfl
 refine wpAnyH_take (i:=24) (v:= ?_) (by simp only[aL,aQ,aM];exact rfl) (by kernel_rfl) (by kernel_rfl) (by kernel_rfl) (by exact fun _ _ _ h=>h) (Or.inl ⟨by rfl, ?_⟩) A ?_;rotate_left;·intro w a;obtain⟨s0,s1,s2,s,c⟩:=a;go_simp;try with_reducible rfl
 try simp only[Act.put,aA,az,ay]
 clear A;refine iV [25] (iW fun K H=> ?_);go_simp;have f:=((Below.refl _ w3).alloc (ah _) (ey #[bR ⟨#[]⟩,bf cu 0,bf dg 0,eX false,bR ⟨#[]⟩,bf dg 0] 46)).drew;have I:=(aU.new w3 #[bR ⟨#[]⟩,bf cu 0,bf dg 0,eX false,bR ⟨#[]⟩,bf dg 0] 46).drew;refine H.out _ _ ⟨(f.cell (p:=⟨g,0,av⟩) T.o).trans l0,(f.cell (p:=⟨g,2,av⟩) T.o).trans l2,(f.cell (p:=⟨g,4,av⟩) T.o).trans L,(f.cell (p:=⟨g,6,av⟩) T.o).trans m,(f.cell (p:=⟨g,9,av⟩) T.o).trans n⟩ (fun A=> ?_);clear H K;clear A;have eE:=aa (cZ.o.later f);have u:=aa (show aU _ w3.heap.size 46 [bR ⟨#[]⟩,bf cu 0,bf dg 0,eX false,bR ⟨#[]⟩,bf dg 0] from I);have J:=aa (show bu gN _ g 0 FL from bu.below QB.o f T.o);have C:=aa (show w.heap.size+1<w3.heap.size/\g<w3.heap.size from⟨cZ.o.res.lt,T.o⟩);generalize w3.heap.size=G at*;generalize (aC w3 _).drew=w4 at*;clear f I l0 l2 L m n cZ T_ QB;refine iV [26] (iW fun K H=> ?_);have y0:=u.o.cell (j:=0) rfl;have z0:=u.o.frozen 0;have z1:=u.o.frozen 1;have z2:=u.o.frozen 2;have z3:=u.o.frozen 3;have z4:=u.o.frozen 4;have z5:=u.o.frozen 5;have y1:=u.o.cell (j:=1) rfl;have y2:=u.o.cell (j:=2) rfl;have y3:=u.o.cell (j:=3) rfl;have y4:=u.o.cell (j:=4) rfl;have y5:=u.o.cell (j:=5) rfl;go_simp;obtain⟨Q,q⟩:=FI u.o (bR N) (bf cu l) (bf dg born) (eX on) (bR PB) (bf dg after);have gS:=aa (eE.o.but q ⟨C.o.1,trivial⟩);have Y:=aa Q;have P:=bu.but J.o q (show ¬g=G by have:=C.o;omega);have l0:=P 0 (bf dg l) (by rw[x.o];rfl);have l2:=P 2 (bf dg born) (by rw[x.o];rfl);have L:=P 4 (bf dg ON) (by rw[x.o];rfl);have m:=P 6 (bf dg after) (by rw[x.o];rfl);have n:=P 9 (bR PB) (by rw[x.o];rfl);simp only[bE] at l0 l2 L m n;refine H.out _ _ ⟨l0,l2,L,m,n⟩ (fun A=> ?_);clear H K;clear A l0 l2 L m n P y0 y1 y2 y3 y4 y5 z0 z1 z2 z3 z4 z5 eE u J x Q q;generalize ((((((w4.setCell _ _).setCell _ _).setCell _ _).setCell _ _).setCell _ _).setCell _ _)=w5 at*;refine wpAnyH_done (by kernel_rfl) ?_ _;try simp only[Act.put,aA,az,ay]
 go_wp2_with fail;go_wp2_with (refine wp_region_held_drew (S:=(fun X=>X.cell? ⟨G,0,av⟩=aD (bR N)/\X.cell? ⟨G,1,av⟩=aD (bf cu l)/\X.cell? ⟨G,2,av⟩=aD (bf dg born)/\X.cell? ⟨G,3,av⟩=aD (eX on)/\X.cell? ⟨G,4,av⟩=aD (bR PB)/\X.cell? ⟨G,5,av⟩=aD (bf dg after)/\X.cell? ⟨w.heap.size,1,av⟩=aD (bR RV))) (by kernel_rfl) ?_ (fun A=> ?_);focus skip;rotate_left;refine Hid.o ?_);refine aa ?_;·have hh:=xA gS.o Y.o;exact hh
 refine wpAnyH_take (i:=0) (v:= ?_) (by simp only[aL,aM];exact rfl) (by kernel_rfl) (by kernel_rfl) (by kernel_rfl) (by exact fun _ _ _ h=>h) (Or.inl ⟨by rfl, ?_⟩) A ?_;rotate_left;·intro w a;obtain⟨s0,s1,s2,s,c,r,t⟩:=a;go_simp;try with_reducible rfl
 refine wpAnyH_take (i:=1) (v:= ?_) (by simp only[aL,aQ,aM];exact rfl) (by kernel_rfl) (by kernel_rfl) (by kernel_rfl) (by exact fun _ _ _ h=>h) (Or.inl ⟨by rfl, ?_⟩) A ?_;rotate_left;·intro w a;obtain⟨s0,s1,s2,s,c,r,t⟩:=a;go_simp;try with_reducible rfl
 try simp only[Act.put,aA,az,ay]
 clear A;refine iV [2] (iW fun K H=> ?_);go_simp;refine (V.o _).mono ?_;rintro e w6 ⟨rfl,M⟩;replace M:Below w5.heap.size w5 w6:=(Below.refl _ w5).drew.trans M;have gO:=aa (gS.o.later M);have R:=aa (Y.o.below M Y.o.lt);refine H.out _ _ (xA gO.o R.o) (fun A=> ?_);clear H K M gS Y;refine wpAnyH_take (i:=3) (v:= ?_) (by simp only[aL,aQ,aM];exact rfl) (by kernel_rfl) (by kernel_rfl) (by kernel_rfl) (by exact fun _ _ _ h=>h) (Or.inl ⟨by rfl, ?_⟩) A ?_;rotate_left;·intro w a;obtain⟨s0,s1,s2,s,c,r,t⟩:=a;go_simp;try with_reducible rfl
 refine wpAnyH_take (i:=4) (v:= ?_) (by simp only[aL,aQ,aM];exact rfl) (by kernel_rfl) (by kernel_rfl) (by kernel_rfl) (by exact fun _ _ _ h=>h) (Or.inl ⟨by rfl, ?_⟩) A ?_;rotate_left;·intro w a;obtain⟨s0,s1,s2,s,c,r,t⟩:=a;go_simp;try with_reducible rfl
 refine wpAnyH_take (i:=6) (v:= ?_) (by simp only[aL,aQ,aM];exact rfl) (by kernel_rfl) (by kernel_rfl) (by kernel_rfl) (by exact fun _ _ _ h=>h) (Or.inl ⟨by rfl, ?_⟩) A ?_;rotate_left;·intro w a;obtain⟨s0,s1,s2,s,c,r,t⟩:=a;go_simp;try with_reducible rfl
 refine wpAnyH_take (i:=7) (v:= ?_) (by simp only[aL,aQ,aM];exact rfl) (by kernel_rfl) (by kernel_rfl) (by kernel_rfl) (by exact fun _ _ _ h=>h) (Or.inl ⟨by rfl, ?_⟩) A ?_;rotate_left;·intro w a;obtain⟨s0,s1,s2,s,c,r,t⟩:=a;go_simp;try with_reducible rfl
 try simp only[Act.put,aA,az,ay]
 clear A;refine iV [5] (iW fun K H=> ?_);go_simp;refine (Ub.o _).mono ?_;rintro e w7 ⟨rfl,fW⟩;have d:=aa (gO.o.later fW);have Nx:=aa (R.o.below fW R.o.lt);refine H.out _ _ (xA d.o Nx.o) (fun A=> ?_);clear H K fW gO R;refine wpAnyH_take (i:=8) (v:= ?_) (by simp only[aL,aQ,aM];exact rfl) (by kernel_rfl) (by kernel_rfl) (by kernel_rfl) (by exact fun _ _ _ h=>h) (Or.inl ⟨by rfl, ?_⟩) A ?_;rotate_left;·intro w a;obtain⟨s0,s1,s2,s,c,r,t⟩:=a;go_simp;try with_reducible rfl
 refine wpAnyH_take (i:=9) (v:= ?_) (by simp only[aL,aQ,aM];exact rfl) (by kernel_rfl) (by kernel_rfl) (by kernel_rfl) (by exact fun _ _ _ h=>h) (Or.inl ⟨by rfl, ?_⟩) A ?_;rotate_left;·intro w a;obtain⟨s0,s1,s2,s,c,r,t⟩:=a;go_simp;try with_reducible rfl
 try simp only[Act.put,aA,az,ay]
 clear A;refine iV [10] (iW fun K H=> ?_);have y0:=d.o.res.cell (j:=0) rfl;have z0:=d.o.res.frozen 0;have z1:=d.o.res.frozen 1;have z2:=d.o.res.frozen 2;have z3:=d.o.res.frozen 3;have z4:=d.o.res.frozen 4;have z5:=d.o.res.frozen 5;have y1:=d.o.res.cell (j:=1) rfl;have y2:=d.o.res.cell (j:=2) rfl;have y3:=d.o.res.cell (j:=3) rfl;have y4:=d.o.res.cell (j:=4) rfl;have y5:=d.o.res.cell (j:=5) rfl;go_simp;obtain⟨Q,q⟩:=FI d.o.res (bR N) (bf cu l) (bf dg born) (eX on) (bR PB) (bf dg after);have HE8:=aa (show Below w.heap.size w _ from d.o.below.trans (q.below d.o.below.size fun k hk e=>by omega));have HQ8:=aa Q;refine H.out _ _ ?_ (fun A=> ?_);·have hp:=(d.o.pair.but q (by omega)).cell (j:=1) rfl;have hg:=Nx.o.but q (show ¬G=w.heap.size+1 by have:=C.o;omega);exact⟨hg.cell rfl,hg.cell rfl,hg.cell rfl,hg.cell rfl,hg.cell rfl,hg.cell rfl,hp⟩
 have HS8:=aa A;clear H K A y0 y1 y2 y3 y4 y5 z0 z1 z2 z3 z4 z5 d Nx Q q;generalize ((((((w7.setCell _ _).setCell _ _).setCell _ _).setCell _ _).setCell _ _).setCell _ _)=D at*;have A:D.cell? ⟨G,0,av⟩=aD (bR N)/\D.cell? ⟨G,1,av⟩=aD (bf cu l)/\D.cell? ⟨G,2,av⟩=aD (bf dg born)/\D.cell? ⟨G,3,av⟩=aD (eX on)/\D.cell? ⟨G,4,av⟩=aD (bR PB)/\D.cell? ⟨G,5,av⟩=aD (bf dg after)/\D.cell? ⟨w.heap.size,1,av⟩=aD (bR RV):=HS8.o;refine wpAnyH_take (i:=11) (v:= ?_) (by simp only[aL,aQ,aM];exact rfl) (by kernel_rfl) (by kernel_rfl) (by kernel_rfl) (by exact fun _ _ _ h=>h) (Or.inl ⟨by rfl, ?_⟩) A ?_;rotate_left;·intro w a;obtain⟨s0,s1,s2,s,c,r,t⟩:=a;go_simp;try with_reducible rfl
 refine wpAnyH_done (by kernel_rfl) ?_ _;try simp only[Act.put,aA,az,ay]
 go_wp2_with fail;try simp only[Exit.inBlock,Exit.then]
 refine bodyPost_ret (A7 rfl _ rfl HQ8.o) rfl ?_;exact⟨rfl,HE8.o⟩
end
namespace Bk
open Tr (lt)
def idx (l:List B) (n:Text):Option Nat:=l.findIdx? fun b=>b.name==n
variable {l:List B} {n:Text} {i j:Nat}
theorem iO (h:idx l n=aD i):∃hi:i<l.length,l[i].name=n/\∀j (H:j<i),l[j].name≠n:=by unfold idx at h;rw[List.findIdx?_eq_some_iff_getElem] at h;obtain⟨hi,a,b⟩:=h;exact⟨hi,by simpa using a,fun j H e=>b j H (by simpa using e)⟩
theorem xB (h:idx l n=av):find l n=none:=by unfold idx at h;unfold find;rw[List.findIdx?_eq_none_iff] at h;exact List.find?_eq_none.2 fun x H=>by simp[h x H]
theorem Ny (hg:Good l) (h:idx l n=aD i):∃hi:i<l.length,find l n=aD l[i]:=by obtain⟨hi,H,_⟩:=iO h;refine⟨hi, ?_⟩;rw[<-H];exact A5 hg (bI hi)
theorem kG:(idx l n).isSome=(find l n).isSome:=by unfold idx find;rw[List.findIdx?_isSome,List.isSome_find?]
theorem FU (hg:Good l) (hi:i<l.length) (H:j<l.length) (e:l[i].name=l[j].name):i=j:=by
 have hp:=ga.1 hg.2;rcases Nat.lt_trichotomy i j with h|h|h;·have:=hp i j hi H h;rw[e,Tr.lt_irrefl] at this;cases this
 ·exact h
 ·have:=hp j i H hi h;rw[e,Tr.lt_irrefl] at this;cases this
theorem uT (hg:Good l) (h:idx l n=aD i) (hi:i<l.length) (f:B->B):l.set i (f l[i])=upd l n f:=by
 obtain⟨_,H,_⟩:=iO h;unfold upd;refine List.ext_getElem (by rw[bP,aT]) fun j a h3=> ?_;rw[bP] at a;rw[List.getElem_set,List.getElem_map];by_cases e:i=j;·subst e;rw[if_pos rfl,if_pos H]
 ·rw[if_neg e,if_neg fun E=>e (FU hg hi a (H.trans E.symm))]
theorem FV (hg:Good l) (h:idx l n=aD i):l.eraseIdx i=drop l n:=by
 obtain⟨hi,H,_⟩:=iO h;rw[List.eraseIdx_eq_take_drop_succ];unfold drop
 conv=>rhs;rw[<-cP i l,cw hi]
 rw[lU,List.filter_cons_of_neg (by simp[H])];congr 1;·refine (List.filter_eq_self.2 fun x a=> ?_).symm;obtain⟨j,b,e⟩:=List.mem_iff_getElem.1 a;rw[aO] at b;rw[List.getElem_take] at e;rw[bne_iff_ne];intro E;have:=FU hg hi (show j<l.length by omega) (by rw[H,e,E]);omega
 ·refine (List.filter_eq_self.2 fun x a=> ?_).symm;obtain⟨j,b,e⟩:=List.mem_iff_getElem.1 a;rw[aZ] at b;rw[List.getElem_drop] at e;rw[bne_iff_ne];intro E;have:=FU hg hi (show i+1+j<l.length by omega) (by rw[H,e,E]);omega
theorem FW {b c:B} (hn:b.name=c.name):upd (ins l b) c.name (fun _=>c)=ins l c:=by
 unfold upd ins;rw[bQ,bM,if_pos hn,hn];have H:∀t:List B,(∀x∈t,x.name≠c.name)->t.map (fun b=>if b.name=c.name then c else b)=t:=fun t a=>by refine (mS fun x h=> ?_).trans (List.map_id t);rw[if_neg (a x h)];rfl
 rw[H,H];·intro x h e;have:=(dz.1 h).2;rw[e,Tr.lt_irrefl] at this;cases this
 ·intro x h e;have:=(dz.1 h).2;rw[e,Tr.lt_irrefl] at this;cases this
theorem FX (k:Nat) (H:k<l.length):(l.take (k+1)).eraseIdx i=if k=i then (l.take k).eraseIdx i else (l.take k).eraseIdx i++[l[k]]:=by
 rw[cC H];by_cases e:k=i;·rw[if_pos e,List.eraseIdx_append_of_length_le (by rw[aO];omega),aO,show i-min k l.length=0 by omega];rw[show [l[k]].eraseIdx 0=[] from rfl,bA,FY (by rw[aO];omega)]
 ·rw[if_neg e];rcases Nat.lt_or_ge i k with h|h;·rw[List.eraseIdx_append_of_lt_length (by rw[aO];omega)]
  ·rw[FY (by rw[au,aO,ew];omega),FY (by rw[aO];omega)]
def xS (b:B) (s:List B×Bool) (x:B):List B×Bool:=if s.2=false/\lt b.name x.name=true then (s.1++[b]++[x],true) else (s.1++[x],s.2)
theorem Bc (b:B):∀(l acc:List B) (d:Bool),(if (l.foldl (xS b) (acc,d)).2=true then (l.foldl (xS b) (acc,d)).1 else (l.foldl (xS b) (acc,d)).1++[b])=acc++mk b l d
 |[],acc,d=>by cases d<;>simp[mk]
 |x::t,acc,d=>by
  rw[List.foldl_cons];cases d with
  |true=>rw[show xS b (acc,true) x=(acc++[x],true) from if_neg (by simp),Bc b t,mk,aF];rfl
  |false=>
   by_cases e:lt b.name x.name=true;·rw[show xS b (acc,false) x=(acc++[b]++[x],true) from if_pos ⟨rfl,e⟩,Bc b t,mk,if_pos e,aF,aF];rfl
   ·rw[show xS b (acc,false) x=(acc++[x],false) from if_neg fun h=>e h.2,Bc b t,mk,if_neg e,aF];rfl
theorem Nz (b:B) (k:Nat) (h:k<l.length):(l.take (k+1)).foldl (xS b) ([],false)=xS b ((l.take k).foldl (xS b) ([],false)) l[k]:=by rw[cC h,List.foldl_append];rfl
theorem Bd (b:B):∀(l acc:List B) (d:Bool),(l.foldl (xS b) (acc,d)).1.length<=acc.length+l.length+1/\(d=true->(l.foldl (xS b) (acc,d)).1.length=acc.length+l.length)
 |[],acc,d=>⟨by simp,fun _=>by simp⟩
 |x::t,acc,d=>by
  rw[List.foldl_cons];unfold xS;by_cases e:d=false/\lt b.name x.name=true;·have:=Bd b t (acc++[b]++[x]) true;rw[if_pos e];simp only[au,a_,ef] at this |-;exact⟨by have:=this.2 trivial;unfold xS at this;omega,fun h=>by rw[e.1] at h;cases h⟩
  ·have:=Bd b t (acc++[x]) d;rw[if_neg e];simp only[au,a_,ef] at this |-;exact⟨by have:=this.1;unfold xS at this;omega,fun h=>by have:=this.2 h;unfold xS at this;omega⟩
theorem Qn {b:B} (hg:Good l) (h:find l b.name=av):(if (l.foldl (xS b) ([],false)).2=true then (l.foldl (xS b) ([],false)).1 else (l.foldl (xS b) ([],false)).1++[b])=ins l b:=by rw[Bc,dI,Tj hg h]
end Bk
section
open Go.RowKit Lib
abbrev BH (w:World) (rb n:Nat) (l:List Bk.B) (B:Nat) (K:Nat->Prop) (Q:World->Prop) (X:World):Prop:=RH w rb 4 n (Bk.qC Bk.gB l) B K Q X
theorem six {w:World} {g:Nat} {t:TypeId} {v0 v1 v2 v3 v4 v5:Value} (h:aU w g t [v0,v1,v2,v3,v4,v5]):
  w.cell? ⟨g,0,av⟩=aD v0/\w.cell? ⟨g,1,av⟩=aD v1/\w.cell? ⟨g,2,av⟩=aD v2/\w.cell? ⟨g,3,av⟩=aD v3/\w.cell? ⟨g,4,av⟩=aD v4/\w.cell? ⟨g,5,av⟩=aD v5:=
 ⟨h.cell rfl,h.cell rfl,h.cell rfl,h.cell rfl,h.cell rfl,h.cell rfl⟩
section
variable {w X:World} {rb n B:Nat} {l:List Bk.B} {K:Nat->Prop} {Q:World->Prop}
theorem r8 (X:World) (rb:Nat):Calls Tryz.prog 31 #[ptr rb] X fun e X'=>e=eb (ptr X.heap.size)/\X'=X.alloc (ey #[ptr rb,bf cu 4] 157):=by have H:=aa (fun W=>FB W rb 4);unfold ptr at H |-;go_enter Tryz.func31,Tryz.ntmps31;go_wp2_with fail;refine (H.o _).mono ?_;rintro e w1 ⟨rfl,rfl⟩;go_wp2;go_ret;exact⟨rfl,rfl⟩
theorem uo (h:BH w rb n l B K Q X) (nm:ByteArray):Calls Tryz.prog 29 #[ptr rb,bR nm] X fun e X'=>e=eb (bf cu (if Nm.bucket nm.data.toList=true then 0 else 28))/\BH w rb n l B K Q X':=by
 have H:=aa (Qd h (k:=4) (by decide));have b:=aa (fun W=>xy nm W);clear h;unfold ptr at H |-;cases c:Nm.bucket nm.data.toList with
 |false=>rw[c] at b;rw[if_neg (by decide)];clear c;go_enter Tryz.func29,Tryz.ntmps29;go_wp2_with fail;refine H.o.mono ?_;rintro e w1 ⟨m,rfl,a⟩;have d:=aa a;clear a H;go_wp2_with fail;refine (b.o _).mono ?_;rintro e f ⟨rfl,rfl⟩;go_wp2;go_ret;exact⟨rfl,d.o⟩
 |true=>rw[c] at b;rw[if_pos rfl];clear c;go_enter Tryz.func29,Tryz.ntmps29;go_wp2_with fail;refine H.o.mono ?_;rintro e w1 ⟨m,rfl,a⟩;have d:=aa a;clear a H;go_wp2_with fail;refine (b.o _).mono ?_;rintro e f ⟨rfl,rfl⟩;go_wp2;go_ret;exact⟨rfl,d.o⟩
theorem Be (h:BH w rb n l B K Q X) (hf:Bk.Fit l) (b:Bk.B) (f:Bk.One b) (z:B<=60000000) (hn:2*l.length+38<=n):
  Calls Tryz.prog 27 #[ptr rb,qH b] X fun e X'=>e=eb (bf cu 0)/\BH w rb n (Bk.ins l b) (B+30000) K Q X':=by
 have C:=aa (fun W=>r8 W rb)
 have M:=aa (show ∀W,Calls Tryz.prog 30 #[bR (bs b.name)] W fun e w'=>e=eb (bR (bs (Bk.key b.name)))/\Below W.heap.size W w' from fun W=>by
  have:=gR (bs b.name) W;rw[bS,oQ f.name] at this;exact this)
 have U:=aa (fun W=>zJ b f W);obtain⟨p,r,D,d,t⟩:=h.boxed #[bR (bs b.name),bf cu b.state,bf dg b.born,eX b.on,bR (bs b.pre),bf dg b.after] 46
 have E:=aa (show ∀(tb:Nat) (W:World),RT w rb tb 4 n (Bk.qC Bk.gB l) B p r W->Calls Tryz.prog 45 #[ptr tb,bR (bs (Bk.key b.name)),bR (bs (Bk.gB b))] W fun e X'=>e=eb (bf cu 0)/\BH w rb n (Bk.ins l b) (B+30000) p r X' from fun tb W N=>by
  have:=Th (key:=Bk.key b.name) (vl:=Bk.gB b) N (by have:=Bk.Hj f.name;omega) (by rw[Bk.Dm f];decide) z (by rw[show (Bk.qC Bk.gB l).length=l.length from aT _];exact hn);rw[Bk.Qf hf.1 b (Nm.eS f.name)] at this;exact this)
 have u:=h.T9.2.2;have x:=aa (D.still ((Below.refl _ _).drew));have J:=aa (t _ x.o.q);have G:=aa t;have O:=aa d;clear h D t d hf hn z f u;unfold qH at U |-;unfold ptr at C E |-;simp only at J G;generalize bs b.name=v0 at*;generalize bs b.pre=v4 at*;generalize b.state=v1 at*;generalize b.born=v2 at*;generalize b.on=v3 at*;generalize b.after=v5 at*;generalize Bk.ins l b=Z at*;go_enter Tryz.func27,Tryz.ntmps27;go_wp2_with (refine wp_region_held_drew (S:=(fun Y=>Y.cell? ⟨X.heap.size,0,av⟩=aD (bR v0)/\Y.cell? ⟨X.heap.size,1,av⟩=aD (bf cu v1)/\Y.cell? ⟨X.heap.size,2,av⟩=aD (bf dg v2)/\Y.cell? ⟨X.heap.size,3,av⟩=aD (eX v3)/\Y.cell? ⟨X.heap.size,4,av⟩=aD (bR v4)/\Y.cell? ⟨X.heap.size,5,av⟩=aD (bf dg v5))) (by kernel_rfl) ?_ (fun a=> ?_);focus skip;rotate_left;refine Hid.o ?_);refine aa ?_;·exact six J.o
 generalize (aC X _).drew=Y at*;generalize X.heap.size=bb at*;refine wpAnyH_take (i:=0) (v:= ?_) (by simp only[aL,aM];exact rfl) (by kernel_rfl) (by kernel_rfl) (by kernel_rfl) (by exact fun _ _ _ h=>h) (Or.inl ⟨by rfl, ?_⟩) a ?_;rotate_left;·intro w c;obtain⟨s0,s1,s2,s,j,k⟩:=c;go_simp;try with_reducible rfl
 refine wpAnyH_take (i:=2) (v:= ?_) (by simp only[aL,aQ,aM];exact rfl) (by kernel_rfl) (by kernel_rfl) (by kernel_rfl) (by exact fun _ _ _ h=>h) (Or.inl ⟨by rfl, ?_⟩) a ?_;rotate_left;·intro w c;obtain⟨s0,s1,s2,s,j,k⟩:=c;go_simp;try with_reducible rfl
 refine wpAnyH_take (i:=3) (v:= ?_) (by simp only[aL,aQ,aM];exact rfl) (by kernel_rfl) (by kernel_rfl) (by kernel_rfl) (by exact fun _ _ _ h=>h) (Or.inl ⟨by rfl, ?_⟩) a ?_;rotate_left;·intro w c;obtain⟨s0,s1,s2,s,j,k⟩:=c;go_simp;try with_reducible rfl
 refine wpAnyH_take (i:=5) (v:= ?_) (by simp only[aL,aQ,aM];exact rfl) (by kernel_rfl) (by kernel_rfl) (by kernel_rfl) (by exact fun _ _ _ h=>h) (Or.inl ⟨by rfl, ?_⟩) a ?_;rotate_left;·intro w c;obtain⟨s0,s1,s2,s,j,k⟩:=c;go_simp;try with_reducible rfl
 try simp only[Act.put,aA,az,ay]
 clear a;refine iV [1] (iW fun K H=> ?_);go_simp;refine (C.o _).mono ?_;rintro e w1 ⟨rfl,g⟩;have V:=aa (show RT w rb Y.heap.size 4 n _ B p r (Y.alloc (ey #[e7 (aD ⟨rb,0,av⟩),bf cu 4] 157)) from x.o.tree);have I:=(Below.refl _ Y).alloc (ah _) (ey #[e7 (aD ⟨rb,0,av⟩),bf cu 4] 157);have F:=aa (J.o.below I J.o.lt);generalize Y.heap.size=tb at*;rw[<-g] at V F;refine H.out _ _ (six F.o) (fun a=> ?_);clear H a J x I g;refine iV [4] (iW fun K H=> ?_);go_simp;refine (M.o _).mono ?_;rintro e w2 ⟨rfl,A⟩;have L:=aa (V.o.still A);have m:=aa (F.o.below A F.o.lt);refine H.out _ _ (six m.o) (fun a=> ?_);clear H a F V A;refine iV [6] (iW fun K H=> ?_);go_simp;refine (U.o _).mono ?_;rintro e w3 ⟨rfl,y⟩;have P:=aa (L.o.still y);have R:=aa (m.o.below y m.o.lt);refine H.out _ _ (six R.o) (fun a=> ?_);clear H a m L y;refine iV [7] (iW fun K H=> ?_);go_simp;refine (E.o _ _ P.o).mono ?_;rintro e w4 ⟨rfl,h4⟩;have T:=aa (O.o _ _ _ _ h4 (aG.refl _ _));refine H.out _ _ (six (G.o _ h4.q)) (fun a=> ?_);clear H h4;refine wpAnyH_take (i:=8) (v:= ?_) (by simp only[aL,aQ,aM];exact rfl) (by kernel_rfl) (by kernel_rfl) (by kernel_rfl) (by exact fun _ _ _ h=>h) (Or.inl ⟨by rfl, ?_⟩) a ?_;rotate_left;·intro w c;obtain⟨s0,s1,s2,s,j,k⟩:=c;go_simp;try with_reducible rfl
 refine wpAnyH_done (by kernel_rfl) ?_ _;try simp only[Act.put,aA,az,ay]
 go_wp2_with fail;go_ret;exact⟨rfl,T.o⟩
end
namespace Bk
def B0:B:=⟨[],0,0,false,[],0⟩
def seen (l:List B) (n:Text):B:=if err l n=0 then (find l n).getD B0 else B0
theorem jZ (l:List B) (n:Text):(Nm.bucket n=false/\err l n=28/\seen l n=B0)\/(Nm.bucket n=true/\find l n=av/\err l n=20/\seen l n=B0)\/∃b,Nm.bucket n=true/\find l n=aD b/\err l n=0/\seen l n=b:=by
 unfold seen err;cases h:Nm.bucket n with
 |false=>exact dc ⟨rfl,rfl,rfl⟩
 |true=>
  cases H:find l n with
  |none=>exact dn (dc ⟨rfl,rfl,rfl,rfl⟩)
  |some b=>exact dn (dn ⟨b,rfl,rfl,rfl,rfl⟩)
end Bk
theorem qF {w:World} {g:Nat} {t:TypeId} {v0 v1 v2 v3 v4 v5:Value} (h:aU w g t [v0,v1,v2,v3,v4,v5]):
  w.cell? ⟨g,0,av⟩=aD v0/\w.cell? ⟨g,1,av⟩=aD v1/\w.cell? ⟨g,2,av⟩=aD v2/\w.cell? ⟨g,3,av⟩=aD v3/\w.cell? ⟨g,4,av⟩=aD v4/\w.cell? ⟨g,5,av⟩=aD v5/\w.frozen? ⟨g,0,av⟩=false/\w.frozen? ⟨g,1,av⟩=false/\w.frozen? ⟨g,2,av⟩=false/\w.frozen? ⟨g,3,av⟩=false/\w.frozen? ⟨g,4,av⟩=false/\w.frozen? ⟨g,5,av⟩=false:=
 ⟨h.cell rfl,h.cell rfl,h.cell rfl,h.cell rfl,h.cell rfl,h.cell rfl,h.frozen 0,h.frozen 1,h.frozen 2,h.frozen 3,h.frozen 4,h.frozen 5⟩
section
variable {w X:World} {rb n B:Nat} {l:List Bk.B} {K:Nat->Prop} {Q:World->Prop}
theorem nD (h:BH w rb n l B K Q X) (hf:Bk.Fit l) (nm:List UInt8):
  Calls Tryz.prog 12 #[ptr rb,bR (bs nm)] X fun e X'=>e=eb (gu #[qH (Bk.seen l nm),bf cu (Bk.err l nm:Nat)])/\BH w rb n l (B+30000) K Q X':=by
 obtain⟨k,a,I,c,L⟩:=h.boxed #[bR ⟨#[]⟩,bf cu 0,bf dg 0,eX false,bR ⟨#[]⟩,bf dg 0] 46;have m:=aa I;have p:=aa (show ∀Y,a Y->aU Y X.heap.size 46 [bR ⟨#[]⟩,bf cu 0,bf dg 0,eX false,bR ⟨#[]⟩,bf dg 0] from L);have y:=aa c;have z:=aa (show ∀W,BH w rb n l B k a W->Calls Tryz.prog 29 #[e7 (aD ⟨rb,0,av⟩),bR (bs nm)] W fun e X'=>e=eb (bf cu (if Nm.bucket nm=true then 0 else 28))/\BH w rb n l B k a X' from fun W hW=>uo hW (bs nm));have M:=aa (show ∀W,Calls Tryz.prog 31 #[e7 (aD ⟨rb,0,av⟩)] W fun e X'=>e=eb (e7 (aD ⟨W.heap.size,0,av⟩))/\X'=W.alloc (ey #[e7 (aD ⟨rb,0,av⟩),bf cu 4] 157) from fun W=>r8 W rb);clear h I L c;unfold ptr;rcases Bk.jZ l nm with⟨E,d,f⟩|⟨E,r,d,f⟩|⟨b,E,r,d,f⟩
 ·rw[d,f];rw[E,if_neg (by decide)] at z;clear E d f;generalize bs nm=N at*;go_enter Tryz.func12,Tryz.ntmps12;go_wp2_with fail;generalize X.heap.size=bb at*;generalize aC X _=X0 at*;refine (z.o _ m.o).mono ?_;rintro e w1 ⟨rfl,g⟩;have H:=aa g;clear g m z;obtain⟨O,P,R,S,T,U,Z,V,z2,z3,z4,z5⟩:=qF (p.o _ H.o.q);go_wp2;obtain⟨t,u⟩:=FI (p.o _ H.o.q) (bR ⟨#[]⟩) (bf cu 0) (bf dg 0) (eX false) (bR ⟨#[]⟩) (bf dg 0);try simp only[Exit.inBlock,Exit.then]
  refine bodyPost_ret (A7 rfl _ rfl t) rfl ?_;exact⟨rfl,(y.o _ _ _ _ H.o u).more (by omega)⟩
 ·rw[d,f];rw[E,if_pos rfl] at z
  have C:=aa (show ∀W,Calls Tryz.prog 30 #[bR (bs nm)] W fun e w'=>e=eb (bR (bs (Bk.key nm)))/\Below W.heap.size W w' from fun W=>by
   have:=gR (bs nm) W;rw[bS,oQ E] at this;exact this)
  have i:=aa (show ∀tb W,RT w rb tb 4 n (Bk.qC Bk.gB l) B k a W->Calls Tryz.prog 32 #[e7 (aD ⟨tb,0,av⟩),bR (bs (Bk.key nm))] W fun e X'=>e=eb (gu #[bR ⟨#[]⟩,eX false,bf cu 0])/\BH w rb n l (B+30000) k a X' from fun tb W D=>by
   have:=Na (key:=Bk.key nm) D;rw[Bk.Hg (Nm.eS E),r] at this;exact this)
  clear E d f r;generalize bs (Bk.key nm)=KK at*;generalize bs nm=N at*;go_enter Tryz.func12,Tryz.ntmps12;go_wp2_with fail;generalize X.heap.size=bb at*;generalize aC X _=X0 at*;refine (z.o _ m.o).mono ?_;rintro e w1 ⟨rfl,g⟩;have H:=aa g;clear g m z;go_wp2_with fail;refine (C.o _).mono ?_;rintro e j ⟨rfl,A⟩;have v:=aa (H.o.still A);clear A H;go_wp2_with fail;refine (M.o _).mono ?_;rintro e w3 ⟨rfl,J⟩;have F:=aa (show RT w rb j.heap.size 4 n _ B k a (j.alloc (ey #[e7 (aD ⟨rb,0,av⟩),bf cu 4] 157)) from v.o.tree);rw[<-J] at F;clear J v;generalize j.heap.size=tb at*;go_wp2_with fail;refine (i.o _ _ F.o).mono ?_;rintro e w4 ⟨rfl,h4⟩;have s:=aa h4;clear h4 F;obtain⟨O,P,R,S,T,U,Z,V,z2,z3,z4,z5⟩:=qF (p.o _ s.o.q);go_wp2;obtain⟨t,u⟩:=FI (p.o _ s.o.q) (bR ⟨#[]⟩) (bf cu 0) (bf dg 0) (eX false) (bR ⟨#[]⟩) (bf dg 0);try simp only[Exit.inBlock,Exit.then]
  refine bodyPost_ret (A7 rfl _ rfl t) rfl ?_;exact⟨rfl,y.o _ _ _ _ s.o u⟩
 ·rw[d,f];rw[E,if_pos rfl] at z;obtain⟨hm,rfl⟩:=Bk.mL r
  have C:=aa (show ∀W,Calls Tryz.prog 30 #[bR (bs b.name)] W fun e w'=>e=eb (bR (bs (Bk.key b.name)))/\Below W.heap.size W w' from fun W=>by
   have:=gR (bs b.name) W;rw[bS,oQ E] at this;exact this)
  have i:=aa (show ∀tb W,RT w rb tb 4 n (Bk.qC Bk.gB l) B k a W->Calls Tryz.prog 32 #[e7 (aD ⟨tb,0,av⟩),bR (bs (Bk.key b.name))] W fun e X'=>e=eb (gu #[bR (bs (Bk.gB b)),eX true,bf cu 0])/\BH w rb n l (B+30000) k a X' from fun tb W D=>by
   have:=Na (key:=Bk.key b.name) D;rw[Bk.Hg (Nm.eS E),r] at this;exact this)
  have Xj:=aa (fun W=>r7 b (hf.one hm) W);unfold qH at Xj |-;clear E d f r hm hf;generalize bs (Bk.gB b)=RV at*;generalize bs (Bk.key b.name)=KK at*;generalize bs b.name=N at*;generalize bs b.pre=PB at*;generalize b.state=v1 at*;generalize b.born=v2 at*;generalize b.on=v3 at*;generalize b.after=v5 at*;go_enter Tryz.func12,Tryz.ntmps12;go_wp2_with fail;generalize X.heap.size=bb at*;generalize aC X _=X0 at*;refine (z.o _ m.o).mono ?_;rintro e w1 ⟨rfl,g⟩;have H:=aa g;clear g m z;go_wp2_with fail;refine (C.o _).mono ?_;rintro e j ⟨rfl,A⟩;have v:=aa (H.o.still A);clear A H;go_wp2_with fail;refine (M.o _).mono ?_;rintro e w3 ⟨rfl,J⟩;have F:=aa (show RT w rb j.heap.size 4 n _ B k a (j.alloc (ey #[e7 (aD ⟨rb,0,av⟩),bf cu 4] 157)) from v.o.tree);rw[<-J] at F;clear J v;generalize j.heap.size=tb at*;go_wp2_with fail;refine (i.o _ _ F.o).mono ?_;rintro e w4 ⟨rfl,h4⟩;have s:=aa h4;clear h4 F;go_wp2_with fail;refine (Xj.o _).mono ?_;rintro e x ⟨rfl,dP⟩;have H5:=aa (s.o.still dP);clear dP s;have G:=aa (H5.o.still ((Below.refl _ x).alloc (ah _) (ey #[bR N,bf cu v1,bf dg v2,eX v3,bR PB,bf dg v5] 46)));have DW:=aa (aU.new x #[bR N,bf cu v1,bf dg v2,eX v3,bR PB,bf dg v5] 46);go_upto_if 47 with fail;clear H5;generalize aC x _=w6 at*;generalize x.heap.size=gb at*;obtain⟨x0,x1,x2,x3,x4,x5⟩:=six DW.o;obtain⟨O,P,R,S,T,U,Z,V,z2,z3,z4,z5⟩:=qF (p.o _ G.o.q);go_wp2;obtain⟨t,u⟩:=FI (p.o _ G.o.q) (bR N) (bf cu v1) (bf dg v2) (eX v3) (bR PB) (bf dg v5);try simp only[Exit.inBlock,Exit.then]
  refine bodyPost_ret (A7 rfl _ rfl t) rfl ?_;exact⟨rfl,y.o _ _ _ _ G.o u⟩
end
end
namespace Bk
open Tr (fB)
theorem zO {lim:Int} {lo hi:Text}:∀(l s:fB),(∀p∈l,hasB lo hi p.1=true)->(s.length+l.length:Int)<=lim->l.foldl (fo lim lo hi) s=s++l
 |[],s,_,_=>(bA s).symm
 |p::l,s,ha,h=>by
  rw[a_] at h;have e:fo lim lo hi s p=s++[p]:=by unfold fo;rw[if_pos ⟨by omega,ha p aE⟩]
  rw[List.foldl_cons,e,zO l (s++[p]) (fun q H=>ha q (aI _ H)) (by rw[au,ew];omega),aF];rfl
variable {rec:B->Text} {l:List B}
theorem Hp {p:Text×Text} (h:p∈qC rec l):∃t,p.1=98::t/\t≠[]:=by unfold qC at h;obtain⟨b,_,rfl⟩:=List.mem_map.1 h;exact⟨b.name++[0],rfl,by simp⟩
theorem xC:(qC rec l).length=l.length:=aT _
theorem F0 {lim:Int} (h:(l.length:Int)<=lim):(qC rec l).foldl (fo lim (Nm.under 98 []) (Nm.behind (Nm.under 98 []))) []=qC rec l:=by
 have E:Nm.under 98 []=[98]:=by decide
 have a:Nm.behind [98]=[99]:=by decide
 rw[E,a,zO _ _ ?_ (by rw[xC,ef];omega),dI];intro p hp;obtain⟨t,e,H⟩:=Hp hp;rw[e];cases t with
 |nil=>exact absurd rfl H
 |cons c t=>simp[hasB,Tr.lt]
theorem DB {lim:Int} {c:UInt8} (hc:98<c) {n:Text} (hn:(0:UInt8)∉n) (hi:Text):(qC rec l).foldl (fo lim (Nm.under c [n]) hi) []=[]:=by
 refine rW (fun p hp=> ?_) [];obtain⟨t,e,h⟩:=Hp hp;rw[e,Nm.xf (by intro p hp;rw[cQ.1 hp];exact hn)];have:Tr.lt (98::t) (c::[n].flatMap (· ++[0]))=true:=by show (decide (98<c)||_)=true;rw[decide_eq_true hc,Bool.true_or]
 unfold hasB;rw[this];rfl
end Bk
section
open Go.RowKit Lib
namespace Nm
theorem J4 (s:ByteArray) (k:Nat) (h:k<s.size):s.data.toList.take (k+1)=s.data.toList.take k++[s[k]]:=by rw[cC (show k<s.data.toList.length from h)];rfl
theorem DC (s:ByteArray) (k:Nat) (h:k<s.size):behind (s.data.toList.take (k+1))=if s[k]<255 then s.data.toList.take k++[s[k]+1] else behind (s.data.toList.take k):=by rw[J4 s k h,Dj]
theorem Xk (c:UInt8):(c<255/\(c.toNat:Int)<255/\(c.toNat:Int)+1=((c+1).toNat:Int))\/(¬c<255/\¬(c.toNat:Int)<255):=by
 have H:(255:UInt8).toNat=255:=rfl;by_cases h:c.toNat<255;·refine dc ⟨by rw[tD];omega,by omega, ?_⟩;rw[UInt8.toNat_add];have a:(1:UInt8).toNat=1:=rfl;rw[a];omega
 ·exact dn ⟨by rw[tD];omega,by omega⟩
end Nm
theorem F3 (s:ByteArray) (w:World) (hs:s.size<=1000000):Calls Tryz.prog 59 #[bR s] w fun e w'=>e=eb (bR (bs (Nm.behind s.data.toList)))/\Below w.heap.size w w':=by
 have y:(s.size:Int)<=1000000:=by omega
 go_enter Tryz.func59,Tryz.ntmps59;go_wp2
 go_loopw [3] (fun i wr=>∃k:Nat,k<=s.size/\i=bf cu ((k:Int)-1)/\Hid (Nm.behind s.data.toList=Nm.behind (s.data.toList.take k))/\wr=w) (fun i _=>(RowKit.intOf i+1).toNat)
 case atStart=>exact⟨s.size,ah _,rfl,aa (by rw[cg (by rw[bk];exact ah _)]),rfl⟩
 case round=>
  obtain⟨k,f,rfl,a,rfl⟩:=hrel;cases k with
  |zero=>go_wp2;go_ret;exact⟨by rw[a.o];rfl,Below.refl _ _⟩
  |succ k=>
   have u:(k:Int)<s.size:=(by omega);have e:((k+1:Nat):Int)-1=(k:Int):=(by omega);rw[e];have H:=aa (a.o.trans (Nm.DC s k (by omega)));clear a e;rcases Nm.Xk s[k] with⟨h,b,h3⟩|⟨h,b⟩
   ·rw[if_pos h] at H;have Q:(convert 94 9 (cx (aD ⟨wr.heap.size,0,av⟩) 1 1)).run Tryz.prog ((wr.alloc (ey #[bf gx ((s[k].toNat:Int)+1)] 5)).drew)=.ok (bR (bs [s[k]+1])) ((wr.alloc (ey #[bf gx ((s[k].toNat:Int)+1)] 5)).drew):=(by rw[h3];exact gI.back ((DA wr (s[k]+1)).drew));have c:=aa (show s.extract 0 k++bs [s[k]+1]=bs (s.data.toList.take k++[s[k]+1]) by rw[j6 s k,yC]);have d:(s.extract 0 k).size+(bs [s[k]+1]).size<=9223372036854775807:=(by rw[aP,j6,aP,aO,ew];omega);generalize bs [s[k]+1]=Y at*;clear h h3;go_wp2_with fail
    go_region
    go_wp2;go_ret;exact⟨by rw[H.o,<-c.o];rfl,((Below.refl wr.heap.size wr).alloc (ah _) _).drew⟩
   ·rw[if_neg h] at H;go_wp2;go_roundw
    case rel=>exact⟨k,by omega,rfl,H,trivial⟩
    case measure=>simp[RowKit.intOf]
section
variable {w X:World} {rb n B:Nat} {l:List Bk.B} {K:Nat->Prop} {Q:World->Prop}
theorem DD (h:BH w rb n l B K Q X) (kind:UInt8) (v:Value) (parts:List (List UInt8)) (hr:Reads X v parts) (hp:∀i (hi:i<parts.length),parts[i].length<=1000) (hl:parts.length<=100) (lim:Int):
  Calls Tryz.prog 38 #[ptr rb,bf cu lim,bf gx kind.toNat,v] X fun e X'=>∃v',e=eb (gu #[v',bf cu 0])/\rU X.heap.size X' v' ((Bk.qC Bk.gB l).foldl (fo lim (Nm.under kind parts) (Nm.behind (Nm.under kind parts))) [])/\BH w rb n l (B+30000) K Q X':=by
 have H:(Nm.under kind parts).length<=1000000:=by
  unfold Nm.under
  split
  ·simp
  ·have:∀(ps:List (List UInt8)),(∀p∈ps,p.length<=1000)->(ps.flatMap (· ++[0])).length<=1001*ps.length:=by
    intro ps;induction ps with
    |nil=>simp
    |cons p t I=>intro hh;have A:=I fun q m=>hh q (aI _ m);have C:=hh p aE;rw[List.flatMap_cons,au,au,ew,a_];omega
   have h3:=this parts fun p b=>by obtain⟨i,hi,e⟩:=List.mem_iff_getElem.1 b;rw[<-e];exact hp i hi
   rw[a_];exact aH (Nat.succ_le_succ h3) (by omega)
 have T:=aa (zL kind v parts X hr (fun i hi=>by have:=hp i hi;omega) hl);have E:=aa (fun W=>F3 (bs (Nm.under kind parts)) W (by rw[aP];exact H));rw[bS] at E;have r:=aa (show ∀W,Calls Tryz.prog 31 #[e7 (aD ⟨rb,0,av⟩)] W fun e X'=>e=eb (e7 (aD ⟨W.heap.size,0,av⟩))/\X'=W.alloc (ey #[e7 (aD ⟨rb,0,av⟩),bf cu 4] 157) from fun W=>r8 W rb);have g:=aa h;have a:=aa (fun tb W (u:RT w rb tb 4 n (Bk.qC Bk.gB l) B K Q W)=>Qe u (Nm.under kind parts) (Nm.behind (Nm.under kind parts)) lim);unfold ptr at a |-;clear h hr hp H;generalize Nm.behind (Nm.under kind parts)=D at*;generalize Nm.under kind parts=L at*;generalize (kind.toNat:Int)=KK at*;go_enter Tryz.func38,Tryz.ntmps38;go_wp2_with fail;refine T.o.mono ?_;rintro e w1 ⟨rfl,c⟩;have j:=aa (g.o.still c);have x:=aa c.size;clear c T g;go_wp2_with fail;refine (r.o _).mono ?_;rintro e M ⟨rfl,J⟩;have G:=aa (show RT w rb w1.heap.size 4 n _ B K Q (w1.alloc (ey #[e7 (aD ⟨rb,0,av⟩),bf cu 4] 157)) from j.o.tree);have s:=aa (show X.heap.size<=(w1.alloc (ey #[e7 (aD ⟨rb,0,av⟩),bf cu 4] 157)).heap.size by rw[aS];have:=x.o;omega);rw[<-J] at G s;clear J j;generalize w1.heap.size=tb at*;go_wp2_with fail;refine (E.o _).mono ?_;rintro e w3 ⟨rfl,d⟩;have F:=aa (G.o.still d);have f:=aa (aH s.o d.size);clear d G s;go_wp2_with fail;refine (a.o _ _ F.o).mono ?_;rintro e N ⟨v',rfl,k,h4⟩;have y:=aa h4;have z:=aa (Own.mono k f.o);clear h4 k F;go_wp2
 go_ret2
 exact⟨_,rfl,z.o,y.o⟩
theorem DE (h:BH w rb n l B K Q X) (c:UInt8) (hc:98<c) (nm:List UInt8) (hn:Nm.bucket nm=true):
  Calls Tryz.prog 38 #[e7 (aD ⟨rb,0,av⟩),bf cu 1,bf gx c.toNat,cx (aD ⟨X.heap.size,0,av⟩) 1 1] (X.alloc (ey #[bR (bs nm)] 9)) fun e X'=>∃a cap,e=eb (gu #[cx a 0 cap,bf cu 0])/\BH w rb n l (B+30000) K Q X':=by
 have d:=h.still ((Below.refl _ X).alloc (ah _) (ey #[bR (bs nm)] 9));have H:=Nm.qB hn;refine (DD d c (cx (aD ⟨X.heap.size,0,av⟩) 1 1) [nm] (zM X [nm]) (fun i hi=> ?_) (by rw[ew];decide) 1).mono ?_
 ·rw[ew] at hi;obtain rfl:i=0:=by omega
  show nm.length<=1000;omega
 rintro e X' ⟨v',rfl,b,f⟩;rw[Bk.DB hc (Nm.eS hn)] at b;obtain⟨a,cap,rfl,_⟩:=Own.slice b;exact⟨a,cap,rfl,f⟩
theorem DF (h:BH w rb n l B K Q X) (hf:Bk.Fit l) (nm:List UInt8):
  Calls Tryz.prog 23 #[ptr rb,bR (bs nm)] X fun e X'=>e=eb (gu #[eX (decide (Bk.err l nm=0)),bf cu (Bk.err l nm:Nat)])/\BH w rb n l (B+90000) K Q X':=by
 have I:=aa (nD h hf nm);unfold ptr at I |-;unfold qH at I;clear h;rcases Bk.jZ l nm with⟨f,E,c⟩|⟨f,C,E,c⟩|⟨b,f,C,E,c⟩
 ·rw[E,c] at I;rw[E];clear f E c;generalize bs nm=N at*;go_enter Tryz.func23,Tryz.ntmps23;go_wp2_with fail;refine I.o.mono ?_;rintro e w1 ⟨rfl,H⟩;have p:=aa (H.still ((Below.refl _ w1).alloc (ah _) (ey #[bR ⟨#[]⟩,bf cu 0,bf dg 0,eX false,bR ⟨#[]⟩,bf dg 0] 46)));clear H I;go_wp2
  go_ret2
  exact⟨rfl,p.o.more (by omega)⟩
 ·rw[E,c] at I;rw[E];clear f E c;generalize bs nm=N at*;go_enter Tryz.func23,Tryz.ntmps23;go_wp2_with fail;refine I.o.mono ?_;rintro e w1 ⟨rfl,H⟩;have p:=aa (H.still ((Below.refl _ w1).alloc (ah _) (ey #[bR ⟨#[]⟩,bf cu 0,bf dg 0,eX false,bR ⟨#[]⟩,bf dg 0] 46)));clear H I;go_wp2
  go_ret2
  exact⟨rfl,p.o.more (by omega)⟩
 ·rw[E,c] at I;rw[E];obtain⟨N,D⟩:∃N,N=bs nm:=⟨_,rfl⟩;have g:=aa (fun B' r k W (u:BH w rb n l B' r k W)=>DE u 118 (by decide) nm f);have m:=aa (fun B' r k W (u:BH w rb n l B' r k W)=>DE u 117 (by decide) nm f);rw[show ((118:UInt8).toNat:Int)=118 from rfl] at g;rw[show ((117:UInt8).toNat:Int)=117 from rfl] at m;rw[<-D] at I g m |-;clear f E c C hf D;generalize bs b.name=G at*;generalize bs b.pre=PB at*;go_enter Tryz.func23,Tryz.ntmps23;go_wp2_with fail;refine I.o.mono ?_;rintro e w1 ⟨rfl,H⟩;have p:=aa (H.still ((Below.refl _ w1).alloc (ah _) (ey #[bR G,bf cu b.state,bf dg b.born,eX b.on,bR PB,bf dg b.after] 46)));clear H I;go_upto_if 19 with fail;generalize aC w1 _=v at*;obtain⟨r,k,h3,d,s⟩:=p.o.boxed #[bf gx 118,bf gx 117] 5;have F:=aa h3;have J:=aa (show ∀Y,k Y->aU Y v.heap.size 5 [bf gx 118,bf gx 117] from s);have L:=aa (fun l' B' Y (M:RH w rb 4 n l' B' r k Y)=>d l' B' Y Y M (aG.refl _ _));clear h3 d s p;go_wp2_with fail;generalize aC v _=w3 at*;generalize v.heap.size=kb at*
  go_loopw [23] (fun x wr=>∃i:Nat,i<=2/\x=bf cu i/\Hid (BH w rb n l (B+30000+30000*i) r k wr)) (fun x _=>2-(RowKit.intOf x).toNat)
  case atStart=>exact⟨0,aB _,rfl,F⟩
  case round=>
   clear F;obtain⟨i,hi,rfl,y⟩:=hrel;have t:=y;have s:=J.o _ y.o.q;have x0:=s.cell (j:=0) rfl;have z:=s.cell (j:=1) rfl;clear s y;have h3:i=0\/i=1\/i=2:=(by omega);rcases h3 with rfl|rfl|rfl
   ·go_wp2_with fail;refine (g.o _ _ _ _ t.o).mono ?_;rintro e O ⟨a,cap,rfl,h4⟩;have A:=aa h4;clear h4 x0 z t;go_wp2_with fail;go_roundw
    case rel=>exact⟨1,by decide,rfl,aa (A.o.more (by omega))⟩
    case measure=>simp[RowKit.intOf]
   ·go_wp2_with fail;refine (m.o _ _ _ _ t.o).mono ?_;rintro e O ⟨a,cap,rfl,h4⟩;have A:=aa h4;clear h4 x0 z t;go_wp2_with fail;go_roundw
    case rel=>exact⟨2,by decide,rfl,aa (A.o.more (by omega))⟩
    case measure=>simp[RowKit.intOf]
   ·clear x0 z;go_wp2
    go_ret2
    exact⟨rfl,(L.o _ _ _ t.o).more (by omega)⟩
theorem Qo (h:BH w rb n l B K Q X) (hf:Bk.Fit l) (nm:List UInt8) (s:B<=50000000):
  Calls Tryz.prog 19 #[ptr rb,bR (bs nm)] X fun e X'=>e=eb (bf cu ((Bk.dropped l nm).2:Nat))/\BH w rb n (Bk.dropped l nm).1 (B+120000) K Q X':=by
 have O:=aa (DF h hf nm);have m:=aa (show ∀W,Calls Tryz.prog 31 #[e7 (aD ⟨rb,0,av⟩)] W fun e X'=>e=eb (e7 (aD ⟨W.heap.size,0,av⟩))/\X'=W.alloc (ey #[e7 (aD ⟨rb,0,av⟩),bf cu 4] 157) from fun W=>r8 W rb);unfold ptr at O |-;clear h;rcases Bk.jZ l nm with⟨d,E,g⟩|⟨d,i,E,g⟩|⟨b,d,i,E,g⟩
 ·have a:Bk.dropped l nm=(l,28):=by unfold Bk.dropped;rw[E];rfl
  rw[a];rw[E] at O;clear d E g a hf;generalize bs nm=N at*;go_enter Tryz.func19,Tryz.ntmps19;go_wp2_with fail;refine O.o.mono ?_;rintro e w1 ⟨rfl,H⟩;have f:=aa H;clear H O;go_wp2;go_ret;exact⟨rfl,f.o.more (by omega)⟩
 ·have a:Bk.dropped l nm=(l,20):=by unfold Bk.dropped;rw[E];rfl
  rw[a];rw[E] at O;clear d E g i a hf;generalize bs nm=N at*;go_enter Tryz.func19,Tryz.ntmps19;go_wp2_with fail;refine O.o.mono ?_;rintro e w1 ⟨rfl,H⟩;have f:=aa H;clear H O;go_wp2;go_ret;exact⟨rfl,f.o.more (by omega)⟩
 ·have a:Bk.dropped l nm=(Bk.drop l nm,0):=by unfold Bk.dropped;rw[E];rfl
  rw[a];rw[E] at O
  have p:=aa (show ∀W,Calls Tryz.prog 30 #[bR (bs nm)] W fun e w'=>e=eb (bR (bs (Bk.key nm)))/\Below W.heap.size W w' from fun W=>by
   have:=gR (bs nm) W;rw[bS,oQ d] at this;exact this)
  have j:=aa (show ∀tb W,RT w rb tb 4 n (Bk.qC Bk.gB l) (B+90000) K Q W->Calls Tryz.prog 36 #[e7 (aD ⟨tb,0,av⟩),bR (bs (Bk.key nm))] W fun e X'=>(∃c:Bool,e=eb (gu #[eX c,bf cu 0]))/\BH w rb n (Bk.drop l nm) (B+90000+30000) K Q X' from fun tb W q=>by
   refine (Ti (key:=Bk.key nm) q (by omega)).mono ?_;rw[Bk.Qg];rintro e X' ⟨rfl,H⟩;exact⟨⟨_,rfl⟩,H⟩)
  clear d E g i a hf;generalize Bk.drop l nm=L at*;generalize bs (Bk.key nm)=KK at*;generalize bs nm=N at*;go_enter Tryz.func19,Tryz.ntmps19;go_wp2_with fail;refine O.o.mono ?_;rintro e w1 ⟨rfl,H⟩;have f:=aa H;clear H O;go_wp2_with fail;refine (m.o _).mono ?_;rintro e t ⟨rfl,J⟩;have G:=aa (show RT w rb w1.heap.size 4 n _ (B+90000) K Q (w1.alloc (ey #[e7 (aD ⟨rb,0,av⟩),bf cu 4] 157)) from f.o.tree);rw[<-J] at G;clear J f;generalize w1.heap.size=tb at*;go_wp2_with fail;refine (p.o _).mono ?_;rintro e w3 ⟨rfl,k⟩;have F:=aa (G.o.still k);clear k G;go_wp2_with fail;refine (j.o _ _ F.o).mono ?_;rintro e u ⟨⟨c,rfl⟩,h4⟩;have r:=aa h4;clear h4 F;go_wp2;go_ret;exact⟨rfl,r.o.more (by omega)⟩
end
theorem J5 (w:World) (n:Nat) (hn:n<=1000000):(Instr.makeSlice 64 (.int cu n) (.int cu n)).run Tryz.prog w=.ok (.slice (aD ⟨w.heap.size,0,av⟩) n n) (w.alloc (ey (bB n (.string .empty)).toArray 9)):=by obtain⟨i,hi,h,hs,H⟩:=kY (P:=Tryz.prog) (E:=9) (size:=1) (bytes:=16) (z:=.string .empty) (by kernel_rfl);have:=run_make (P:=Tryz.prog) w 64 9 i (.string .empty) Tryz.underlying64 hi h cu cu n n (by omega) (by omega) (by rw[H];omega) (by omega);rw[this,hs,dF,Nat.mul_one,show (Value.string .empty).cells=#[.string .empty] from rfl,uY]
def mM (l:List Bk.B) (k:Nat):List Value:=(l.take k).map (fun b=>Value.string (bs b.name))++bB (l.length-k) (bR .empty)
theorem F5 (l:List Bk.B):mM l 0=bB l.length (bR .empty):=rfl
theorem F7 (l:List Bk.B):mM l l.length=l.map fun b=>Value.string (bs b.name):=by unfold mM;rw[List.take_length,Nat.sub_self,List.replicate_zero,bA]
theorem J6 (l:List Bk.B) (k:Nat) (h:k<=l.length):(mM l k).length=l.length:=by unfold mM;rw[au,aT,aO,dZ];omega
theorem J7 (l:List Bk.B) (k:Nat) (h:k<l.length):(mM l k).set k (bR (bs l[k].name))=mM l (k+1):=by
 unfold mM;rw[cC h,bQ,List.map_singleton,aF];have e:bB (l.length-k) (Value.string .empty)=Value.string .empty::bB (l.length-(k+1)) (Value.string .empty):=by rw[show l.length-k=(l.length-(k+1))+1 by omega,List.replicate_succ]
 rw[e,List.set_append_right _ _ (by rw[aT,aO];omega),aT,aO,show k-min k l.length=0 by omega,ay];rfl
section
variable {w X:World} {rb n B:Nat} {l:List Bk.B} {K:Nat->Prop} {Q:World->Prop}
theorem Hq (l:List Bk.B) (k:Nat) (H:k<l.length) (h:k<(Bk.qC Bk.gB l).length):(Bk.qC Bk.gB l)[k]=(Bk.key l[k].name,Bk.gB l[k]):=List.getElem_map _
theorem J8 (X:World):Reads X (cx av 0 0) []:=⟨av,0,rfl,ah _,fun i hi=>absurd hi (Nat.not_lt_zero i)⟩
structure Rv (w1:World) (l:List Bk.B) (v:Value) (k:Nat) (X:World):Prop where
 below:Below w1.heap.size w1 X
 row:aU X w1.heap.size 9 (mM l k)
 cB:rU 0 X v (Bk.qC Bk.gB l)
theorem Rv.later {w1 X X':World} {v:Value} {k:Nat} (h:Rv w1 l v k X) (H:Below X.heap.size X X'):Rv w1 l v k X':=
 ⟨h.below.trans (H.mono h.below.size),h.row.below H h.row.lt,Own.below h.cB H (ah _)⟩
theorem Rv.store {w1 X:World} {v u:Value} {k:Nat} (h:Rv w1 l v k X) (a:(mM l k).set k u=mM l (k+1)) (b:∀g,v.ownBlock=aD g->g<w1.heap.size):Rv w1 l v (k+1) (X.setCell ⟨w1.heap.size,k,av⟩ u):=by
 have H:aG (fun i=>i=w1.heap.size) X (X.setCell ⟨w1.heap.size,k,av⟩ u):=(aG.refl _ X).setCell _ _ fun _=>rfl;refine⟨h.below.trans (H.below h.below.size fun i hi e=>by omega), ?_,Own.but h.cB H fun g hg e=>by have:=b g hg;omega⟩;have:=h.row.set k u
 rwa [a] at this
theorem DG (h:BH w rb n l B K Q X) (hf:Bk.Fit l) (hl:l.length<=1000000):
  Calls Tryz.prog 24 #[ptr rb] X fun e X'=>∃(g:Nat) (K1:Nat->Prop) (E:World->Prop),e=eb (gu #[cx (aD ⟨g,0,av⟩) l.length l.length,bf cu 0])/\RH w rb 4 n (Bk.qC Bk.gB l) (B+30000) K1 E X'/\∀Y,E Y->Q Y/\aU Y g 9 (l.map fun b=>Value.string (bs b.name)):=by
 have T:=aa (DD h 98 (cx av 0 0) [] (J8 X) (fun i hi=>absurd hi (Nat.not_lt_zero i)) (by decide) 9223372036854775807);rw[Bk.F0 (by omega),show ((98:UInt8).toNat:Int)=98 from rfl] at T;have HF:=aa hf;have u:(Bk.qC Bk.gB l).length=l.length:=aT _;have x:=fun W=>J5 W l.length hl;unfold ptr at T |-;clear h hf;obtain⟨L,O⟩:∃L,L=l.length:=⟨_,rfl⟩;have s:=aa O;have z:=aa hl;rw[<-O] at u x |-;go_enter Tryz.func24,Tryz.ntmps24;go_wp2_with fail;refine T.o.mono ?_;rintro e w1 ⟨v,rfl,t,F⟩;have H1:=aa F;obtain⟨a,cap,rfl,hc⟩:=Own.slice t;rw[u] at t |-;have G:=aa (Own.mono t (aB _))
 have J:=aa (show Rv w1 l (cx a L cap) 0 (w1.alloc (ey (Array.replicate L (bR .empty)) 9)) from⟨(Below.refl _ w1).alloc (ah _) _,by
  have:=aU.new w1 (Array.replicate L (bR .empty)) 9;rw[Array.toList_replicate,O,<-F5] at this;rw[O];exact this,Own.alloc G.o _⟩)
 clear F t hc u T hl O;go_wp2_with fail;generalize aC w1 _=w2 at*;have EO:(L:Int)<=1000000:=by have:=z.o;have:=s.o;omega
 go_loopw [24] (fun I wr=>∃k:Nat,k<=L/\I=bf cu k/\Hid (Rv w1 l (cx a L cap) k wr)) (fun I _=>L-(RowKit.intOf I).toNat)
 case atStart=>exact⟨0,aB _,rfl,J⟩
 case round=>
  clear J;obtain⟨k,hk,rfl,f⟩:=hrel;by_cases m:k<L
  ·have hI:(k:Int)<L:=(by omega);have y:=aa m;have HR:=f;have H:k<l.length:=(by rw[<-s.o];exact m);have c:k<(Bk.qC Bk.gB l).length:=(by rw[Bk.xC];exact H);obtain⟨g,M,hv,_,hg,p⟩:=Own.form f.o.cB (by omega);injection hv with Ta Bj hv3;subst Ta hv3;clear Bj;have d:bu lV wr g 0 (Bk.qC Bk.gB l):=Own.lies (cap:=cap) (n:=L) f.o.cB;have A:=d.at k 0 (by decide) c (bR (bs (Bk.key l[k].name))) (by rw[Hq l k H c];rfl);have N:=d.at k 1 (by decide) c (bR (bs (Bk.gB l[k]))) (by rw[Hq l k H c];rfl);rw[show lV.size=2 from rfl,bE] at A N;rw[d_] at A;have R:=aa (fun W=>r7 l[k] (HF.o.one (bI H)) W);have iq:=aa (J7 l k H);unfold qH at R;generalize l[k]=b at*;clear d H c p hg f;generalize bs (Bk.gB b)=RV at*;generalize bs (Bk.key b.name)=KK at*;generalize bs b.name=S at*;generalize bs b.pre=PB at*;have q:=aa (HR.o.later ((Below.refl _ wr).alloc (ah _) (ey #[bR KK,bR RV] 89)));have q7:=aa (aU.new wr #[bR KK,bR RV] 89);have HV:=aa (fun g' h'=>(Own.block G.o g' h').2);clear q7;go_wp2_with fail;refine (R.o _).mono ?_;rintro e w3 ⟨rfl,U⟩;have C:=aa ((q.o.later U).later ((Below.refl _ w3).alloc (ah _) (ey #[bR S,bf cu b.state,bf dg b.born,eX b.on,bR PB,bf dg b.after] 46)));have V:=aa (aU.new w3 #[bR S,bf cu b.state,bf dg b.born,eX b.on,bR PB,bf dg b.after] 46);clear U q A N;go_upto_if 35 with fail;generalize aC w3 _=w4 at*;generalize w3.heap.size=gb at*;have x0:=V.o.cell (j:=0) rfl;have r:k<(mM l k).length:=(by rw[J6 l k (by rw[<-s.o];exact Nat.le_of_lt y.o),<-s.o];exact y.o);have y0:=C.o.row.cell (j:=k) (aK r);have z0:=C.o.row.frozen k;generalize (mM l k)[k]=u0 at y0;clear r V;go_wp2_with fail;go_roundw
   case rel=>exact⟨k+1,y.o,by go_num,aa (C.o.store iq.o HV.o)⟩
   case measure=>have:=y.o;simp[RowKit.intOf];omega
  ·obtain rfl:k=L:=by omega
   have hI:¬(k:Int)<k:=(by omega);go_wp2
   go_ret2
   have D:=f.o.row;rw[s.o,F7] at D;have TK:=H1.o.box (P:=fun Y=>aU Y w1.heap.size 9 (l.map fun b=>Value.string (bs b.name))) f.o.below (fun X2 aV=>D.but aV fun hn=>hn ⟨ah _,D.lt⟩);exact⟨w1.heap.size,rfl,_,_,TK,fun Y Z=>⟨Z.1 Y (aG.refl _ _),Z.2⟩⟩
end
namespace Bk
theorem DH {l:List B} {n:Text} {b:B} (hg:Good l) (h:find l n=aD b) (f:B->B) (hf:(f b).name=b.name):ins l (f b)=upd l n f:=by obtain⟨H,rfl⟩:=mL h;rw[zH hg (by rw[hf,h];rfl),hf,<-JU hg h f]
end Bk
section
variable {w X:World} {rb n B:Nat} {l:List Bk.B} {K:Nat->Prop} {Q:World->Prop}
theorem uq (h:BH w rb n l B K Q X) (hf:Bk.Fit l) (nm:List UInt8) (s:Int) (x:B<=50000000) (hn:2*l.length+38<=n):
  Calls Tryz.prog 15 #[ptr rb,bR (bs nm),bf cu s] X fun e X'=>e=eb (bf cu ((Bk.setState l nm s).2:Nat))/\BH w rb n (Bk.setState l nm s).1 (B+60000) K Q X':=by
 have i:=aa (nD h hf nm);unfold ptr at i |-;unfold qH at i;clear h;rcases Bk.jZ l nm with⟨d,E,c⟩|⟨d,g,E,c⟩|⟨b,d,g,E,c⟩
 ·have a:Bk.setState l nm s=(l,28):=by unfold Bk.setState;rw[E];rfl
  rw[a];rw[E,c] at i;clear d E c a;generalize bs nm=N at*;go_enter Tryz.func15,Tryz.ntmps15;go_wp2_with fail;refine i.o.mono ?_;rintro e w1 ⟨rfl,H⟩;have f:=aa (H.still ((Below.refl _ w1).alloc (ah _) (ey #[bR ⟨#[]⟩,bf cu 0,bf dg 0,eX false,bR ⟨#[]⟩,bf dg 0] 46)));clear H i;go_wp2;go_ret;exact⟨rfl,f.o.more (by omega)⟩
 ·have a:Bk.setState l nm s=(l,20):=by unfold Bk.setState;rw[E];rfl
  rw[a];rw[E,c] at i;clear d E c a;generalize bs nm=N at*;go_enter Tryz.func15,Tryz.ntmps15;go_wp2_with fail;refine i.o.mono ?_;rintro e w1 ⟨rfl,H⟩;have f:=aa (H.still ((Below.refl _ w1).alloc (ah _) (ey #[bR ⟨#[]⟩,bf cu 0,bf dg 0,eX false,bR ⟨#[]⟩,bf dg 0] 46)));clear H i;go_wp2;go_ret;exact⟨rfl,f.o.more (by omega)⟩
 ·rw[E,c] at i;obtain⟨j,rfl⟩:=Bk.mL g;by_cases hs:s=1\/s=2
  ·have a:Bk.setState l b.name s=(Bk.ins l {b with state:=s},0):=(by unfold Bk.setState;rw[E,if_neg (by simp),if_neg (by omega),Bk.DH hf.1 g (fun b=>{b with state:=s}) rfl]);have r:Bk.One {b with state:=s}:=(by have:=hf.one j;exact⟨this.name,by show 0<=s;omega,by show s<=2;omega,this.born,this.right,this.after⟩);have q:=aa (fun W (u:BH w rb n l (B+30000) K Q W)=>Be u hf {b with state:=s} r (by omega) hn);unfold qH ptr at q;rw[a];simp only at q;clear a d E c g j hf r;generalize Bk.ins l {b with state:=s}=L2 at*;generalize bs b.name=N at*;generalize bs b.pre=PB at*;generalize b.state=v1 at*;generalize b.born=v2 at*;generalize b.on=v3 at*;generalize b.after=v5 at*;rcases hs with rfl|rfl
   all_goals
    go_enter Tryz.func15,Tryz.ntmps15
    go_wp2_with fail
    refine i.o.mono ?_
    rintro e w1 ⟨rfl,H⟩
    have f:=aa (H.still ((Below.refl _ w1).alloc (ah _) (ey #[bR N,bf cu v1,bf dg v2,eX v3,bR PB,bf dg v5] 46)))
    have F:=aa (aU.new w1 #[bR N,bf cu v1,bf dg v2,eX v3,bR PB,bf dg v5] 46)
    have m:=aa (show w1.heap.size<(w1.alloc (ey #[bR N,bf cu v1,bf dg v2,eX v3,bR PB,bf dg v5] 46)).heap.size by rw[aS];omega)
    have R:=aa ((Below.refl _ w1).alloc (ah _) (ey #[bR N,bf cu v1,bf dg v2,eX v3,bR PB,bf dg v5] 46))
    have S:=aa (fun X2 (p:Below w1.heap.size w1 X2)=>H.still p)
    clear H i
    go_upto_if 15 with fail
    generalize aC w1 _=t at*
    generalize w1.heap.size=G at*
    obtain⟨x0,y,z,A,C,D,Z,I,J,L,z4,M⟩:=qF F.o
    go_wp2_with fail
    refine (q.o _ (S.o _ (R.o.trans ((show aG (fun k=>k=G) t _ from (aG.refl _ t).setCell _ _ fun _=>rfl).below (Nat.le_of_lt m.o) fun k O e=>by omega)))).mono ?_
    rintro e w3 ⟨rfl,h3⟩
    have v:=aa h3
    clear h3
    go_wp2
    go_ret
    exact⟨rfl,v.o.more (by omega)⟩
  ·have a:Bk.setState l b.name s=(l,30):=(by unfold Bk.setState;rw[E,if_neg (by simp),if_pos (by omega)]);rw[a];have H:(s !=1)=true:=(by rw[bne_iff_ne];omega);have P:(s !=2)=true:=(by rw[bne_iff_ne];omega);clear a d E c g j hf hs;generalize bs b.name=N at*;generalize bs b.pre=PB at*;generalize b.state=v1 at*;generalize b.born=v2 at*;generalize b.on=v3 at*;generalize b.after=v5 at*;go_enter Tryz.func15,Tryz.ntmps15;go_wp2_with fail;refine i.o.mono ?_;rintro e w1 ⟨rfl,H⟩;have f:=aa (H.still ((Below.refl _ w1).alloc (ah _) (ey #[bR N,bf cu v1,bf dg v2,eX v3,bR PB,bf dg v5] 46)));have F:=aa (aU.new w1 #[bR N,bf cu v1,bf dg v2,eX v3,bR PB,bf dg v5] 46);have m:=aa (show w1.heap.size<(w1.alloc (ey #[bR N,bf cu v1,bf dg v2,eX v3,bR PB,bf dg v5] 46)).heap.size by rw[aS];omega);have R:=aa ((Below.refl _ w1).alloc (ah _) (ey #[bR N,bf cu v1,bf dg v2,eX v3,bR PB,bf dg v5] 46));have S:=aa (fun X2 (p:Below w1.heap.size w1 X2)=>H.still p);clear H i;clear F m S R;go_wp2;go_ret;exact⟨rfl,f.o.more (by omega)⟩
theorem F8 (h:BH w rb n l B K Q X) (hf:Bk.Fit l) (nm:List UInt8) (on:Bool) (pre:List UInt8) (after:Nat) (ha:after<2^64) (hB:B<=50000000) (hn:2*l.length+38<=n):
  Calls Tryz.prog 17 #[ptr rb,bR (bs nm),kE on pre after] X fun e X'=>e=eb (bf cu ((Bk.cU l nm on pre after).2:Nat))/\BH w rb n (Bk.cU l nm on pre after).1 (B+60000) K Q X':=by
 obtain⟨V,y,Z,m,u⟩:=h.boxed #[eX on,bR (bs pre),bf dg after] 38;have z:=aa (show ∀Y,y Y->aU Y X.heap.size 38 [eX on,bR (bs pre),bf dg after] from u);have J:=aa (fun l' B' Y (A:RH w rb 4 n l' B' V y Y)=>m l' B' Y Y A (aG.refl _ _));have i:=aa (nD Z hf nm);have T:=aa (fun W=>xk on pre after W);unfold ptr at i |-;unfold qH at i;unfold kE at T |-;clear h Z u m;rcases Bk.jZ l nm with⟨s,E,f⟩|⟨s,x,E,f⟩|⟨b,s,x,E,f⟩
 ·have a:Bk.cU l nm on pre after=(l,28):=by unfold Bk.cU;rw[E];rfl
  rw[a];rw[E,f] at i;clear s E f a T;generalize bs nm=N at*;generalize bs pre=P at*;go_enter Tryz.func17,Tryz.ntmps17;go_wp2_with fail;refine i.o.mono ?_;rintro e w1 ⟨rfl,H⟩;have d:=aa (J.o _ _ _ (H.still ((Below.refl _ w1).alloc (ah _) (ey #[bR ⟨#[]⟩,bf cu 0,bf dg 0,eX false,bR ⟨#[]⟩,bf dg 0] 46))));clear H i;go_wp2;go_ret;exact⟨rfl,d.o.more (by omega)⟩
 ·have a:Bk.cU l nm on pre after=(l,20):=by unfold Bk.cU;rw[E];rfl
  rw[a];rw[E,f] at i;clear s E f a T;generalize bs nm=N at*;generalize bs pre=P at*;go_enter Tryz.func17,Tryz.ntmps17;go_wp2_with fail;refine i.o.mono ?_;rintro e w1 ⟨rfl,H⟩;have d:=aa (J.o _ _ _ (H.still ((Below.refl _ w1).alloc (ah _) (ey #[bR ⟨#[]⟩,bf cu 0,bf dg 0,eX false,bR ⟨#[]⟩,bf dg 0] 46))));clear H i;go_wp2;go_ret;exact⟨rfl,d.o.more (by omega)⟩
 ·rw[E,f] at i;obtain⟨C,rfl⟩:=Bk.mL x;cases r:Bk.wrong on pre after with
  |false=>
   have a:Bk.cU l b.name on pre after=(Bk.ins l {b with on:=on,pre:=pre,after:=after},0):=(by unfold Bk.cU;rw[E,if_neg (by simp),r,if_neg (by decide),Bk.DH hf.1 x (fun b=>{b with on:=on,pre:=pre,after:=after}) rfl]);have ho:Bk.One {b with on:=on,pre:=pre,after:=after}:=(by have:=hf.one C;exact⟨this.name,this.low,this.high,this.born,r,ha⟩);have I:=aa (fun W (hW:BH w rb n l (B+30000) V y W)=>Be hW hf {b with on:=on,pre:=pre,after:=after} ho (by omega) hn);unfold qH ptr at I;rw[a];rw[r] at T;simp only at I;clear a s E f x C hf ho r;generalize Bk.ins l {b with on:=on,pre:=pre,after:=after}=L2 at*;generalize bs b.name=N at*;generalize bs b.pre=PB at*;generalize bs pre=P at*;generalize b.state=v1 at*;generalize b.born=v2 at*;generalize b.on=v3 at*;generalize b.after=v5 at*;go_enter Tryz.func17,Tryz.ntmps17;go_wp2_with fail;generalize aC X _=X0 at*;generalize X.heap.size=bb at*;refine i.o.mono ?_;rintro e w1 ⟨rfl,H⟩;have d:=aa (H.still ((Below.refl _ w1).alloc (ah _) (ey #[bR N,bf cu v1,bf dg v2,eX v3,bR PB,bf dg v5] 46)));have F:=aa (aU.new w1 #[bR N,bf cu v1,bf dg v2,eX v3,bR PB,bf dg v5] 46);have t:=aa (show w1.heap.size<(w1.alloc (ey #[bR N,bf cu v1,bf dg v2,eX v3,bR PB,bf dg v5] 46)).heap.size by rw[aS];omega);have R:=aa ((Below.refl _ w1).alloc (ah _) (ey #[bR N,bf cu v1,bf dg v2,eX v3,bR PB,bf dg v5] 46));have S:=aa (fun X2 (L:Below w1.heap.size w1 X2)=>H.still L);clear H i;go_upto_if 15 with fail;generalize aC w1 _=w2 at*;generalize w1.heap.size=G at*;have g:=z.o _ d.o.q;have M:=g.cell (j:=0) rfl;have r1:=g.cell (j:=1) rfl;have r2:=g.cell (j:=2) rfl;clear g;go_wp2_with fail;refine (T.o _).mono ?_;rintro e w3 ⟨rfl,p⟩;have O:=aa (d.o.still p);have q7:=aa (F.o.below p t.o);have U:=aa (R.o.trans (p.mono (Nat.le_of_lt t.o)));have QB:=aa (dD t.o p.size);obtain⟨x0,x1,x2,x3,x4,x5,z0,z1,z2,z3,z4,z5⟩:=qF q7.o;have D:=z.o _ O.o.q;clear M r1 r2;have M:=D.cell (j:=0) rfl;have r1:=D.cell (j:=1) rfl;have r2:=D.cell (j:=2) rfl;clear p D F t R;go_wp2_with fail;have u:aG (fun k=>k=G) w3 (((w3.setCell ⟨G,3,av⟩ (eX on)).setCell ⟨G,4,av⟩ (bR P)).setCell ⟨G,5,av⟩ (bf dg after)):=(by have c:∀(Y:World) (j:Nat) (v:Value),aG (fun k=>k=G) w3 Y->aG (fun k=>k=G) w3 (Y.setCell ⟨G,j,av⟩ v):=fun Y j v A=>A.setCell _ _ fun _=>rfl;exact c _ _ _ (c _ _ _ (c _ _ _ (aG.refl _ w3))));refine (I.o _ (S.o _ (U.o.trans (u.below (Nat.le_of_lt QB.o) fun k hk e=>by omega)))).mono ?_;rintro e w4 ⟨rfl,h4⟩;have H4:=aa h4;clear h4 u;go_wp2;go_ret;exact⟨rfl,(J.o _ _ _ H4.o).more (by omega)⟩
  |true=>
   have a:Bk.cU l b.name on pre after=(l,30):=(by unfold Bk.cU;rw[E,if_neg (by simp),r,if_pos rfl]);rw[a];rw[r] at T;clear a s E f x C hf r;generalize bs b.name=N at*;generalize bs b.pre=PB at*;generalize bs pre=P at*;generalize b.state=v1 at*;generalize b.born=v2 at*;generalize b.on=v3 at*;generalize b.after=v5 at*;go_enter Tryz.func17,Tryz.ntmps17;go_wp2_with fail;generalize aC X _=X0 at*;generalize X.heap.size=bb at*;refine i.o.mono ?_;rintro e w1 ⟨rfl,H⟩;have d:=aa (H.still ((Below.refl _ w1).alloc (ah _) (ey #[bR N,bf cu v1,bf dg v2,eX v3,bR PB,bf dg v5] 46)));have F:=aa (aU.new w1 #[bR N,bf cu v1,bf dg v2,eX v3,bR PB,bf dg v5] 46);have t:=aa (show w1.heap.size<(w1.alloc (ey #[bR N,bf cu v1,bf dg v2,eX v3,bR PB,bf dg v5] 46)).heap.size by rw[aS];omega);have R:=aa ((Below.refl _ w1).alloc (ah _) (ey #[bR N,bf cu v1,bf dg v2,eX v3,bR PB,bf dg v5] 46));have S:=aa (fun X2 (L:Below w1.heap.size w1 X2)=>H.still L);clear H i;clear F t S R;go_upto_if 15 with fail;generalize aC w1 _=w2 at*;generalize w1.heap.size=G at*;have g:=z.o _ d.o.q;have M:=g.cell (j:=0) rfl;have r1:=g.cell (j:=1) rfl;have r2:=g.cell (j:=2) rfl;clear g;go_wp2_with fail;refine (T.o _).mono ?_;rintro e w3 ⟨rfl,p⟩;have O:=aa (J.o _ _ _ (d.o.still p));clear p d;go_wp2;go_ret;exact⟨rfl,O.o.more (by omega)⟩
end
end
end Go.Proofs.YtlpfhjbpknbndaaGreatDoor
