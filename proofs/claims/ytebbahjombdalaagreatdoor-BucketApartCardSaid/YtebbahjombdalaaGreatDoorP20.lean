/- Elder texts, cut down and merged (20). -/
import Derived.Test.YtebbahjombdalaaGreatDoorP19
import Derived.Test.YtebbahjombdalaaGreatDoorP18
import Derived.Deep.CutBlock
import Derived.Deep.DeepCutAuto
import Derived.Test.YtebbahjombdalaaGreatDoorPTk
set_option maxRecDepth 100000
set_option maxHeartbeats 8000000
namespace Go.Proofs.YtebbahjombdalaaGreatDoor
open World renaming size_alloc→bk,alloc→dO
open Nat renaming le_refl→af,zero_add→bV,le_trans→aG,zero_le→aC,add_zero→dN,lt_of_lt_of_le→cW
open List renaming length_drop→aT,length_cons→aW,replicate→bg,getElem?_toArray→bM,getElem?_cons_zero→bN,getElem?_cons_succ→bU,setIfInBounds_toArray→az,set_cons_succ→ay,set_cons_zero→au,length_map→aM,append_nil→bh,mem_cons_self→aA,mem_cons_of_mem→aF,length_append→aq,length_singleton→eH,append_assoc→aB,nil_append→dF,mem_singleton→cH,take_succ_eq_append_getElem→cI,take_of_length_le→bZ,length_take→aN,length_replicate→dM,map_append→bI,getElem_mem→bB,getElem?_eq_getElem→aJ
open UInt8 renaming lt_iff_toNat_lt→rZ
open _root_.Array renaming length_toList→aZ
open Int renaming toNat_natCast→cX
section
open Go.RowKit Lib
theorem nC {n:List UInt8} (h:Nm.bucket n=true):Nm.Ot n=Bk.key n:=by
 unfold Nm.Ot
 rw[if_pos h,Bk.Lp h]
structure L4 (w:World) (KK RV:ByteArray) (X:World):Prop where
 below:Below w.heap.size w X
 pair:aS X w.heap.size 89 [.string KK,.string RV]
 res:aS X (w.heap.size+1) 46 [.string ⟨#[]⟩,.int .i64 0,.int .u64 0,.bool false,.string ⟨#[]⟩,.int .u64 0]
theorem L4.later {w X X':World} {KK RV:ByteArray} (h:L4 w KK RV X) (hb:Below X.heap.size X X'):L4 w KK RV X':=
 ⟨h.below.trans (hb.mono h.below.size),h.pair.below hb h.pair.lt,h.res.below hb h.res.lt⟩
theorem L4.but {w X X':World} {KK RV:ByteArray} {gb:Nat} (h:L4 w KK RV X) (hb:aE (fun k=>k=gb) X X') (hg:w.heap.size+1<gb∧True):L4 w KK RV X':=
 ⟨h.below.trans (hb.below h.below.size fun k hk e=>by omega),h.pair.but hb (by omega),h.res.but hb (by omega)⟩
theorem v_ {w X:World} {KK RV:ByteArray} {gb:Nat} {v0 v1 v2 v3 v4 v5:Value} (h:L4 w KK RV X) (hb:aS X gb 46 [v0,v1,v2,v3,v4,v5]):
  X.cell? ⟨gb,0,none⟩=some v0∧X.cell? ⟨gb,1,none⟩=some v1∧X.cell? ⟨gb,2,none⟩=some v2∧X.cell? ⟨gb,3,none⟩=some v3∧X.cell? ⟨gb,4,none⟩=some v4∧X.cell? ⟨gb,5,none⟩=some v5∧X.cell? ⟨w.heap.size,1,none⟩=some (.string RV):=
 ⟨hb.cell rfl,hb.cell rfl,hb.cell rfl,hb.cell rfl,hb.cell rfl,hb.cell rfl,h.pair.cell rfl⟩
theorem L4.begin (w:World) (KK RV:ByteArray):L4 w KK RV ((w.alloc (.cells #[.string KK,.string RV] 89)).alloc (.cells #[.string ⟨#[]⟩,.int .i64 0,.int .u64 0,.bool false,.string ⟨#[]⟩,.int .u64 0] 46)):=by
 have hs:(w.alloc (.cells #[.string KK,.string RV] 89)).heap.size=w.heap.size+1:=bk _ _
 refine⟨((Below.refl _ w).alloc (af _) _).alloc (by rw[hs];omega) _,(aS.new w _ _).alloc _, ?_⟩
 have:=aS.new (w.alloc (.cells #[.string KK,.string RV] 89)) #[.string ⟨#[]⟩,.int .i64 0,.int .u64 0,.bool false,.string ⟨#[]⟩,.int .u64 0] 46
 rw[hs] at this
 exact this
theorem qR (b:Bk.B) (h:Bk.One b) (w:World):Calls Tryz.prog 33 #[.agg #[.string (bs (Bk.key b.name)),.string (bs (Bk.fV b))]] w fun e w'=>e=.returned (.tuple #[qV b,.bool true])∧Below w.heap.size w w':=by
 have HPC:=aa (show ∀W,Calls Tryz.prog 54 #[.string (bs ((Bk.key b.name).drop 1))] W fun e w'=>e=.returned (.tuple #[.string (bs b.name),.string ⟨#[]⟩,.bool true])∧Below W.heap.size W w' from fun W=>by
  have:=LA (bs ((Bk.key b.name).drop 1)) W (by rw[aK,aT];have:=Bk.Fp h.name;omega)
  rw[bO,Bk.Ol h] at this
  exact this)
 have WC:=aa (show ∀W,Calls Tryz.prog 55 #[.string ⟨#[98,110,98,110,116,114]⟩,.string (bs (Bk.fV b))] W fun e w'=>(∃v',e=.returned (.tuple #[v',.bool true])∧Own gw 134 W.heap.size w' v' (Bk.jY b))∧Below W.heap.size W w' from fun W=>by
  have:=Eg ⟨#[98,110,98,110,116,114]⟩ (Bk.fV b) W (by decide) (by rw[Bk.B2 h];decide)
  rw[show (⟨#[98,110,98,110,116,114]⟩:ByteArray).data.toList=Bk.kinds from rfl,Bk.Ia h] at this
  exact this)
 have Cn:=aa (show ∀W,Calls Tryz.prog 30 #[.string (bs b.name)] W fun e w'=>e=.returned (.string (bs (Bk.key b.name)))∧Below W.heap.size W w' from fun W=>by
  have:=gA (bs b.name) W
  rw[bO,nC h.name] at this
  exact this)
 have LD:=aa (show ∀W,Calls Tryz.prog 37 #[qV b] W fun e w'=>e=.returned (.bool true)∧Below W.heap.size W w' from fun W=>by
  have:=qN b W
  rw[decide_eq_true h.low,decide_eq_true h.high,h.right] at this
  exact this)
 have RS:=aa (fun W=>yl b h W)
 have HEX:=aa (show (bs (Bk.key b.name)).extract 1 (bs (Bk.key b.name)).size=bs ((Bk.key b.name).drop 1) by
  apply ByteArray.ext
  apply Array.ext'
  rw[kP,bO,bO])
 have hK1:(1:Int)≤(bs (Bk.key b.name)).size:=by rw[aK];unfold Bk.key;rw[aW];omega
 have hex:=HEX.o
 unfold qV at LD RS ⊢
 obtain⟨sn,zW⟩:∃sn:Nat,b.state=sn:=⟨b.state.toNat,by have:=h.low;omega⟩
 have kN:(sn:Int)≤2:=by have:=h.high;omega
 have wo:=aa (show (gw.cells (Bk.jY b))=[.int .u64 sn,.string ⟨#[]⟩,.int .u64 b.born,.string ⟨#[]⟩,.int .u64 (Bk.mM b.on),.string ⟨#[]⟩,.int .u64 b.after,.string ⟨#[]⟩,.int .u64 0,.string (bs b.pre),.int .u64 0,.string (bs (bg (20-b.pre.length) 0))] by
  unfold Bk.jY
  rw[zW]
  rfl)
 have qu:=aa (show (Bk.jY b).length=6 from rfl)
 have hon:decide (0<Bk.mM b.on)=b.on:=by cases b.on<;>rfl
 have hwr:IntKind.i64.wrap (sn:Int)=(sn:Int):=by rw[IntKind.wrap_i64];omega
 rw[zW] at LD RS ⊢
 generalize bs (Bk.fV b)=RV at*
 generalize bs ((Bk.key b.name).drop 1)=KD at*
 generalize bs (Bk.key b.name)=KK at*
 generalize bs b.name=NB at*
 generalize bs b.pre=PB at*
 generalize Bk.jY b=FL at*
 generalize Bk.mM b.on=ON at*
 generalize b.on=on at*
 generalize b.born=born at*
 generalize b.after=after at*
 generalize bs (bg (20-b.pre.length) 0)=Z at*
 clear h zW
 go_enter Tryz.func33,Tryz.ntmps33
 go_wp2_with fail
 refine (HPC.o _).mono ?_
 rintro e w1 ⟨rfl,bF⟩
 have Gb:=aa ((L4.begin w KK RV).later bF)
 have x1:=Gb.o.pair.cell (j:=1) rfl
 clear bF
 go_wp2_with fail
 refine (WC.o _).mono ?_
 rintro e w2 ⟨⟨v',rfl,fD⟩,aP⟩
 have Y8:=aa (Gb.o.later aP)
 obtain⟨g,cap,rfl,rI,fK,hcap⟩:=Own.form fD (by rw[qu.o];decide)
 rw[qu.o] at fD hcap ⊢
 have VQ:=aa fD
 have HG:=aa (And.intro rI fK)
 clear aP fD rI fK x1 Gb
 go_wp2_with fail
 go_wp2_with (refine wp_region_held_drew (S:=(fun X=>X.cell? ⟨w.heap.size,0,none⟩=some (.string KK))) (by kernel_rfl) ?_ (fun aD=> ?_);focus skip;rotate_left;refine Hid.o ?_)
 refine aa ?_
 ·exact Y8.o.pair.cell (j:=0) rfl
 refine wpAnyH_take (i:=0) (v:= ?_) (by simp only[bM,bN];exact rfl) (by kernel_rfl) (by kernel_rfl) (by kernel_rfl) (by exact fun _ _ _ h=>h) (Or.inl ⟨by rfl, ?_⟩) aD ?_
 rotate_left
 ·intro w dQ;obtain s0:=dQ;go_simp;try with_reducible rfl
 refine wpAnyH_take (i:=1) (v:= ?_) (by simp only[bM,bU,bN];exact rfl) (by kernel_rfl) (by kernel_rfl) (by kernel_rfl) (by exact fun _ _ _ h=>h) (Or.inl ⟨by rfl, ?_⟩) aD ?_
 rotate_left
 ·intro w dQ;obtain s0:=dQ;go_simp;try with_reducible rfl
 refine wpAnyH_take (i:=2) (v:= ?_) (by simp only[bM,bU,bN];exact rfl) (by kernel_rfl) (by kernel_rfl) (by kernel_rfl) (by exact fun _ _ _ h=>h) (Or.inl ⟨by rfl, ?_⟩) aD ?_
 rotate_left
 ·intro w dQ;obtain s0:=dQ;go_simp;try with_reducible rfl
 refine wpAnyH_take (i:=3) (v:= ?_) (by simp only[bM,bU,bN];exact rfl) (by kernel_rfl) (by kernel_rfl) (by kernel_rfl) (by exact fun _ _ _ h=>h) (Or.inl ⟨by rfl, ?_⟩) aD ?_
 rotate_left
 ·intro w dQ;obtain s0:=dQ;go_simp;try with_reducible rfl
 refine wpAnyH_take (i:=5) (v:= ?_) (by simp only[bM,bU,bN];exact rfl) (by kernel_rfl) (by kernel_rfl) (by kernel_rfl) (by exact fun _ _ _ h=>h) (Or.inl ⟨by rfl, ?_⟩) aD ?_
 rotate_left
 ·intro w dQ;obtain s0:=dQ;go_simp;try with_reducible rfl
 refine wpAnyH_take (i:=6) (v:= ?_) (by simp only[bM,bU,bN];exact rfl) (by kernel_rfl) (by kernel_rfl) (by kernel_rfl) (by exact fun _ _ _ h=>h) (Or.inl ⟨by rfl, ?_⟩) aD ?_
 rotate_left
 ·intro w dQ;obtain s0:=dQ;go_simp;try with_reducible rfl
 try simp only[Act.put,az,ay,au]
 refine iL [4] (iM fun K hK=> ?_)
 go_simp
 refine (Cn.o _).mono ?_
 rintro e w3 ⟨rfl,bY⟩
 replace bY:Below w2.heap.size w2 w3:=(Below.refl _ w2).drew.trans bY
 have Y9:=aa (Y8.o.later bY)
 have RR:=aa (Own.below VQ.o bY (af _))
 refine hK.out _ _ ((bY.cell (p:=⟨w.heap.size,0,none⟩) Y8.o.pair.lt).trans aD) (fun aD=> ?_);clear hK K bY
 refine wpAnyH_take (i:=7) (v:= ?_) (by simp only[bM,bU,bN];exact rfl) (by kernel_rfl) (by kernel_rfl) (by kernel_rfl) (by exact fun _ _ _ h=>h) (Or.inl ⟨by rfl, ?_⟩) aD ?_
 rotate_left
 ·intro w dQ;obtain s0:=dQ;go_simp;try with_reducible rfl
 refine wpAnyH_take (i:=8) (v:= ?_) (by simp only[bM,bU,bN];exact rfl) (by kernel_rfl) (by kernel_rfl) (by kernel_rfl) (by exact fun _ _ _ h=>h) (Or.inl ⟨by rfl, ?_⟩) aD ?_
 rotate_left
 ·intro w dQ;obtain s0:=dQ;go_simp;try with_reducible rfl
 refine wpAnyH_done (by kernel_rfl) ?_ _
 try simp only[Act.put,az,ay,au]
 have zV:=Own.lies (K:=gw) RR.o
 have OA:=aa zV
 have l0:=zV 0 (.int .u64 sn) (by rw[wo.o];rfl)
 have l2:=zV 2 (.int .u64 born) (by rw[wo.o];rfl)
 have l4:=zV 4 (.int .u64 ON) (by rw[wo.o];rfl)
 have l6:=zV 6 (.int .u64 after) (by rw[wo.o];rfl)
 have l9:=zV 9 (.string PB) (by rw[wo.o];rfl)
 simp only[bV] at l0 l2 l4 l6 l9
 have Q5:=aa (show g<w3.heap.size from ((Own.block RR.o) g rfl).2)
 clear zV
 go_wp2_with fail
 go_wp2_with (refine wp_region_held_drew (S:=(fun X=>X.cell? ⟨g,0,none⟩=some (.int .u64 sn)∧X.cell? ⟨g,2,none⟩=some (.int .u64 born)∧X.cell? ⟨g,4,none⟩=some (.int .u64 ON)∧X.cell? ⟨g,6,none⟩=some (.int .u64 after)∧X.cell? ⟨g,9,none⟩=some (.string PB))) (by kernel_rfl) ?_ (fun aD=> ?_);focus skip;rotate_left;refine Hid.o ?_)
 refine aa ?_
 ·exact⟨l0,l2,l4,l6,l9⟩
 refine wpAnyH_take (i:=0) (v:= ?_) (by simp only[bM,bN];exact rfl) (by kernel_rfl) (by kernel_rfl) (by kernel_rfl) (by exact fun _ _ _ h=>h) (Or.inl ⟨by rfl, ?_⟩) aD ?_
 rotate_left
 ·intro w dQ;obtain⟨s0,s1,s2,s3,s4⟩:=dQ;go_simp;try with_reducible rfl
 refine wpAnyH_take (i:=1) (v:= ?_) (by simp only[bM,bU,bN];exact rfl) (by kernel_rfl) (by kernel_rfl) (by kernel_rfl) (by exact fun _ _ _ h=>h) (Or.inl ⟨by rfl, ?_⟩) aD ?_
 rotate_left
 ·intro w dQ;obtain⟨s0,s1,s2,s3,s4⟩:=dQ;go_simp;try with_reducible rfl
 refine wpAnyH_take (i:=2) (v:= ?_) (by simp only[bM,bU,bN];exact rfl) (by kernel_rfl) (by kernel_rfl) (by kernel_rfl) (by exact fun _ _ _ h=>h) (Or.inl ⟨by rfl, ?_⟩) aD ?_
 rotate_left
 ·intro w dQ;obtain⟨s0,s1,s2,s3,s4⟩:=dQ;go_simp;try with_reducible rfl
 refine wpAnyH_take (i:=3) (v:= ?_) (by simp only[bM,bU,bN];exact rfl) (by kernel_rfl) (by kernel_rfl) (by kernel_rfl) (by exact fun _ _ _ h=>h) (Or.inl ⟨by rfl, ?_⟩) aD ?_
 rotate_left
 ·intro w dQ;obtain⟨s0,s1,s2,s3,s4⟩:=dQ;go_simp;try with_reducible rfl
 refine wpAnyH_take (i:=4) (v:= ?_) (by simp only[bM,bU,bN];exact rfl) (by kernel_rfl) (by kernel_rfl) (by kernel_rfl) (by exact fun _ _ _ h=>h) (Or.inl ⟨by rfl, ?_⟩) aD ?_
 rotate_left
 ·intro w dQ;obtain⟨s0,s1,s2,s3,s4⟩:=dQ;go_simp;try with_reducible rfl
 refine wpAnyH_take (i:=5) (v:= ?_) (by simp only[bM,bU,bN];exact rfl) (by kernel_rfl) (by kernel_rfl) (by kernel_rfl) (by exact fun _ _ _ h=>h) (Or.inl ⟨by rfl, ?_⟩) aD ?_
 rotate_left
 ·intro w dQ;obtain⟨s0,s1,s2,s3,s4⟩:=dQ;go_simp;try with_reducible rfl
 refine wpAnyH_take (i:=6) (v:= ?_) (by simp only[bM,bU,bN];exact rfl) (by kernel_rfl) (by kernel_rfl) (by kernel_rfl) (by exact fun _ _ _ h=>h) (Or.inl ⟨by rfl, ?_⟩) aD ?_
 rotate_left
 ·intro w dQ;obtain⟨s0,s1,s2,s3,s4⟩:=dQ;go_simp;try with_reducible rfl
 refine wpAnyH_take (i:=7) (v:= ?_) (by simp only[bM,bU,bN];exact rfl) (by kernel_rfl) (by kernel_rfl) (by kernel_rfl) (by exact fun _ _ _ h=>h) (Or.inl ⟨by rfl, ?_⟩) aD ?_
 rotate_left
 ·intro w dQ;obtain⟨s0,s1,s2,s3,s4⟩:=dQ;go_simp;try with_reducible rfl
 refine wpAnyH_take (i:=8) (v:= ?_) (by simp only[bM,bU,bN];exact rfl) (by kernel_rfl) (by kernel_rfl) (by kernel_rfl) (by exact fun _ _ _ h=>h) (Or.inl ⟨by rfl, ?_⟩) aD ?_
 rotate_left
 ·intro w dQ;obtain⟨s0,s1,s2,s3,s4⟩:=dQ;go_simp;try with_reducible rfl
 refine wpAnyH_take (i:=9) (v:= ?_) (by simp only[bM,bU,bN];exact rfl) (by kernel_rfl) (by kernel_rfl) (by kernel_rfl) (by exact fun _ _ _ h=>h) (Or.inl ⟨by rfl, ?_⟩) aD ?_
 rotate_left
 ·intro w dQ;obtain⟨s0,s1,s2,s3,s4⟩:=dQ;go_simp;try with_reducible rfl
 refine wpAnyH_take (i:=10) (v:= ?_) (by simp only[bM,bU,bN];exact rfl) (by kernel_rfl) (by kernel_rfl) (by kernel_rfl) (by exact fun _ _ _ h=>h) (Or.inl ⟨by rfl, ?_⟩) aD ?_
 rotate_left
 ·intro w dQ;obtain⟨s0,s1,s2,s3,s4⟩:=dQ;go_simp;try with_reducible rfl
 refine wpAnyH_take (i:=11) (v:= ?_) (by simp only[bM,bU,bN];exact rfl) (by kernel_rfl) (by kernel_rfl) (by kernel_rfl) (by exact fun _ _ _ h=>h) (Or.inl ⟨by rfl, ?_⟩) aD ?_
 rotate_left
 ·intro w dQ;obtain⟨s0,s1,s2,s3,s4⟩:=dQ;go_simp;try with_reducible rfl
 refine wpAnyH_take (i:=12) (v:= ?_) (by simp only[bM,bU,bN];exact rfl) (by kernel_rfl) (by kernel_rfl) (by kernel_rfl) (by exact fun _ _ _ h=>h) (Or.inl ⟨by rfl, ?_⟩) aD ?_
 rotate_left
 ·intro w dQ;obtain⟨s0,s1,s2,s3,s4⟩:=dQ;go_simp;try with_reducible rfl
 refine wpAnyH_take (i:=13) (v:= ?_) (by simp only[bM,bU,bN];exact rfl) (by kernel_rfl) (by kernel_rfl) (by kernel_rfl) (by exact fun _ _ _ h=>h) (Or.inl ⟨by rfl, ?_⟩) aD ?_
 rotate_left
 ·intro w dQ;obtain⟨s0,s1,s2,s3,s4⟩:=dQ;go_simp;try with_reducible rfl
 refine wpAnyH_take (i:=14) (v:= ?_) (by simp only[bM,bU,bN];exact rfl) (by kernel_rfl) (by kernel_rfl) (by kernel_rfl) (by exact fun _ _ _ h=>h) (Or.inl ⟨by rfl, ?_⟩) aD ?_
 rotate_left
 ·intro w dQ;obtain⟨s0,s1,s2,s3,s4⟩:=dQ;go_simp;try with_reducible rfl
 refine wpAnyH_take (i:=15) (v:= ?_) (by simp only[bM,bU,bN];exact rfl) (by kernel_rfl) (by kernel_rfl) (by kernel_rfl) (by exact fun _ _ _ h=>h) (Or.inl ⟨by rfl, ?_⟩) aD ?_
 rotate_left
 ·intro w dQ;obtain⟨s0,s1,s2,s3,s4⟩:=dQ;go_simp;try with_reducible rfl
 refine wpAnyH_take (i:=16) (v:= ?_) (by simp only[bM,bU,bN];exact rfl) (by kernel_rfl) (by kernel_rfl) (by kernel_rfl) (by exact fun _ _ _ h=>h) (Or.inl ⟨by rfl, ?_⟩) aD ?_
 rotate_left
 ·intro w dQ;obtain⟨s0,s1,s2,s3,s4⟩:=dQ;go_simp;try with_reducible rfl
 refine wpAnyH_take (i:=17) (v:= ?_) (by simp only[bM,bU,bN];exact rfl) (by kernel_rfl) (by kernel_rfl) (by kernel_rfl) (by exact fun _ _ _ h=>h) (Or.inl ⟨by rfl, ?_⟩) aD ?_
 rotate_left
 ·intro w dQ;obtain⟨s0,s1,s2,s3,s4⟩:=dQ;go_simp;try with_reducible rfl
 refine wpAnyH_take (i:=18) (v:= ?_) (by simp only[bM,bU,bN];exact rfl) (by kernel_rfl) (by kernel_rfl) (by kernel_rfl) (by exact fun _ _ _ h=>h) (Or.inl ⟨by rfl, ?_⟩) aD ?_
 rotate_left
 ·intro w dQ;obtain⟨s0,s1,s2,s3,s4⟩:=dQ;go_simp;try with_reducible rfl
 refine wpAnyH_take (i:=19) (v:= ?_) (by simp only[bM,bU,bN];exact rfl) (by kernel_rfl) (by kernel_rfl) (by kernel_rfl) (by exact fun _ _ _ h=>h) (Or.inl ⟨by rfl, ?_⟩) aD ?_
 rotate_left
 ·intro w dQ;obtain⟨s0,s1,s2,s3,s4⟩:=dQ;go_simp;try with_reducible rfl
 refine wpAnyH_take (i:=20) (v:= ?_) (by simp only[bM,bU,bN];exact rfl) (by kernel_rfl) (by kernel_rfl) (by kernel_rfl) (by exact fun _ _ _ h=>h) (Or.inl ⟨by rfl, ?_⟩) aD ?_
 rotate_left
 ·intro w dQ;obtain⟨s0,s1,s2,s3,s4⟩:=dQ;go_simp;try with_reducible rfl
 refine wpAnyH_take (i:=21) (v:= ?_) (by simp only[bM,bU,bN];exact rfl) (by kernel_rfl) (by kernel_rfl) (by kernel_rfl) (by exact fun _ _ _ h=>h) (Or.inl ⟨by rfl, ?_⟩) aD ?_
 rotate_left
 ·intro w dQ;obtain⟨s0,s1,s2,s3,s4⟩:=dQ;go_simp;try with_reducible rfl
 refine wpAnyH_take (i:=22) (v:= ?_) (by simp only[bM,bU,bN];exact rfl) (by kernel_rfl) (by kernel_rfl) (by kernel_rfl) (by exact fun _ _ _ h=>h) (Or.inl ⟨by rfl, ?_⟩) aD ?_
 rotate_left
 ·intro w dQ;obtain⟨s0,s1,s2,s3,s4⟩:=dQ;go_simp;try with_reducible rfl
 refine wpAnyH_take (i:=23) (v:= ?_) (by simp only[bM,bU,bN];exact rfl) (by kernel_rfl) (by kernel_rfl) (by kernel_rfl) (by exact fun _ _ _ h=>h) (Or.inl ⟨by rfl, ?_⟩) aD ?_
 rotate_left
 ·intro w dQ;obtain⟨s0,s1,s2,s3,s4⟩:=dQ;go_simp;try with_reducible rfl
 refine wpAnyH_take (i:=24) (v:= ?_) (by simp only[bM,bU,bN];exact rfl) (by kernel_rfl) (by kernel_rfl) (by kernel_rfl) (by exact fun _ _ _ h=>h) (Or.inl ⟨by rfl, ?_⟩) aD ?_
 rotate_left
 ·intro w dQ;obtain⟨s0,s1,s2,s3,s4⟩:=dQ;go_simp;try with_reducible rfl
 try simp only[Act.put,az,ay,au]
 clear aD
 refine iL [25] (iM fun K hK=> ?_)
 go_simp
 have hbz:=((Below.refl _ w3).alloc (af _) (.cells #[.string ⟨#[]⟩,.int .i64 0,.int .u64 0,.bool false,.string ⟨#[]⟩,.int .u64 0] 46)).drew
 have hB9:=(aS.new w3 #[.string ⟨#[]⟩,.int .i64 0,.int .u64 0,.bool false,.string ⟨#[]⟩,.int .u64 0] 46).drew
 refine hK.out _ _ ⟨(hbz.cell (p:=⟨g,0,none⟩) Q5.o).trans l0,(hbz.cell (p:=⟨g,2,none⟩) Q5.o).trans l2,(hbz.cell (p:=⟨g,4,none⟩) Q5.o).trans l4,(hbz.cell (p:=⟨g,6,none⟩) Q5.o).trans l6,(hbz.cell (p:=⟨g,9,none⟩) Q5.o).trans l9⟩ (fun aD=> ?_);clear hK K
 clear aD
 have HX4:=aa (Y9.o.later hbz)
 have sU:=aa (show aS _ w3.heap.size 46 [.string ⟨#[]⟩,.int .i64 0,.int .u64 0,.bool false,.string ⟨#[]⟩,.int .u64 0] from hB9)
 have HL4:=aa (show a_ gw _ g 0 FL from a_.below OA.o hbz Q5.o)
 have Y_:=aa (show w.heap.size+1<w3.heap.size∧g<w3.heap.size from⟨Y9.o.res.lt,Q5.o⟩)
 generalize w3.heap.size=gb at*
 generalize (dO w3 _).drew=w4 at*
 clear hbz hB9 l0 l2 l4 l6 l9 Y9 RR OA
 refine iL [26] (iM fun K hK=> ?_)
 have y0:=sU.o.cell (j:=0) rfl
 have z0:=sU.o.frozen 0
 have z1:=sU.o.frozen 1
 have z2:=sU.o.frozen 2
 have z3:=sU.o.frozen 3
 have z4:=sU.o.frozen 4
 have z5:=sU.o.frozen 5
 have y1:=sU.o.cell (j:=1) rfl
 have y2:=sU.o.cell (j:=2) rfl
 have y3:=sU.o.cell (j:=3) rfl
 have y4:=sU.o.cell (j:=4) rfl
 have y5:=sU.o.cell (j:=5) rfl
 go_simp
 obtain⟨q1,q2⟩:=Lr sU.o (.string NB) (.int .i64 sn) (.int .u64 born) (.bool on) (.string PB) (.int .u64 after)
 have Za:=aa (HX4.o.but q2 ⟨Y_.o.1,trivial⟩)
 have Q6:=aa q1
 have No:=a_.but HL4.o q2 (show ¬g=gb by have:=Y_.o;omega)
 have l0:=No 0 (.int .u64 sn) (by rw[wo.o];rfl)
 have l2:=No 2 (.int .u64 born) (by rw[wo.o];rfl)
 have l4:=No 4 (.int .u64 ON) (by rw[wo.o];rfl)
 have l6:=No 6 (.int .u64 after) (by rw[wo.o];rfl)
 have l9:=No 9 (.string PB) (by rw[wo.o];rfl)
 simp only[bV] at l0 l2 l4 l6 l9
 refine hK.out _ _ ⟨l0,l2,l4,l6,l9⟩ (fun aD=> ?_);clear hK K
 clear aD l0 l2 l4 l6 l9 No y0 y1 y2 y3 y4 y5 z0 z1 z2 z3 z4 z5 HX4 sU HL4 wo q1 q2
 generalize ((((((w4.setCell _ _).setCell _ _).setCell _ _).setCell _ _).setCell _ _).setCell _ _)=w5 at*
 refine wpAnyH_done (by kernel_rfl) ?_ _
 try simp only[Act.put,az,ay,au]
 go_wp2_with fail
 go_wp2_with (refine wp_region_held_drew (S:=(fun X=>X.cell? ⟨gb,0,none⟩=some (.string NB)∧X.cell? ⟨gb,1,none⟩=some (.int .i64 sn)∧X.cell? ⟨gb,2,none⟩=some (.int .u64 born)∧X.cell? ⟨gb,3,none⟩=some (.bool on)∧X.cell? ⟨gb,4,none⟩=some (.string PB)∧X.cell? ⟨gb,5,none⟩=some (.int .u64 after)∧X.cell? ⟨w.heap.size,1,none⟩=some (.string RV))) (by kernel_rfl) ?_ (fun aD=> ?_);focus skip;rotate_left;refine Hid.o ?_)
 refine aa ?_
 ·have hh:=v_ Za.o Q6.o
  exact hh
 refine wpAnyH_take (i:=0) (v:= ?_) (by simp only[bM,bN];exact rfl) (by kernel_rfl) (by kernel_rfl) (by kernel_rfl) (by exact fun _ _ _ h=>h) (Or.inl ⟨by rfl, ?_⟩) aD ?_
 rotate_left
 ·intro w dQ;obtain⟨s0,s1,s2,s3,s4,s5,s6⟩:=dQ;go_simp;try with_reducible rfl
 refine wpAnyH_take (i:=1) (v:= ?_) (by simp only[bM,bU,bN];exact rfl) (by kernel_rfl) (by kernel_rfl) (by kernel_rfl) (by exact fun _ _ _ h=>h) (Or.inl ⟨by rfl, ?_⟩) aD ?_
 rotate_left
 ·intro w dQ;obtain⟨s0,s1,s2,s3,s4,s5,s6⟩:=dQ;go_simp;try with_reducible rfl
 try simp only[Act.put,az,ay,au]
 clear aD
 refine iL [2] (iM fun K hK=> ?_)
 go_simp
 refine (LD.o _).mono ?_
 rintro e w6 ⟨rfl,yQ⟩
 replace yQ:Below w5.heap.size w5 w6:=(Below.refl _ w5).drew.trans yQ
 have Zb:=aa (Za.o.later yQ)
 have z6:=aa (Q6.o.below yQ Q6.o.lt)
 refine hK.out _ _ (v_ Zb.o z6.o) (fun aD=> ?_);clear hK K yQ Za Q6
 refine wpAnyH_take (i:=3) (v:= ?_) (by simp only[bM,bU,bN];exact rfl) (by kernel_rfl) (by kernel_rfl) (by kernel_rfl) (by exact fun _ _ _ h=>h) (Or.inl ⟨by rfl, ?_⟩) aD ?_
 rotate_left
 ·intro w dQ;obtain⟨s0,s1,s2,s3,s4,s5,s6⟩:=dQ;go_simp;try with_reducible rfl
 refine wpAnyH_take (i:=4) (v:= ?_) (by simp only[bM,bU,bN];exact rfl) (by kernel_rfl) (by kernel_rfl) (by kernel_rfl) (by exact fun _ _ _ h=>h) (Or.inl ⟨by rfl, ?_⟩) aD ?_
 rotate_left
 ·intro w dQ;obtain⟨s0,s1,s2,s3,s4,s5,s6⟩:=dQ;go_simp;try with_reducible rfl
 refine wpAnyH_take (i:=6) (v:= ?_) (by simp only[bM,bU,bN];exact rfl) (by kernel_rfl) (by kernel_rfl) (by kernel_rfl) (by exact fun _ _ _ h=>h) (Or.inl ⟨by rfl, ?_⟩) aD ?_
 rotate_left
 ·intro w dQ;obtain⟨s0,s1,s2,s3,s4,s5,s6⟩:=dQ;go_simp;try with_reducible rfl
 refine wpAnyH_take (i:=7) (v:= ?_) (by simp only[bM,bU,bN];exact rfl) (by kernel_rfl) (by kernel_rfl) (by kernel_rfl) (by exact fun _ _ _ h=>h) (Or.inl ⟨by rfl, ?_⟩) aD ?_
 rotate_left
 ·intro w dQ;obtain⟨s0,s1,s2,s3,s4,s5,s6⟩:=dQ;go_simp;try with_reducible rfl
 try simp only[Act.put,az,ay,au]
 clear aD
 refine iL [5] (iM fun K hK=> ?_)
 go_simp
 refine (RS.o _).mono ?_
 rintro e w7 ⟨rfl,iN⟩
 have z_:=aa (Zb.o.later iN)
 have Zc:=aa (z6.o.below iN z6.o.lt)
 refine hK.out _ _ (v_ z_.o Zc.o) (fun aD=> ?_);clear hK K iN Zb z6
 refine wpAnyH_take (i:=8) (v:= ?_) (by simp only[bM,bU,bN];exact rfl) (by kernel_rfl) (by kernel_rfl) (by kernel_rfl) (by exact fun _ _ _ h=>h) (Or.inl ⟨by rfl, ?_⟩) aD ?_
 rotate_left
 ·intro w dQ;obtain⟨s0,s1,s2,s3,s4,s5,s6⟩:=dQ;go_simp;try with_reducible rfl
 refine wpAnyH_take (i:=9) (v:= ?_) (by simp only[bM,bU,bN];exact rfl) (by kernel_rfl) (by kernel_rfl) (by kernel_rfl) (by exact fun _ _ _ h=>h) (Or.inl ⟨by rfl, ?_⟩) aD ?_
 rotate_left
 ·intro w dQ;obtain⟨s0,s1,s2,s3,s4,s5,s6⟩:=dQ;go_simp;try with_reducible rfl
 try simp only[Act.put,az,ay,au]
 clear aD
 refine iL [10] (iM fun K hK=> ?_)
 have y0:=z_.o.res.cell (j:=0) rfl
 have z0:=z_.o.res.frozen 0
 have z1:=z_.o.res.frozen 1
 have z2:=z_.o.res.frozen 2
 have z3:=z_.o.res.frozen 3
 have z4:=z_.o.res.frozen 4
 have z5:=z_.o.res.frozen 5
 have y1:=z_.o.res.cell (j:=1) rfl
 have y2:=z_.o.res.cell (j:=2) rfl
 have y3:=z_.o.res.cell (j:=3) rfl
 have y4:=z_.o.res.cell (j:=4) rfl
 have y5:=z_.o.res.cell (j:=5) rfl
 go_simp
 obtain⟨q1,q2⟩:=Lr z_.o.res (.string NB) (.int .i64 sn) (.int .u64 born) (.bool on) (.string PB) (.int .u64 after)
 have HE8:=aa (show Below w.heap.size w _ from z_.o.below.trans (q2.below z_.o.below.size fun k hk e=>by omega))
 have HQ8:=aa q1
 refine hK.out _ _ ?_ (fun aD=> ?_)
 ·have hp:=(z_.o.pair.but q2 (by omega)).cell (j:=1) rfl
  have hg:=Zc.o.but q2 (show ¬gb=w.heap.size+1 by have:=Y_.o;omega)
  exact⟨hg.cell rfl,hg.cell rfl,hg.cell rfl,hg.cell rfl,hg.cell rfl,hg.cell rfl,hp⟩
 have HS8:=aa aD
 clear hK K aD y0 y1 y2 y3 y4 y5 z0 z1 z2 z3 z4 z5 z_ Zc q1 q2
 generalize ((((((w7.setCell _ _).setCell _ _).setCell _ _).setCell _ _).setCell _ _).setCell _ _)=w8 at*
 have aD:w8.cell? ⟨gb,0,none⟩=some (.string NB)∧w8.cell? ⟨gb,1,none⟩=some (.int .i64 sn)∧w8.cell? ⟨gb,2,none⟩=some (.int .u64 born)∧w8.cell? ⟨gb,3,none⟩=some (.bool on)∧w8.cell? ⟨gb,4,none⟩=some (.string PB)∧w8.cell? ⟨gb,5,none⟩=some (.int .u64 after)∧w8.cell? ⟨w.heap.size,1,none⟩=some (.string RV):=HS8.o
 refine wpAnyH_take (i:=11) (v:= ?_) (by simp only[bM,bU,bN];exact rfl) (by kernel_rfl) (by kernel_rfl) (by kernel_rfl) (by exact fun _ _ _ h=>h) (Or.inl ⟨by rfl, ?_⟩) aD ?_
 rotate_left
 ·intro w dQ;obtain⟨s0,s1,s2,s3,s4,s5,s6⟩:=dQ;go_simp;try with_reducible rfl
 refine wpAnyH_done (by kernel_rfl) ?_ _
 try simp only[Act.put,az,ay,au]
 go_wp2_with fail
 try simp only[Exit.inBlock,Exit.then]
 refine bodyPost_ret (zL rfl _ rfl HQ8.o) rfl ?_
 exact⟨rfl,HE8.o⟩
abbrev BH (w:World) (rb n:Nat) (l:List Bk.B) (B:Nat) (K:Nat→Prop) (Q:World→Prop) (X:World):Prop:=RH w rb 4 n (Bk.pI Bk.fV l) B K Q X
theorem six {w:World} {g:Nat} {t:TypeId} {v0 v1 v2 v3 v4 v5:Value} (h:aS w g t [v0,v1,v2,v3,v4,v5]):
  w.cell? ⟨g,0,none⟩=some v0∧w.cell? ⟨g,1,none⟩=some v1∧w.cell? ⟨g,2,none⟩=some v2∧w.cell? ⟨g,3,none⟩=some v3∧w.cell? ⟨g,4,none⟩=some v4∧w.cell? ⟨g,5,none⟩=some v5:=
 ⟨h.cell rfl,h.cell rfl,h.cell rfl,h.cell rfl,h.cell rfl,h.cell rfl⟩
section
variable {w X:World} {rb n B:Nat} {l:List Bk.B} {K:Nat→Prop} {Q:World→Prop}
theorem qS (X:World) (rb:Nat):Calls Tryz.prog 31 #[ptr rb] X fun e X'=>e=.returned (ptr X.heap.size)∧X'=X.alloc (.cells #[ptr rb,.int .i64 4] 157):=by
 have HT:=aa (fun W=>D4 W rb 4)
 unfold ptr at HT ⊢
 go_enter Tryz.func31,Tryz.ntmps31
 go_wp2_with fail
 refine (HT.o _).mono ?_
 rintro e w1 ⟨rfl,rfl⟩
 go_wp2
 go_ret
 exact⟨rfl,rfl⟩
theorem sQ (h:BH w rb n l B K Q X) (nm:ByteArray):Calls Tryz.prog 29 #[ptr rb,.string nm] X fun e X'=>e=.returned (.int .i64 (if Nm.bucket nm.data.toList=true then 0 else 28))∧BH w rb n l B K Q X':=by
 have HR:=aa (Of h (k:=4) (by decide))
 have HB:=aa (fun W=>vZ nm W)
 clear h
 unfold ptr at HR ⊢
 cases hb:Nm.bucket nm.data.toList with
 |false=>
  rw[hb] at HB
  rw[if_neg (by decide)]
  clear hb
  go_enter Tryz.func29,Tryz.ntmps29
  go_wp2_with fail
  refine HR.o.mono ?_
  rintro e w1 ⟨m,rfl,h1⟩
  have H1:=aa h1
  clear h1 HR
  go_wp2_with fail
  refine (HB.o _).mono ?_
  rintro e w2 ⟨rfl,rfl⟩
  go_wp2
  go_ret
  exact⟨rfl,H1.o⟩
 |true=>
  rw[hb] at HB
  rw[if_pos rfl]
  clear hb
  go_enter Tryz.func29,Tryz.ntmps29
  go_wp2_with fail
  refine HR.o.mono ?_
  rintro e w1 ⟨m,rfl,h1⟩
  have H1:=aa h1
  clear h1 HR
  go_wp2_with fail
  refine (HB.o _).mono ?_
  rintro e w2 ⟨rfl,rfl⟩
  go_wp2
  go_ret
  exact⟨rfl,H1.o⟩
theorem zQ (h:BH w rb n l B K Q X) (hf:Bk.Fit l) (b:Bk.B) (hb:Bk.One b) (hB:B≤60000000) (hn:2*l.length+38≤n):
  Calls Tryz.prog 27 #[ptr rb,qV b] X fun e X'=>e=.returned (.int .i64 0)∧BH w rb n (Bk.ins l b) (B+30000) K Q X':=by
 have HM:=aa (fun W=>qS W rb)
 have Cn:=aa (show ∀W,Calls Tryz.prog 30 #[.string (bs b.name)] W fun e w'=>e=.returned (.string (bs (Bk.key b.name)))∧Below W.heap.size W w' from fun W=>by
  have:=gA (bs b.name) W
  rw[bO,nC hb.name] at this
  exact this)
 have RS:=aa (fun W=>yl b hb W)
 obtain⟨K1,Q1,h0,hout,hq⟩:=h.boxed #[.string (bs b.name),.int .i64 b.state,.int .u64 b.born,.bool b.on,.string (bs b.pre),.int .u64 b.after] 46
 have pM:=aa (show ∀(tb:Nat) (W:World),RT w rb tb 4 n (Bk.pI Bk.fV l) B K1 Q1 W→Calls Tryz.prog 45 #[ptr tb,.string (bs (Bk.key b.name)),.string (bs (Bk.fV b))] W fun e X'=>e=.returned (.int .i64 0)∧BH w rb n (Bk.ins l b) (B+30000) K1 Q1 X' from fun tb W ht=>by
  have:=QW (key:=Bk.key b.name) (vl:=Bk.fV b) ht (by have:=Bk.Fp hb.name;omega) (by rw[Bk.B2 hb];decide) hB (by rw[show (Bk.pI Bk.fV l).length=l.length from aM _];exact hn)
  rw[Bk.Oh hf.1 b (Nm.eV hb.name)] at this
  exact this)
 have hlt:=h.lts.2.2
 have Ft:=aa (h0.still ((Below.refl _ _).drew))
 have GZ:=aa (hq _ Ft.o.q)
 have HQ:=aa hq
 have oz:=aa hout
 clear h h0 hq hout hf hn hB hb hlt
 unfold qV at RS ⊢
 unfold ptr at HM pM ⊢
 simp only at GZ HQ
 generalize bs b.name=v0 at*
 generalize bs b.pre=v4 at*
 generalize b.state=v1 at*
 generalize b.born=v2 at*
 generalize b.on=v3 at*
 generalize b.after=v5 at*
 generalize Bk.ins l b=L2 at*
 go_enter Tryz.func27,Tryz.ntmps27
 go_wp2_with (refine wp_region_held_drew (S:=(fun Y=>Y.cell? ⟨X.heap.size,0,none⟩=some (.string v0)∧Y.cell? ⟨X.heap.size,1,none⟩=some (.int .i64 v1)∧Y.cell? ⟨X.heap.size,2,none⟩=some (.int .u64 v2)∧Y.cell? ⟨X.heap.size,3,none⟩=some (.bool v3)∧Y.cell? ⟨X.heap.size,4,none⟩=some (.string v4)∧Y.cell? ⟨X.heap.size,5,none⟩=some (.int .u64 v5))) (by kernel_rfl) ?_ (fun aD=> ?_);focus skip;rotate_left;refine Hid.o ?_)
 refine aa ?_
 ·exact six GZ.o
 generalize (dO X _).drew=Y at*
 generalize X.heap.size=bb at*
 refine wpAnyH_take (i:=0) (v:= ?_) (by simp only[bM,bN];exact rfl) (by kernel_rfl) (by kernel_rfl) (by kernel_rfl) (by exact fun _ _ _ h=>h) (Or.inl ⟨by rfl, ?_⟩) aD ?_
 rotate_left
 ·intro w dQ;obtain⟨s0,s1,s2,s3,s4,s5⟩:=dQ;go_simp;try with_reducible rfl
 refine wpAnyH_take (i:=2) (v:= ?_) (by simp only[bM,bU,bN];exact rfl) (by kernel_rfl) (by kernel_rfl) (by kernel_rfl) (by exact fun _ _ _ h=>h) (Or.inl ⟨by rfl, ?_⟩) aD ?_
 rotate_left
 ·intro w dQ;obtain⟨s0,s1,s2,s3,s4,s5⟩:=dQ;go_simp;try with_reducible rfl
 refine wpAnyH_take (i:=3) (v:= ?_) (by simp only[bM,bU,bN];exact rfl) (by kernel_rfl) (by kernel_rfl) (by kernel_rfl) (by exact fun _ _ _ h=>h) (Or.inl ⟨by rfl, ?_⟩) aD ?_
 rotate_left
 ·intro w dQ;obtain⟨s0,s1,s2,s3,s4,s5⟩:=dQ;go_simp;try with_reducible rfl
 refine wpAnyH_take (i:=5) (v:= ?_) (by simp only[bM,bU,bN];exact rfl) (by kernel_rfl) (by kernel_rfl) (by kernel_rfl) (by exact fun _ _ _ h=>h) (Or.inl ⟨by rfl, ?_⟩) aD ?_
 rotate_left
 ·intro w dQ;obtain⟨s0,s1,s2,s3,s4,s5⟩:=dQ;go_simp;try with_reducible rfl
 try simp only[Act.put,az,ay,au]
 clear aD
 refine iL [1] (iM fun K hK=> ?_)
 go_simp
 refine (HM.o _).mono ?_
 rintro e w1 ⟨rfl,hw1⟩
 have TN:=aa (show RT w rb Y.heap.size 4 n _ B K1 Q1 (Y.alloc (.cells #[.pointer (some ⟨rb,0,none⟩),.int .i64 4] 157)) from Ft.o.tree)
 have oZ:=(Below.refl _ Y).alloc (af _) (.cells #[.pointer (some ⟨rb,0,none⟩),.int .i64 4] 157)
 have fY:=aa (GZ.o.below oZ GZ.o.lt)
 generalize Y.heap.size=tb at*
 rw[←hw1] at TN fY
 refine hK.out _ _ (six fY.o) (fun aD=> ?_);clear hK aD GZ Ft oZ hw1
 refine iL [4] (iM fun K hK=> ?_)
 go_simp
 refine (Cn.o _).mono ?_
 rintro e w2 ⟨rfl,aP⟩
 have EE:=aa (TN.o.still aP)
 have fC:=aa (fY.o.below aP fY.o.lt)
 refine hK.out _ _ (six fC.o) (fun aD=> ?_);clear hK aD fY TN aP
 refine iL [6] (iM fun K hK=> ?_)
 go_simp
 refine (RS.o _).mono ?_
 rintro e w3 ⟨rfl,bY⟩
 have Ej:=aa (EE.o.still bY)
 have p8:=aa (fC.o.below bY fC.o.lt)
 refine hK.out _ _ (six p8.o) (fun aD=> ?_);clear hK aD fC EE bY
 refine iL [7] (iM fun K hK=> ?_)
 go_simp
 refine (pM.o _ _ Ej.o).mono ?_
 rintro e w4 ⟨rfl,h4⟩
 have H4:=aa (oz.o _ _ _ _ h4 (aE.refl _ _))
 refine hK.out _ _ (six (HQ.o _ h4.q)) (fun aD=> ?_);clear hK h4
 refine wpAnyH_take (i:=8) (v:= ?_) (by simp only[bM,bU,bN];exact rfl) (by kernel_rfl) (by kernel_rfl) (by kernel_rfl) (by exact fun _ _ _ h=>h) (Or.inl ⟨by rfl, ?_⟩) aD ?_
 rotate_left
 ·intro w dQ;obtain⟨s0,s1,s2,s3,s4,s5⟩:=dQ;go_simp;try with_reducible rfl
 refine wpAnyH_done (by kernel_rfl) ?_ _
 try simp only[Act.put,az,ay,au]
 go_wp2_with fail
 go_ret
 exact⟨rfl,H4.o⟩
end
namespace Bk
def B0:B:=⟨[],0,0,false,[],0⟩
def seen (l:List B) (n:Text):B:=if err l n=0 then (find l n).getD B0 else B0
theorem jy (l:List B) (n:Text):(Nm.bucket n=false∧err l n=28∧seen l n=B0)∨(Nm.bucket n=true∧find l n=none∧err l n=20∧seen l n=B0)∨∃b,Nm.bucket n=true∧find l n=some b∧err l n=0∧seen l n=b:=by
 unfold seen err
 cases h1:Nm.bucket n with
 |false=>exact .inl ⟨rfl,rfl,rfl⟩
 |true=>
  cases h2:find l n with
  |none=>exact .inr (.inl ⟨rfl,rfl,rfl,rfl⟩)
  |some b=>exact .inr (.inr ⟨b,rfl,rfl,rfl,rfl⟩)
end Bk
theorem we {w:World} {g:Nat} {t:TypeId} {v0 v1 v2 v3 v4 v5:Value} (h:aS w g t [v0,v1,v2,v3,v4,v5]):
  w.cell? ⟨g,0,none⟩=some v0∧w.cell? ⟨g,1,none⟩=some v1∧w.cell? ⟨g,2,none⟩=some v2∧w.cell? ⟨g,3,none⟩=some v3∧w.cell? ⟨g,4,none⟩=some v4∧w.cell? ⟨g,5,none⟩=some v5∧w.frozen? ⟨g,0,none⟩=false∧w.frozen? ⟨g,1,none⟩=false∧w.frozen? ⟨g,2,none⟩=false∧w.frozen? ⟨g,3,none⟩=false∧w.frozen? ⟨g,4,none⟩=false∧w.frozen? ⟨g,5,none⟩=false:=
 ⟨h.cell rfl,h.cell rfl,h.cell rfl,h.cell rfl,h.cell rfl,h.cell rfl,h.frozen 0,h.frozen 1,h.frozen 2,h.frozen 3,h.frozen 4,h.frozen 5⟩
section
variable {w X:World} {rb n B:Nat} {l:List Bk.B} {K:Nat→Prop} {Q:World→Prop}
theorem nY (h:BH w rb n l B K Q X) (hf:Bk.Fit l) (nm:List UInt8):
  Calls Tryz.prog 12 #[ptr rb,.string (bs nm)] X fun e X'=>e=.returned (.tuple #[qV (Bk.seen l nm),.int .i64 (Bk.err l nm:Nat)])∧BH w rb n l (B+30000) K Q X':=by
 obtain⟨K1,Q1,h0,hout,hq⟩:=h.boxed #[.string ⟨#[]⟩,.int .i64 0,.int .u64 0,.bool false,.string ⟨#[]⟩,.int .u64 0] 46
 have Ft:=aa h0
 have HQ:=aa (show ∀Y,Q1 Y→aS Y X.heap.size 46 [.string ⟨#[]⟩,.int .i64 0,.int .u64 0,.bool false,.string ⟨#[]⟩,.int .u64 0] from hq)
 have oz:=aa hout
 have yt:=aa (show ∀W,BH w rb n l B K1 Q1 W→Calls Tryz.prog 29 #[.pointer (some ⟨rb,0,none⟩),.string (bs nm)] W fun e X'=>e=.returned (.int .i64 (if Nm.bucket nm=true then 0 else 28))∧BH w rb n l B K1 Q1 X' from fun W hW=>sQ hW (bs nm))
 have HM:=aa (show ∀W,Calls Tryz.prog 31 #[.pointer (some ⟨rb,0,none⟩)] W fun e X'=>e=.returned (.pointer (some ⟨W.heap.size,0,none⟩))∧X'=W.alloc (.cells #[.pointer (some ⟨rb,0,none⟩),.int .i64 4] 157) from fun W=>qS W rb)
 clear h h0 hq hout
 unfold ptr
 rcases Bk.jy l nm with⟨e1,e2,e3⟩|⟨e1,e4,e2,e3⟩|⟨b,e1,e4,e2,e3⟩
 ·rw[e2,e3]
  rw[e1,if_neg (by decide)] at yt
  clear e1 e2 e3
  generalize bs nm=N at*
  go_enter Tryz.func12,Tryz.ntmps12
  go_wp2_with fail
  generalize X.heap.size=bb at*
  generalize dO X _=X0 at*
  refine (yt.o _ Ft.o).mono ?_
  rintro e w1 ⟨rfl,h1⟩
  have H1:=aa h1
  clear h1 Ft yt
  obtain⟨y0,y1,y2,y3,y4,y5,z0,z1,z2,z3,z4,z5⟩:=we (HQ.o _ H1.o.q)
  go_wp2
  obtain⟨q1,q2⟩:=Lr (HQ.o _ H1.o.q) (.string ⟨#[]⟩) (.int .i64 0) (.int .u64 0) (.bool false) (.string ⟨#[]⟩) (.int .u64 0)
  try simp only[Exit.inBlock,Exit.then]
  refine bodyPost_ret (zL rfl _ rfl q1) rfl ?_
  exact⟨rfl,(oz.o _ _ _ _ H1.o q2).more (by omega)⟩
 ·rw[e2,e3]
  rw[e1,if_pos rfl] at yt
  have Cn:=aa (show ∀W,Calls Tryz.prog 30 #[.string (bs nm)] W fun e w'=>e=.returned (.string (bs (Bk.key nm)))∧Below W.heap.size W w' from fun W=>by
   have:=gA (bs nm) W
   rw[bO,nC e1] at this
   exact this)
  have Zd:=aa (show ∀tb W,RT w rb tb 4 n (Bk.pI Bk.fV l) B K1 Q1 W→Calls Tryz.prog 32 #[.pointer (some ⟨tb,0,none⟩),.string (bs (Bk.key nm))] W fun e X'=>e=.returned (.tuple #[.string ⟨#[]⟩,.bool false,.int .i64 0])∧BH w rb n l (B+30000) K1 Q1 X' from fun tb W ht=>by
   have:=Le (key:=Bk.key nm) ht
   rw[Bk.Fm (Nm.eV e1),e4] at this
   exact this)
  clear e1 e2 e3 e4
  generalize bs (Bk.key nm)=KK at*
  generalize bs nm=N at*
  go_enter Tryz.func12,Tryz.ntmps12
  go_wp2_with fail
  generalize X.heap.size=bb at*
  generalize dO X _=X0 at*
  refine (yt.o _ Ft.o).mono ?_
  rintro e w1 ⟨rfl,h1⟩
  have H1:=aa h1
  clear h1 Ft yt
  go_wp2_with fail
  refine (Cn.o _).mono ?_
  rintro e w2 ⟨rfl,aP⟩
  have H2:=aa (H1.o.still aP)
  clear aP H1
  go_wp2_with fail
  refine (HM.o _).mono ?_
  rintro e w3 ⟨rfl,kO⟩
  have Ej:=aa (show RT w rb w2.heap.size 4 n _ B K1 Q1 (w2.alloc (.cells #[.pointer (some ⟨rb,0,none⟩),.int .i64 4] 157)) from H2.o.tree)
  rw[←kO] at Ej
  clear kO H2
  generalize w2.heap.size=tb at*
  go_wp2_with fail
  refine (Zd.o _ _ Ej.o).mono ?_
  rintro e w4 ⟨rfl,h4⟩
  have H4:=aa h4
  clear h4 Ej
  obtain⟨y0,y1,y2,y3,y4,y5,z0,z1,z2,z3,z4,z5⟩:=we (HQ.o _ H4.o.q)
  go_wp2
  obtain⟨q1,q2⟩:=Lr (HQ.o _ H4.o.q) (.string ⟨#[]⟩) (.int .i64 0) (.int .u64 0) (.bool false) (.string ⟨#[]⟩) (.int .u64 0)
  try simp only[Exit.inBlock,Exit.then]
  refine bodyPost_ret (zL rfl _ rfl q1) rfl ?_
  exact⟨rfl,oz.o _ _ _ _ H4.o q2⟩
 ·rw[e2,e3]
  rw[e1,if_pos rfl] at yt
  obtain⟨hm,rfl⟩:=Bk.lJ e4
  have Cn:=aa (show ∀W,Calls Tryz.prog 30 #[.string (bs b.name)] W fun e w'=>e=.returned (.string (bs (Bk.key b.name)))∧Below W.heap.size W w' from fun W=>by
   have:=gA (bs b.name) W
   rw[bO,nC e1] at this
   exact this)
  have Zd:=aa (show ∀tb W,RT w rb tb 4 n (Bk.pI Bk.fV l) B K1 Q1 W→Calls Tryz.prog 32 #[.pointer (some ⟨tb,0,none⟩),.string (bs (Bk.key b.name))] W fun e X'=>e=.returned (.tuple #[.string (bs (Bk.fV b)),.bool true,.int .i64 0])∧BH w rb n l (B+30000) K1 Q1 X' from fun tb W ht=>by
   have:=Le (key:=Bk.key b.name) ht
   rw[Bk.Fm (Nm.eV e1),e4] at this
   exact this)
  have UY:=aa (fun W=>qR b (hf.one hm) W)
  unfold qV at UY ⊢
  clear e1 e2 e3 e4 hm hf
  generalize bs (Bk.fV b)=RV at*
  generalize bs (Bk.key b.name)=KK at*
  generalize bs b.name=N at*
  generalize bs b.pre=PB at*
  generalize b.state=v1 at*
  generalize b.born=v2 at*
  generalize b.on=v3 at*
  generalize b.after=v5 at*
  go_enter Tryz.func12,Tryz.ntmps12
  go_wp2_with fail
  generalize X.heap.size=bb at*
  generalize dO X _=X0 at*
  refine (yt.o _ Ft.o).mono ?_
  rintro e w1 ⟨rfl,h1⟩
  have H1:=aa h1
  clear h1 Ft yt
  go_wp2_with fail
  refine (Cn.o _).mono ?_
  rintro e w2 ⟨rfl,aP⟩
  have H2:=aa (H1.o.still aP)
  clear aP H1
  go_wp2_with fail
  refine (HM.o _).mono ?_
  rintro e w3 ⟨rfl,kO⟩
  have Ej:=aa (show RT w rb w2.heap.size 4 n _ B K1 Q1 (w2.alloc (.cells #[.pointer (some ⟨rb,0,none⟩),.int .i64 4] 157)) from H2.o.tree)
  rw[←kO] at Ej
  clear kO H2
  generalize w2.heap.size=tb at*
  go_wp2_with fail
  refine (Zd.o _ _ Ej.o).mono ?_
  rintro e w4 ⟨rfl,h4⟩
  have H4:=aa h4
  clear h4 Ej
  go_wp2_with fail
  refine (UY.o _).mono ?_
  rintro e w5 ⟨rfl,dX⟩
  have H5:=aa (H4.o.still dX)
  clear dX H4
  have H6:=aa (H5.o.still ((Below.refl _ w5).alloc (af _) (.cells #[.string N,.int .i64 v1,.int .u64 v2,.bool v3,.string PB,.int .u64 v5] 46)))
  have z6:=aa (aS.new w5 #[.string N,.int .i64 v1,.int .u64 v2,.bool v3,.string PB,.int .u64 v5] 46)
  go_upto_if 47 with fail
  clear H5
  generalize dO w5 _=w6 at*
  generalize w5.heap.size=gb at*
  obtain⟨x0,x1,x2,x3,x4,x5⟩:=six z6.o
  obtain⟨y0,y1,y2,y3,y4,y5,z0,z1,z2,z3,z4,z5⟩:=we (HQ.o _ H6.o.q)
  go_wp2
  obtain⟨q1,q2⟩:=Lr (HQ.o _ H6.o.q) (.string N) (.int .i64 v1) (.int .u64 v2) (.bool v3) (.string PB) (.int .u64 v5)
  try simp only[Exit.inBlock,Exit.then]
  refine bodyPost_ret (zL rfl _ rfl q1) rfl ?_
  exact⟨rfl,oz.o _ _ _ _ H6.o q2⟩
end
end
namespace Bk
open Tr (eZ)
theorem yu {lim:Int} {lo hi:Text}:∀(l s:eZ),(∀p∈l,hasB lo hi p.1=true)→(s.length+l.length:Int)≤lim→l.foldl (eP lim lo hi) s=s++l
 |[],s,_,_=>(bh s).symm
 |p::l,s,ha,h=>by
  rw[aW] at h
  have e:eP lim lo hi s p=s++[p]:=by
   unfold eP
   rw[if_pos ⟨by omega,ha p aA⟩]
  rw[List.foldl_cons,e,yu l (s++[p]) (fun q hq=>ha q (aF _ hq)) (by rw[aq,eH];omega),aB]
  rfl
variable {rec:B→Text} {l:List B}
theorem Fu {p:Text×Text} (h:p∈pI rec l):∃t,p.1=98::t∧t≠[]:=by
 unfold pI at h
 obtain⟨b,_,rfl⟩:=List.mem_map.1 h
 exact⟨b.name++[0],rfl,by simp⟩
theorem wh:(pI rec l).length=l.length:=aM _
theorem Ek {lim:Int} (h:(l.length:Int)≤lim):(pI rec l).foldl (eP lim (Nm.under 98 []) (Nm.behind (Nm.under 98 []))) []=pI rec l:=by
 have e1:Nm.under 98 []=[98]:=by decide
 have e2:Nm.behind [98]=[99]:=by decide
 rw[e1,e2,yu _ _ ?_ (by rw[wh,List.length_nil];omega),dF]
 intro p hp
 obtain⟨t,e,ht⟩:=Fu hp
 rw[e]
 cases t with
 |nil=>exact absurd rfl ht
 |cons c t=>simp[hasB,Tr.lt]
theorem Cd {lim:Int} {c:UInt8} (hc:98<c) {n:Text} (hn:(0:UInt8)∉n) (hi:Text):(pI rec l).foldl (eP lim (Nm.under c [n]) hi) []=[]:=by
 refine qJ (fun p hp=> ?_) []
 obtain⟨t,e,ht⟩:=Fu hp
 rw[e,Nm.vN (by intro p hp;rw[cH.1 hp];exact hn)]
 have:Tr.lt (98::t) (c::[n].flatMap (· ++[0]))=true:=by
  show (decide (98<c)||_)=true
  rw[decide_eq_true hc,Bool.true_or]
 unfold hasB
 rw[this]
 rfl
end Bk
section
open Go.RowKit Lib
namespace Nm
theorem Ij (s:ByteArray) (k:Nat) (h:k<s.size):s.data.toList.take (k+1)=s.data.toList.take k++[s[k]]:=by
 rw[cI (show k<s.data.toList.length from h)]
 rfl
theorem Ce (s:ByteArray) (k:Nat) (h:k<s.size):behind (s.data.toList.take (k+1))=if s[k]<255 then s.data.toList.take k++[s[k]+1] else behind (s.data.toList.take k):=by
 rw[Ij s k h,BX]
theorem UZ (c:UInt8):(c<255∧(c.toNat:Int)<255∧(c.toNat:Int)+1=((c+1).toNat:Int))∨(¬c<255∧¬(c.toNat:Int)<255):=by
 have h255:(255:UInt8).toNat=255:=rfl
 by_cases h:c.toNat<255
 ·refine .inl ⟨by rw[rZ];omega,by omega, ?_⟩
  rw[UInt8.toNat_add]
  have h1:(1:UInt8).toNat=1:=rfl
  rw[h1];omega
 ·exact .inr ⟨by rw[rZ];omega,by omega⟩
end Nm
theorem El (s:ByteArray) (w:World) (hs:s.size≤1000000):Calls Tryz.prog 59 #[.string s] w fun e w'=>e=.returned (.string (bs (Nm.behind s.data.toList)))∧Below w.heap.size w w':=by
 have xk:(s.size:Int)≤1000000:=by omega
 go_enter Tryz.func59,Tryz.ntmps59
 go_wp2
 go_loopw [3] (fun i wr=>∃k:Nat,k≤s.size∧i=.int .i64 ((k:Int)-1)∧Hid (Nm.behind s.data.toList=Nm.behind (s.data.toList.take k))∧wr=w) (fun i _=>(RowKit.intOf i+1).toNat)
 case atStart=>exact⟨s.size,af _,rfl,aa (by rw[bZ (by rw[aZ];exact af _)]),rfl⟩
 case round=>
  obtain⟨k,hk,rfl,HA,rfl⟩:=hrel
  cases k with
  |zero=>
   go_wp2
   go_ret
   exact⟨by rw[HA.o];rfl,Below.refl _ _⟩
  |succ k=>
   have s9:(k:Int)<s.size:=by omega
   have e:((k+1:Nat):Int)-1=(k:Int):=by omega
   rw[e]
   have HS:=aa (HA.o.trans (Nm.Ce s k (by omega)))
   clear HA e
   rcases Nm.UZ s[k] with⟨h1,h2,h3⟩|⟨h1,h2⟩
   ·rw[if_pos h1] at HS
    have OH:(convert 94 9 (.slice (some ⟨wr.heap.size,0,none⟩) 1 1)).run Tryz.prog ((wr.alloc (.cells #[.int .u8 ((s[k].toNat:Int)+1)] 5)).drew)=.ok (.string (bs [s[k]+1])) ((wr.alloc (.cells #[.int .u8 ((s[k].toNat:Int)+1)] 5)).drew):=by
     rw[h3];exact gi.back ((Cc wr (s[k]+1)).drew)
    have HX:=aa (show s.extract 0 k++bs [s[k]+1]=bs (s.data.toList.take k++[s[k]+1]) by rw[jz s k,xg])
    have hsz:(s.extract 0 k).size+(bs [s[k]+1]).size≤9223372036854775807:=by
     rw[aK,jz,aK,aN,eH];omega
    generalize bs [s[k]+1]=Y at*
    clear h1 h3
    go_wp2_with fail
    go_region
    go_wp2
    go_ret
    exact⟨by rw[HS.o,←HX.o];rfl,((Below.refl wr.heap.size wr).alloc (af _) _).drew⟩
   ·rw[if_neg h1] at HS
    go_wp2
    go_roundw
    case rel=>exact⟨k,by omega,rfl,HS,trivial⟩
    case measure=>simp[RowKit.intOf]
section
variable {w X:World} {rb n B:Nat} {l:List Bk.B} {K:Nat→Prop} {Q:World→Prop}
theorem Cf (h:BH w rb n l B K Q X) (kind:UInt8) (v:Value) (parts:List (List UInt8)) (hr:Reads X v parts) (hp:∀i (hi:i<parts.length),parts[i].length≤1000) (hl:parts.length≤100) (lim:Int):
  Calls Tryz.prog 38 #[ptr rb,.int .i64 lim,.int .u8 kind.toNat,v] X fun e X'=>∃v',e=.returned (.tuple #[v',.int .i64 0])∧qH X.heap.size X' v' ((Bk.pI Bk.fV l).foldl (eP lim (Nm.under kind parts) (Nm.behind (Nm.under kind parts))) [])∧BH w rb n l (B+30000) K Q X':=by
 have hul:(Nm.under kind parts).length≤1000000:=by
  unfold Nm.under
  split
  ·simp
  ·have:∀(ps:List (List UInt8)),(∀p∈ps,p.length≤1000)→(ps.flatMap (· ++[0])).length≤1001*ps.length:=by
    intro ps
    induction ps with
    |nil=>simp
    |cons p t ih=>
     intro hh
     have h1:=ih fun q hq=>hh q (aF _ hq)
     have h2:=hh p aA
     rw[List.flatMap_cons,aq,aq,eH,aW]
     omega
   have h3:=this parts fun p hp'=>by
    obtain⟨i,hi,e⟩:=List.mem_iff_getElem.1 hp'
    rw[←e];exact hp i hi
   rw[aW]
   exact aG (Nat.succ_le_succ h3) (by omega)
 have Q7:=aa (yp kind v parts X hr (fun i hi=>by have:=hp i hi;omega) hl)
 have Gn:=aa (fun W=>El (bs (Nm.under kind parts)) W (by rw[aK];exact hul))
 rw[bO] at Gn
 have HM:=aa (show ∀W,Calls Tryz.prog 31 #[.pointer (some ⟨rb,0,none⟩)] W fun e X'=>e=.returned (.pointer (some ⟨W.heap.size,0,none⟩))∧X'=W.alloc (.cells #[.pointer (some ⟨rb,0,none⟩),.int .i64 4] 157) from fun W=>qS W rb)
 have HH:=aa h
 have HSC:=aa (fun tb W (ht:RT w rb tb 4 n (Bk.pI Bk.fV l) B K Q W)=>Og ht (Nm.under kind parts) (Nm.behind (Nm.under kind parts)) lim)
 unfold ptr at HSC ⊢
 clear h hr hp hul
 generalize Nm.behind (Nm.under kind parts)=T2 at*
 generalize Nm.under kind parts=T1 at*
 generalize (kind.toNat:Int)=KK at*
 go_enter Tryz.func38,Tryz.ntmps38
 go_wp2_with fail
 refine Q7.o.mono ?_
 rintro e w1 ⟨rfl,bF⟩
 have H1:=aa (HH.o.still bF)
 have IG:=aa bF.size
 clear bF Q7 HH
 go_wp2_with fail
 refine (HM.o _).mono ?_
 rintro e w2 ⟨rfl,jT⟩
 have EE:=aa (show RT w rb w1.heap.size 4 n _ B K Q (w1.alloc (.cells #[.pointer (some ⟨rb,0,none⟩),.int .i64 4] 157)) from H1.o.tree)
 have zl:=aa (show X.heap.size≤(w1.alloc (.cells #[.pointer (some ⟨rb,0,none⟩),.int .i64 4] 157)).heap.size by rw[bk];have:=IG.o;omega)
 rw[←jT] at EE zl
 clear jT H1
 generalize w1.heap.size=tb at*
 go_wp2_with fail
 refine (Gn.o _).mono ?_
 rintro e w3 ⟨rfl,bY⟩
 have Ej:=aa (EE.o.still bY)
 have HS3:=aa (aG zl.o bY.size)
 clear bY EE zl
 go_wp2_with fail
 refine (HSC.o _ _ Ej.o).mono ?_
 rintro e w4 ⟨v',rfl,ho,h4⟩
 have H4:=aa h4
 have Y7:=aa (Own.mono ho HS3.o)
 clear h4 ho Ej
 go_wp2
 go_ret2
 exact⟨_,rfl,Y7.o,H4.o⟩
theorem Cg (h:BH w rb n l B K Q X) (c:UInt8) (hc:98<c) (nm:List UInt8) (hn:Nm.bucket nm=true):
  Calls Tryz.prog 38 #[.pointer (some ⟨rb,0,none⟩),.int .i64 1,.int .u8 c.toNat,.slice (some ⟨X.heap.size,0,none⟩) 1 1] (X.alloc (.cells #[.string (bs nm)] 9)) fun e X'=>∃a cap,e=.returned (.tuple #[.slice a 0 cap,.int .i64 0])∧BH w rb n l (B+30000) K Q X':=by
 have h1:=h.still ((Below.refl _ X).alloc (af _) (.cells #[.string (bs nm)] 9))
 have hlen:=Nm.pH hn
 refine (Cf h1 c (.slice (some ⟨X.heap.size,0,none⟩) 1 1) [nm] (yq X [nm]) (fun i hi=> ?_) (by rw[eH];decide) 1).mono ?_
 ·rw[eH] at hi
  obtain rfl:i=0:=by omega
  show nm.length≤1000
  omega
 rintro e X' ⟨v',rfl,ho,h2⟩
 rw[Bk.Cd hc (Nm.eV hn)] at ho
 obtain⟨a,cap,rfl,_⟩:=Own.slice ho
 exact⟨a,cap,rfl,h2⟩
theorem LF (h:BH w rb n l B K Q X) (hf:Bk.Fit l) (nm:List UInt8):
  Calls Tryz.prog 23 #[ptr rb,.string (bs nm)] X fun e X'=>e=.returned (.tuple #[.bool (decide (Bk.err l nm=0)),.int .i64 (Bk.err l nm:Nat)])∧BH w rb n l (B+90000) K Q X':=by
 have iy:=aa (nY h hf nm)
 unfold ptr at iy ⊢
 unfold qV at iy
 clear h
 rcases Bk.jy l nm with⟨e1,e2,e3⟩|⟨e1,e4,e2,e3⟩|⟨b,e1,e4,e2,e3⟩
 ·rw[e2,e3] at iy
  rw[e2]
  clear e1 e2 e3
  generalize bs nm=N at*
  go_enter Tryz.func23,Tryz.ntmps23
  go_wp2_with fail
  refine iy.o.mono ?_
  rintro e w1 ⟨rfl,h1⟩
  have H2:=aa (h1.still ((Below.refl _ w1).alloc (af _) (.cells #[.string ⟨#[]⟩,.int .i64 0,.int .u64 0,.bool false,.string ⟨#[]⟩,.int .u64 0] 46)))
  clear h1 iy
  go_wp2
  go_ret2
  exact⟨rfl,H2.o.more (by omega)⟩
 ·rw[e2,e3] at iy
  rw[e2]
  clear e1 e2 e3
  generalize bs nm=N at*
  go_enter Tryz.func23,Tryz.ntmps23
  go_wp2_with fail
  refine iy.o.mono ?_
  rintro e w1 ⟨rfl,h1⟩
  have H2:=aa (h1.still ((Below.refl _ w1).alloc (af _) (.cells #[.string ⟨#[]⟩,.int .i64 0,.int .u64 0,.bool false,.string ⟨#[]⟩,.int .u64 0] 46)))
  clear h1 iy
  go_wp2
  go_ret2
  exact⟨rfl,H2.o.more (by omega)⟩
 ·rw[e2,e3] at iy
  rw[e2]
  obtain⟨N,hN⟩:∃N,N=bs nm:=⟨_,rfl⟩
  have Ze:=aa (fun B' K1 Q1 W (hW:BH w rb n l B' K1 Q1 W)=>Cg hW 118 (by decide) nm e1)
  have Zf:=aa (fun B' K1 Q1 W (hW:BH w rb n l B' K1 Q1 W)=>Cg hW 117 (by decide) nm e1)
  rw[show ((118:UInt8).toNat:Int)=118 from rfl] at Ze
  rw[show ((117:UInt8).toNat:Int)=117 from rfl] at Zf
  rw[←hN] at iy Ze Zf ⊢
  clear e1 e2 e3 e4 hf hN
  generalize bs b.name=NB at*
  generalize bs b.pre=PB at*
  go_enter Tryz.func23,Tryz.ntmps23
  go_wp2_with fail
  refine iy.o.mono ?_
  rintro e w1 ⟨rfl,h1⟩
  have H2:=aa (h1.still ((Below.refl _ w1).alloc (af _) (.cells #[.string NB,.int .i64 b.state,.int .u64 b.born,.bool b.on,.string PB,.int .u64 b.after] 46)))
  clear h1 iy
  go_upto_if 19 with fail
  generalize dO w1 _=w2 at*
  obtain⟨K1,Q1,h3,hout,hq⟩:=H2.o.boxed #[.int .u8 118,.int .u8 117] 5
  have H3:=aa h3
  have HQ:=aa (show ∀Y,Q1 Y→aS Y w2.heap.size 5 [.int .u8 118,.int .u8 117] from hq)
  have oz:=aa (fun l' B' Y (hY:RH w rb 4 n l' B' K1 Q1 Y)=>hout l' B' Y Y hY (aE.refl _ _))
  clear h3 hout hq H2
  go_wp2_with fail
  generalize dO w2 _=w3 at*
  generalize w2.heap.size=kb at*
  go_loopw [23] (fun iv wr=>∃i:Nat,i≤2∧iv=.int .i64 i∧Hid (BH w rb n l (B+30000+30000*i) K1 Q1 wr)) (fun iv _=>2-(RowKit.intOf iv).toNat)
  case atStart=>exact⟨0,aC _,rfl,H3⟩
  case round=>
   clear H3
   obtain⟨i,hi,rfl,hR⟩:=hrel
   have HR:=hR
   have hq:=HQ.o _ hR.o.q
   have x0:=hq.cell (j:=0) rfl
   have x1:=hq.cell (j:=1) rfl
   clear hq hR
   have h3:i=0∨i=1∨i=2:=by omega
   rcases h3 with rfl|rfl|rfl
   ·go_wp2_with fail
    refine (Ze.o _ _ _ _ HR.o).mono ?_
    rintro e w4 ⟨a,cap,rfl,h4⟩
    have H4:=aa h4
    clear h4 x0 x1 HR
    go_wp2_with fail
    go_roundw
    case rel=>exact⟨1,by decide,rfl,aa (H4.o.more (by omega))⟩
    case measure=>simp[RowKit.intOf]
   ·go_wp2_with fail
    refine (Zf.o _ _ _ _ HR.o).mono ?_
    rintro e w4 ⟨a,cap,rfl,h4⟩
    have H4:=aa h4
    clear h4 x0 x1 HR
    go_wp2_with fail
    go_roundw
    case rel=>exact⟨2,by decide,rfl,aa (H4.o.more (by omega))⟩
    case measure=>simp[RowKit.intOf]
   ·clear x0 x1
    go_wp2
    go_ret2
    exact⟨rfl,(oz.o _ _ _ HR.o).more (by omega)⟩
theorem Ou (h:BH w rb n l B K Q X) (hf:Bk.Fit l) (nm:List UInt8) (hB:B≤50000000):
  Calls Tryz.prog 19 #[ptr rb,.string (bs nm)] X fun e X'=>e=.returned (.int .i64 ((Bk.dropped l nm).2:Nat))∧BH w rb n (Bk.dropped l nm).1 (B+120000) K Q X':=by
 have L5:=aa (LF h hf nm)
 have HM:=aa (show ∀W,Calls Tryz.prog 31 #[.pointer (some ⟨rb,0,none⟩)] W fun e X'=>e=.returned (.pointer (some ⟨W.heap.size,0,none⟩))∧X'=W.alloc (.cells #[.pointer (some ⟨rb,0,none⟩),.int .i64 4] 157) from fun W=>qS W rb)
 unfold ptr at L5 ⊢
 clear h
 rcases Bk.jy l nm with⟨e1,e2,e3⟩|⟨e1,e4,e2,e3⟩|⟨b,e1,e4,e2,e3⟩
 ·have hV:Bk.dropped l nm=(l,28):=by unfold Bk.dropped;rw[e2];rfl
  rw[hV]
  rw[e2] at L5
  clear e1 e2 e3 hV hf
  generalize bs nm=N at*
  go_enter Tryz.func19,Tryz.ntmps19
  go_wp2_with fail
  refine L5.o.mono ?_
  rintro e w1 ⟨rfl,h1⟩
  have H1:=aa h1
  clear h1 L5
  go_wp2
  go_ret
  exact⟨rfl,H1.o.more (by omega)⟩
 ·have hV:Bk.dropped l nm=(l,20):=by unfold Bk.dropped;rw[e2];rfl
  rw[hV]
  rw[e2] at L5
  clear e1 e2 e3 e4 hV hf
  generalize bs nm=N at*
  go_enter Tryz.func19,Tryz.ntmps19
  go_wp2_with fail
  refine L5.o.mono ?_
  rintro e w1 ⟨rfl,h1⟩
  have H1:=aa h1
  clear h1 L5
  go_wp2
  go_ret
  exact⟨rfl,H1.o.more (by omega)⟩
 ·have hV:Bk.dropped l nm=(Bk.drop l nm,0):=by unfold Bk.dropped;rw[e2];rfl
  rw[hV]
  rw[e2] at L5
  have Cn:=aa (show ∀W,Calls Tryz.prog 30 #[.string (bs nm)] W fun e w'=>e=.returned (.string (bs (Bk.key nm)))∧Below W.heap.size W w' from fun W=>by
   have:=gA (bs nm) W
   rw[bO,nC e1] at this
   exact this)
  have HDL:=aa (show ∀tb W,RT w rb tb 4 n (Bk.pI Bk.fV l) (B+90000) K Q W→Calls Tryz.prog 36 #[.pointer (some ⟨tb,0,none⟩),.string (bs (Bk.key nm))] W fun e X'=>(∃c:Bool,e=.returned (.tuple #[.bool c,.int .i64 0]))∧BH w rb n (Bk.drop l nm) (B+90000+30000) K Q X' from fun tb W ht=>by
   refine (QX (key:=Bk.key nm) ht (by omega)).mono ?_
   rw[Bk.Oi]
   rintro e X' ⟨rfl,h1⟩
   exact⟨⟨_,rfl⟩,h1⟩)
  clear e1 e2 e3 e4 hV hf
  generalize Bk.drop l nm=L2 at*
  generalize bs (Bk.key nm)=KK at*
  generalize bs nm=N at*
  go_enter Tryz.func19,Tryz.ntmps19
  go_wp2_with fail
  refine L5.o.mono ?_
  rintro e w1 ⟨rfl,h1⟩
  have H1:=aa h1
  clear h1 L5
  go_wp2_with fail
  refine (HM.o _).mono ?_
  rintro e w2 ⟨rfl,jT⟩
  have EE:=aa (show RT w rb w1.heap.size 4 n _ (B+90000) K Q (w1.alloc (.cells #[.pointer (some ⟨rb,0,none⟩),.int .i64 4] 157)) from H1.o.tree)
  rw[←jT] at EE
  clear jT H1
  generalize w1.heap.size=tb at*
  go_wp2_with fail
  refine (Cn.o _).mono ?_
  rintro e w3 ⟨rfl,bY⟩
  have Ej:=aa (EE.o.still bY)
  clear bY EE
  go_wp2_with fail
  refine (HDL.o _ _ Ej.o).mono ?_
  rintro e w4 ⟨⟨c,rfl⟩,h4⟩
  have H4:=aa h4
  clear h4 Ej
  go_wp2
  go_ret
  exact⟨rfl,H4.o.more (by omega)⟩
end
theorem Ik (w:World) (n:Nat) (hn:n≤1000000):(Instr.makeSlice 64 (.int .i64 n) (.int .i64 n)).run Tryz.prog w=.ok (.slice (some ⟨w.heap.size,0,none⟩) n n) (w.alloc (.cells (bg n (.string .empty)).toArray 9)):=by
 obtain⟨i,hi,hz,hs,hb⟩:=jZ (P:=Tryz.prog) (E:=9) (size:=1) (bytes:=16) (z:=.string .empty) (by kernel_rfl)
 have:=run_make (P:=Tryz.prog) w 64 9 i (.string .empty) Tryz.underlying64 hi hz .i64 .i64 n n (by omega) (by omega) (by rw[hb];omega) (by omega)
 rw[this,hs,cX,Nat.mul_one,show (Value.string .empty).cells=#[.string .empty] from rfl,tL]
def lK (l:List Bk.B) (k:Nat):List Value:=(l.take k).map (fun b=>Value.string (bs b.name))++bg (l.length-k) (.string .empty)
theorem Em (l:List Bk.B):lK l 0=bg l.length (.string .empty):=rfl
theorem En (l:List Bk.B):lK l l.length=l.map fun b=>Value.string (bs b.name):=by
 unfold lK
 rw[List.take_length,Nat.sub_self,List.replicate_zero,bh]
theorem Il (l:List Bk.B) (k:Nat) (hk:k≤l.length):(lK l k).length=l.length:=by
 unfold lK
 rw[aq,aM,aN,dM]
 omega
theorem Im (l:List Bk.B) (k:Nat) (hk:k<l.length):(lK l k).set k (.string (bs l[k].name))=lK l (k+1):=by
 unfold lK
 rw[cI hk,bI,List.map_singleton,aB]
 have e:bg (l.length-k) (Value.string .empty)=Value.string .empty::bg (l.length-(k+1)) (Value.string .empty):=by
  rw[show l.length-k=(l.length-(k+1))+1 by omega,List.replicate_succ]
 rw[e,List.set_append_right _ _ (by rw[aM,aN];omega),aM,aN,show k-min k l.length=0 by omega,au]
 rfl
section
variable {w X:World} {rb n B:Nat} {l:List Bk.B} {K:Nat→Prop} {Q:World→Prop}
theorem Fv (l:List Bk.B) (k:Nat) (hk:k<l.length) (h:k<(Bk.pI Bk.fV l).length):(Bk.pI Bk.fV l)[k]=(Bk.key l[k].name,Bk.fV l[k]):=List.getElem_map _
theorem Io (X:World):Reads X (.slice none 0 0) []:=⟨none,0,rfl,af _,fun i hi=>absurd hi (Nat.not_lt_zero i)⟩
structure Pn (w1:World) (l:List Bk.B) (v:Value) (k:Nat) (X:World):Prop where
 below:Below w1.heap.size w1 X
 row:aS X w1.heap.size 9 (lK l k)
 ct:qH 0 X v (Bk.pI Bk.fV l)
theorem Pn.later {w1 X X':World} {v:Value} {k:Nat} (h:Pn w1 l v k X) (hb:Below X.heap.size X X'):Pn w1 l v k X':=
 ⟨h.below.trans (hb.mono h.below.size),h.row.below hb h.row.lt,Own.below h.ct hb (af _)⟩
theorem Pn.store {w1 X:World} {v u:Value} {k:Nat} (h:Pn w1 l v k X) (he:(lK l k).set k u=lK l (k+1)) (hv:∀g,v.ownBlock=some g→g<w1.heap.size):Pn w1 l v (k+1) (X.setCell ⟨w1.heap.size,k,none⟩ u):=by
 have hb:aE (fun i=>i=w1.heap.size) X (X.setCell ⟨w1.heap.size,k,none⟩ u):=(aE.refl _ X).setCell _ _ fun _=>rfl
 refine⟨h.below.trans (hb.below h.below.size fun i hi e=>by omega), ?_,Own.but h.ct hb fun g hg e=>by have:=hv g hg;omega⟩
 have:=h.row.set k u
 rwa [he] at this
theorem LG (h:BH w rb n l B K Q X) (hf:Bk.Fit l) (hl:l.length≤1000000):
  Calls Tryz.prog 24 #[ptr rb] X fun e X'=>∃(g:Nat) (K1:Nat→Prop) (Q1:World→Prop),e=.returned (.tuple #[.slice (some ⟨g,0,none⟩) l.length l.length,.int .i64 0])∧RH w rb 4 n (Bk.pI Bk.fV l) (B+30000) K1 Q1 X'∧∀Y,Q1 Y→Q Y∧aS Y g 9 (l.map fun b=>Value.string (bs b.name)):=by
 have Q7:=aa (Cf h 98 (.slice none 0 0) [] (Io X) (fun i hi=>absurd hi (Nat.not_lt_zero i)) (by decide) 9223372036854775807)
 rw[Bk.Ek (by omega),show ((98:UInt8).toNat:Int)=98 from rfl] at Q7
 have HF:=aa hf
 have hL:(Bk.pI Bk.fV l).length=l.length:=aM _
 have hmk:=fun W=>Ik W l.length hl
 unfold ptr at Q7 ⊢
 clear h hf
 obtain⟨L,M8⟩:∃L,L=l.length:=⟨_,rfl⟩
 have wD:=aa M8
 have HLm:=aa hl
 rw[←M8] at hL hmk ⊢
 go_enter Tryz.func24,Tryz.ntmps24
 go_wp2_with fail
 refine Q7.o.mono ?_
 rintro e w1 ⟨v,rfl,ho,h1⟩
 have H1:=aa h1
 obtain⟨a,cap,rfl,hc⟩:=Own.slice ho
 rw[hL] at ho ⊢
 have VS:=aa (Own.mono ho (aC _))
 have HN2:=aa (show Pn w1 l (.slice a L cap) 0 (w1.alloc (.cells (Array.replicate L (.string .empty)) 9)) from⟨(Below.refl _ w1).alloc (af _) _,by
  have:=aS.new w1 (Array.replicate L (.string .empty)) 9
  rw[Array.toList_replicate,M8,←Em] at this
  rw[M8]
  exact this,Own.alloc VS.o _⟩)
 clear h1 ho hc hL Q7 hl M8
 go_wp2_with fail
 generalize dO w1 _=w2 at*
 have Dl:(L:Int)≤1000000:=by have:=HLm.o;have:=wD.o;omega
 go_loopw [24] (fun iv wr=>∃k:Nat,k≤L∧iv=.int .i64 k∧Hid (Pn w1 l (.slice a L cap) k wr)) (fun iv _=>L-(RowKit.intOf iv).toNat)
 case atStart=>exact⟨0,aC _,rfl,HN2⟩
 case round=>
  clear HN2
  obtain⟨k,hk,rfl,hR⟩:=hrel
  by_cases hlt:k<L
  ·have hI:(k:Int)<L:=by omega
   have VT:=aa hlt
   have HR:=hR
   have hk':k<l.length:=by rw[←wD.o];exact hlt
   have hki:k<(Bk.pI Bk.fV l).length:=by rw[Bk.wh];exact hk'
   obtain⟨g,cap',hv,_,hg,hcap⟩:=Own.form hR.o.ct (by omega)
   injection hv with QN Iz hv3
   subst QN hv3
   clear Iz
   have hl2:a_ kK wr g 0 (Bk.pI Bk.fV l):=Own.lies (cap:=cap) (n:=L) hR.o.ct
   have p0:=hl2.at k 0 (by decide) hki (.string (bs (Bk.key l[k].name))) (by rw[Fv l k hk' hki];rfl)
   have p1:=hl2.at k 1 (by decide) hki (.string (bs (Bk.fV l[k]))) (by rw[Fv l k hk' hki];rfl)
   rw[show kK.size=2 from rfl,bV] at p0 p1
   rw[dN] at p0
   have UY:=aa (fun W=>qR l[k] (HF.o.one (bB hk')) W)
   have jO:=aa (Im l k hk')
   unfold qV at UY
   generalize l[k]=b at*
   clear hl2 hk' hki hcap hg hR
   generalize bs (Bk.fV b)=RV at*
   generalize bs (Bk.key b.name)=KK at*
   generalize bs b.name=NB at*
   generalize bs b.pre=PB at*
   have HN3:=aa (HR.o.later ((Below.refl _ wr).alloc (af _) (.cells #[.string KK,.string RV] 89)))
   have p8:=aa (aS.new wr #[.string KK,.string RV] 89)
   have HV:=aa (fun g' h'=>(Own.block VS.o g' h').2)
   clear p8
   go_wp2_with fail
   refine (UY.o _).mono ?_
   rintro e w3 ⟨rfl,bY⟩
   have RO:=aa ((HN3.o.later bY).later ((Below.refl _ w3).alloc (af _) (.cells #[.string NB,.int .i64 b.state,.int .u64 b.born,.bool b.on,.string PB,.int .u64 b.after] 46)))
   have sU:=aa (aS.new w3 #[.string NB,.int .i64 b.state,.int .u64 b.born,.bool b.on,.string PB,.int .u64 b.after] 46)
   clear bY HN3 p0 p1
   go_upto_if 35 with fail
   generalize dO w3 _=w4 at*
   generalize w3.heap.size=gb at*
   have x0:=sU.o.cell (j:=0) rfl
   have hk2:k<(lK l k).length:=by rw[Il l k (by rw[←wD.o];exact Nat.le_of_lt VT.o),←wD.o];exact VT.o
   have y0:=RO.o.row.cell (j:=k) (aJ hk2)
   have z0:=RO.o.row.frozen k
   generalize (lK l k)[k]=u0 at y0
   clear hk2 sU
   go_wp2_with fail
   go_roundw
   case rel=>exact⟨k+1,VT.o,by go_num,aa (RO.o.store jO.o HV.o)⟩
   case measure=>have:=VT.o;simp[RowKit.intOf];omega
  ·obtain rfl:k=L:=by omega
   have hI:¬(k:Int)<k:=by omega
   go_wp2
   go_ret2
   have hx:=hR.o.row
   rw[wD.o,En] at hx
   have Rr:=H1.o.box (P:=fun Y=>aS Y w1.heap.size 9 (l.map fun b=>Value.string (bs b.name))) hR.o.below (fun X2 aP=>hx.but aP fun hn=>hn ⟨af _,hx.lt⟩)
   exact⟨w1.heap.size,rfl,_,_,Rr,fun Y hY=>⟨hY.1 Y (aE.refl _ _),hY.2⟩⟩
end
namespace Bk
theorem Ch {l:List B} {n:Text} {b:B} (hg:Good l) (h:find l n=some b) (f:B→B) (hf:(f b).name=b.name):ins l (f b)=upd l n f:=by
 obtain⟨hm,rfl⟩:=lJ h
 rw[Hx hg (by rw[hf,h];rfl),hf,←Hz hg h f]
end Bk
section
variable {w X:World} {rb n B:Nat} {l:List Bk.B} {K:Nat→Prop} {Q:World→Prop}
theorem sR (h:BH w rb n l B K Q X) (hf:Bk.Fit l) (nm:List UInt8) (s:Int) (hB:B≤50000000) (hn:2*l.length+38≤n):
  Calls Tryz.prog 15 #[ptr rb,.string (bs nm),.int .i64 s] X fun e X'=>e=.returned (.int .i64 ((Bk.setState l nm s).2:Nat))∧BH w rb n (Bk.setState l nm s).1 (B+60000) K Q X':=by
 have iy:=aa (nY h hf nm)
 unfold ptr at iy ⊢
 unfold qV at iy
 clear h
 rcases Bk.jy l nm with⟨e1,e2,e3⟩|⟨e1,e4,e2,e3⟩|⟨b,e1,e4,e2,e3⟩
 ·have hV:Bk.setState l nm s=(l,28):=by unfold Bk.setState;rw[e2];rfl
  rw[hV]
  rw[e2,e3] at iy
  clear e1 e2 e3 hV
  generalize bs nm=N at*
  go_enter Tryz.func15,Tryz.ntmps15
  go_wp2_with fail
  refine iy.o.mono ?_
  rintro e w1 ⟨rfl,h1⟩
  have H2:=aa (h1.still ((Below.refl _ w1).alloc (af _) (.cells #[.string ⟨#[]⟩,.int .i64 0,.int .u64 0,.bool false,.string ⟨#[]⟩,.int .u64 0] 46)))
  clear h1 iy
  go_wp2
  go_ret
  exact⟨rfl,H2.o.more (by omega)⟩
 ·have hV:Bk.setState l nm s=(l,20):=by unfold Bk.setState;rw[e2];rfl
  rw[hV]
  rw[e2,e3] at iy
  clear e1 e2 e3 hV
  generalize bs nm=N at*
  go_enter Tryz.func15,Tryz.ntmps15
  go_wp2_with fail
  refine iy.o.mono ?_
  rintro e w1 ⟨rfl,h1⟩
  have H2:=aa (h1.still ((Below.refl _ w1).alloc (af _) (.cells #[.string ⟨#[]⟩,.int .i64 0,.int .u64 0,.bool false,.string ⟨#[]⟩,.int .u64 0] 46)))
  clear h1 iy
  go_wp2
  go_ret
  exact⟨rfl,H2.o.more (by omega)⟩
 ·rw[e2,e3] at iy
  obtain⟨hm,rfl⟩:=Bk.lJ e4
  by_cases hs:s=1∨s=2
  ·have hV:Bk.setState l b.name s=(Bk.ins l {b with state:=s},0):=by
    unfold Bk.setState
    rw[e2,if_neg (by simp),if_neg (by omega),Bk.Ch hf.1 e4 (fun b=>{b with state:=s}) rfl]
   have ho:Bk.One {b with state:=s}:=by
    have:=hf.one hm
    exact⟨this.name,by show 0≤s;omega,by show s≤2;omega,this.born,this.right,this.after⟩
   have pM:=aa (fun W (hW:BH w rb n l (B+30000) K Q W)=>zQ hW hf {b with state:=s} ho (by omega) hn)
   unfold qV ptr at pM
   rw[hV]
   simp only at pM
   clear hV e1 e2 e3 e4 hm hf ho
   generalize Bk.ins l {b with state:=s}=L2 at*
   generalize bs b.name=N at*
   generalize bs b.pre=PB at*
   generalize b.state=v1 at*
   generalize b.born=v2 at*
   generalize b.on=v3 at*
   generalize b.after=v5 at*
   rcases hs with rfl|rfl
   all_goals
    go_enter Tryz.func15,Tryz.ntmps15
    go_wp2_with fail
    refine iy.o.mono ?_
    rintro e w1 ⟨rfl,h1⟩
    have H2:=aa (h1.still ((Below.refl _ w1).alloc (af _) (.cells #[.string N,.int .i64 v1,.int .u64 v2,.bool v3,.string PB,.int .u64 v5] 46)))
    have fC:=aa (aS.new w1 #[.string N,.int .i64 v1,.int .u64 v2,.bool v3,.string PB,.int .u64 v5] 46)
    have Ax:=aa (show w1.heap.size<(w1.alloc (.cells #[.string N,.int .i64 v1,.int .u64 v2,.bool v3,.string PB,.int .u64 v5] 46)).heap.size by rw[bk];omega)
    have Po:=aa ((Below.refl _ w1).alloc (af _) (.cells #[.string N,.int .i64 v1,.int .u64 v2,.bool v3,.string PB,.int .u64 v5] 46))
    have zl:=aa (fun X2 (hb:Below w1.heap.size w1 X2)=>h1.still hb)
    clear h1 iy
    go_upto_if 15 with fail
    generalize dO w1 _=w2 at*
    generalize w1.heap.size=gb at*
    obtain⟨x0,x1,x2,x3,x4,x5,z0,z1,z2,z3,z4,z5⟩:=we fC.o
    go_wp2_with fail
    refine (pM.o _ (zl.o _ (Po.o.trans ((show aE (fun k=>k=gb) w2 _ from (aE.refl _ w2).setCell _ _ fun _=>rfl).below (Nat.le_of_lt Ax.o) fun k hk e=>by omega)))).mono ?_
    rintro e w3 ⟨rfl,h3⟩
    have H3:=aa h3
    clear h3
    go_wp2
    go_ret
    exact⟨rfl,H3.o.more (by omega)⟩
  ·have hV:Bk.setState l b.name s=(l,30):=by
    unfold Bk.setState
    rw[e2,if_neg (by simp),if_pos (by omega)]
   rw[hV]
   have h1:(s !=1)=true:=by rw[bne_iff_ne];omega
   have h2:(s !=2)=true:=by rw[bne_iff_ne];omega
   clear hV e1 e2 e3 e4 hm hf hs
   generalize bs b.name=N at*
   generalize bs b.pre=PB at*
   generalize b.state=v1 at*
   generalize b.born=v2 at*
   generalize b.on=v3 at*
   generalize b.after=v5 at*
   go_enter Tryz.func15,Tryz.ntmps15
   go_wp2_with fail
   refine iy.o.mono ?_
   rintro e w1 ⟨rfl,h1⟩
   have H2:=aa (h1.still ((Below.refl _ w1).alloc (af _) (.cells #[.string N,.int .i64 v1,.int .u64 v2,.bool v3,.string PB,.int .u64 v5] 46)))
   have fC:=aa (aS.new w1 #[.string N,.int .i64 v1,.int .u64 v2,.bool v3,.string PB,.int .u64 v5] 46)
   have Ax:=aa (show w1.heap.size<(w1.alloc (.cells #[.string N,.int .i64 v1,.int .u64 v2,.bool v3,.string PB,.int .u64 v5] 46)).heap.size by rw[bk];omega)
   have Po:=aa ((Below.refl _ w1).alloc (af _) (.cells #[.string N,.int .i64 v1,.int .u64 v2,.bool v3,.string PB,.int .u64 v5] 46))
   have zl:=aa (fun X2 (hb:Below w1.heap.size w1 X2)=>h1.still hb)
   clear h1 iy
   clear fC Ax zl Po
   go_wp2
   go_ret
   exact⟨rfl,H2.o.more (by omega)⟩
theorem Eo (h:BH w rb n l B K Q X) (hf:Bk.Fit l) (nm:List UInt8) (on:Bool) (pre:List UInt8) (after:Nat) (ha:after<2^64) (hB:B≤50000000) (hn:2*l.length+38≤n):
  Calls Tryz.prog 17 #[ptr rb,.string (bs nm),qM on pre after] X fun e X'=>e=.returned (.int .i64 ((Bk.ed l nm on pre after).2:Nat))∧BH w rb n (Bk.ed l nm on pre after).1 (B+60000) K Q X':=by
 obtain⟨K1,Q1,h0,hout,hq⟩:=h.boxed #[.bool on,.string (bs pre),.int .u64 after] 38
 have HQ:=aa (show ∀Y,Q1 Y→aS Y X.heap.size 38 [.bool on,.string (bs pre),.int .u64 after] from hq)
 have oz:=aa (fun l' B' Y (hY:RH w rb 4 n l' B' K1 Q1 Y)=>hout l' B' Y Y hY (aE.refl _ _))
 have iy:=aa (nY h0 hf nm)
 have Q8:=aa (fun W=>vS on pre after W)
 unfold ptr at iy ⊢
 unfold qV at iy
 unfold qM at Q8 ⊢
 clear h h0 hq hout
 rcases Bk.jy l nm with⟨e1,e2,e3⟩|⟨e1,e4,e2,e3⟩|⟨b,e1,e4,e2,e3⟩
 ·have hV:Bk.ed l nm on pre after=(l,28):=by unfold Bk.ed;rw[e2];rfl
  rw[hV]
  rw[e2,e3] at iy
  clear e1 e2 e3 hV Q8
  generalize bs nm=N at*
  generalize bs pre=P2 at*
  go_enter Tryz.func17,Tryz.ntmps17
  go_wp2_with fail
  refine iy.o.mono ?_
  rintro e w1 ⟨rfl,h1⟩
  have H2:=aa (oz.o _ _ _ (h1.still ((Below.refl _ w1).alloc (af _) (.cells #[.string ⟨#[]⟩,.int .i64 0,.int .u64 0,.bool false,.string ⟨#[]⟩,.int .u64 0] 46))))
  clear h1 iy
  go_wp2
  go_ret
  exact⟨rfl,H2.o.more (by omega)⟩
 ·have hV:Bk.ed l nm on pre after=(l,20):=by unfold Bk.ed;rw[e2];rfl
  rw[hV]
  rw[e2,e3] at iy
  clear e1 e2 e3 hV Q8
  generalize bs nm=N at*
  generalize bs pre=P2 at*
  go_enter Tryz.func17,Tryz.ntmps17
  go_wp2_with fail
  refine iy.o.mono ?_
  rintro e w1 ⟨rfl,h1⟩
  have H2:=aa (oz.o _ _ _ (h1.still ((Below.refl _ w1).alloc (af _) (.cells #[.string ⟨#[]⟩,.int .i64 0,.int .u64 0,.bool false,.string ⟨#[]⟩,.int .u64 0] 46))))
  clear h1 iy
  go_wp2
  go_ret
  exact⟨rfl,H2.o.more (by omega)⟩
 ·rw[e2,e3] at iy
  obtain⟨hm,rfl⟩:=Bk.lJ e4
  cases hw:Bk.wrong on pre after with
  |false=>
   have hV:Bk.ed l b.name on pre after=(Bk.ins l {b with on:=on,pre:=pre,after:=after},0):=by
    unfold Bk.ed
    rw[e2,if_neg (by simp),hw,if_neg (by decide),Bk.Ch hf.1 e4 (fun b=>{b with on:=on,pre:=pre,after:=after}) rfl]
   have ho:Bk.One {b with on:=on,pre:=pre,after:=after}:=by
    have:=hf.one hm
    exact⟨this.name,this.low,this.high,this.born,hw,ha⟩
   have pM:=aa (fun W (hW:BH w rb n l (B+30000) K1 Q1 W)=>zQ hW hf {b with on:=on,pre:=pre,after:=after} ho (by omega) hn)
   unfold qV ptr at pM
   rw[hV]
   rw[hw] at Q8
   simp only at pM
   clear hV e1 e2 e3 e4 hm hf ho hw
   generalize Bk.ins l {b with on:=on,pre:=pre,after:=after}=L2 at*
   generalize bs b.name=N at*
   generalize bs b.pre=PB at*
   generalize bs pre=P2 at*
   generalize b.state=v1 at*
   generalize b.born=v2 at*
   generalize b.on=v3 at*
   generalize b.after=v5 at*
   go_enter Tryz.func17,Tryz.ntmps17
   go_wp2_with fail
   generalize dO X _=X0 at*
   generalize X.heap.size=bb at*
   refine iy.o.mono ?_
   rintro e w1 ⟨rfl,h1⟩
   have H2:=aa (h1.still ((Below.refl _ w1).alloc (af _) (.cells #[.string N,.int .i64 v1,.int .u64 v2,.bool v3,.string PB,.int .u64 v5] 46)))
   have fC:=aa (aS.new w1 #[.string N,.int .i64 v1,.int .u64 v2,.bool v3,.string PB,.int .u64 v5] 46)
   have Ax:=aa (show w1.heap.size<(w1.alloc (.cells #[.string N,.int .i64 v1,.int .u64 v2,.bool v3,.string PB,.int .u64 v5] 46)).heap.size by rw[bk];omega)
   have Po:=aa ((Below.refl _ w1).alloc (af _) (.cells #[.string N,.int .i64 v1,.int .u64 v2,.bool v3,.string PB,.int .u64 v5] 46))
   have zl:=aa (fun X2 (hb:Below w1.heap.size w1 X2)=>h1.still hb)
   clear h1 iy
   go_upto_if 15 with fail
   generalize dO w1 _=w2 at*
   generalize w1.heap.size=gb at*
   have jS:=HQ.o _ H2.o.q
   have r0:=jS.cell (j:=0) rfl
   have r1:=jS.cell (j:=1) rfl
   have r2:=jS.cell (j:=2) rfl
   clear jS
   go_wp2_with fail
   refine (Q8.o _).mono ?_
   rintro e w3 ⟨rfl,bY⟩
   have H3:=aa (H2.o.still bY)
   have p8:=aa (fC.o.below bY Ax.o)
   have HW3:=aa (Po.o.trans (bY.mono (Nat.le_of_lt Ax.o)))
   have OA:=aa (cW Ax.o bY.size)
   obtain⟨x0,x1,x2,x3,x4,x5,z0,z1,z2,z3,z4,z5⟩:=we p8.o
   have Cs:=HQ.o _ H3.o.q
   clear r0 r1 r2
   have r0:=Cs.cell (j:=0) rfl
   have r1:=Cs.cell (j:=1) rfl
   have r2:=Cs.cell (j:=2) rfl
   clear bY Cs fC Ax Po
   go_wp2_with fail
   have hq:aE (fun k=>k=gb) w3 (((w3.setCell ⟨gb,3,none⟩ (.bool on)).setCell ⟨gb,4,none⟩ (.string P2)).setCell ⟨gb,5,none⟩ (.int .u64 after)):=by
    have c:∀(Y:World) (j:Nat) (v:Value),aE (fun k=>k=gb) w3 Y→aE (fun k=>k=gb) w3 (Y.setCell ⟨gb,j,none⟩ v):=fun Y j v hY=>hY.setCell _ _ fun _=>rfl
    exact c _ _ _ (c _ _ _ (c _ _ _ (aE.refl _ w3)))
   refine (pM.o _ (zl.o _ (HW3.o.trans (hq.below (Nat.le_of_lt OA.o) fun k hk e=>by omega)))).mono ?_
   rintro e w4 ⟨rfl,h4⟩
   have H4:=aa h4
   clear h4 hq
   go_wp2
   go_ret
   exact⟨rfl,(oz.o _ _ _ H4.o).more (by omega)⟩
  |true=>
   have hV:Bk.ed l b.name on pre after=(l,30):=by
    unfold Bk.ed
    rw[e2,if_neg (by simp),hw,if_pos rfl]
   rw[hV]
   rw[hw] at Q8
   clear hV e1 e2 e3 e4 hm hf hw
   generalize bs b.name=N at*
   generalize bs b.pre=PB at*
   generalize bs pre=P2 at*
   generalize b.state=v1 at*
   generalize b.born=v2 at*
   generalize b.on=v3 at*
   generalize b.after=v5 at*
   go_enter Tryz.func17,Tryz.ntmps17
   go_wp2_with fail
   generalize dO X _=X0 at*
   generalize X.heap.size=bb at*
   refine iy.o.mono ?_
   rintro e w1 ⟨rfl,h1⟩
   have H2:=aa (h1.still ((Below.refl _ w1).alloc (af _) (.cells #[.string N,.int .i64 v1,.int .u64 v2,.bool v3,.string PB,.int .u64 v5] 46)))
   have fC:=aa (aS.new w1 #[.string N,.int .i64 v1,.int .u64 v2,.bool v3,.string PB,.int .u64 v5] 46)
   have Ax:=aa (show w1.heap.size<(w1.alloc (.cells #[.string N,.int .i64 v1,.int .u64 v2,.bool v3,.string PB,.int .u64 v5] 46)).heap.size by rw[bk];omega)
   have Po:=aa ((Below.refl _ w1).alloc (af _) (.cells #[.string N,.int .i64 v1,.int .u64 v2,.bool v3,.string PB,.int .u64 v5] 46))
   have zl:=aa (fun X2 (hb:Below w1.heap.size w1 X2)=>h1.still hb)
   clear h1 iy
   clear fC Ax zl Po
   go_upto_if 15 with fail
   generalize dO w1 _=w2 at*
   generalize w1.heap.size=gb at*
   have jS:=HQ.o _ H2.o.q
   have r0:=jS.cell (j:=0) rfl
   have r1:=jS.cell (j:=1) rfl
   have r2:=jS.cell (j:=2) rfl
   clear jS
   go_wp2_with fail
   refine (Q8.o _).mono ?_
   rintro e w3 ⟨rfl,bY⟩
   have H3:=aa (oz.o _ _ _ (H2.o.still bY))
   clear bY H2
   go_wp2
   go_ret
   exact⟨rfl,H3.o.more (by omega)⟩
end
section
variable {w X:World} {rb n B:Nat} {l:List Bk.B} {K:Nat→Prop} {Q:World→Prop}
theorem zR (h:BH w rb n l B K Q X) (hf:Bk.Fit l) (nm:List UInt8) (now:Nat) (hw:now<2^64) (hB:B≤50000000) (hn:2*l.length+38≤n):
  Calls Tryz.prog 10 #[ptr rb,.string (bs nm),.int .u64 now] X fun e X'=>e=.returned (.int .i64 ((Bk.make l nm now).2:Nat))∧BH w rb n (Bk.make l nm now).1 (B+60000) K Q X':=by
 have iy:=aa (nY h hf nm)
 unfold ptr at iy ⊢
 unfold qV at iy
 clear h
 rcases Bk.jy l nm with⟨e1,e2,e3⟩|⟨e1,e4,e2,e3⟩|⟨b,e1,e4,e2,e3⟩
 ·have hV:Bk.make l nm now=(l,28):=by unfold Bk.make;rw[e1];rfl
  rw[hV]
  rw[e2,e3] at iy
  clear e1 e2 e3 hV
  generalize bs nm=N at*
  go_enter Tryz.func10,Tryz.ntmps10
  go_wp2_with fail
  refine iy.o.mono ?_
  rintro e w1 ⟨rfl,h1⟩
  have H2:=aa (h1.still ((Below.refl _ w1).alloc (af _) (.cells #[.string ⟨#[]⟩,.int .i64 0,.int .u64 0,.bool false,.string ⟨#[]⟩,.int .u64 0] 46)))
  clear h1 iy
  go_wp2
  go_ret
  exact⟨rfl,H2.o.more (by omega)⟩
 ·have hV:Bk.make l nm now=(Bk.ins l ⟨nm,0,now,false,[],0⟩,0):=by unfold Bk.make;rw[e1,e4];rfl
  have ho:Bk.One ⟨nm,0,now,false,[],0⟩:=⟨e1,by show (0:Int)≤0;decide,by show (0:Int)≤2;decide,hw,rfl,by show 0<2^64;decide⟩
  have pM:=aa (fun W (hW:BH w rb n l (B+30000) K Q W)=>zQ hW hf ⟨nm,0,now,false,[],0⟩ ho (by omega) hn)
  unfold qV ptr at pM
  rw[hV]
  rw[e2,e3] at iy
  simp only at pM
  clear e1 e2 e3 e4 hV ho hf
  generalize Bk.ins l ⟨nm,0,now,false,[],0⟩=L2 at*
  generalize bs nm=N at*
  go_enter Tryz.func10,Tryz.ntmps10
  go_wp2_with fail
  refine iy.o.mono ?_
  rintro e w1 ⟨rfl,h1⟩
  have H2:=aa (h1.still ((Below.refl _ w1).alloc (af _) (.cells #[.string ⟨#[]⟩,.int .i64 0,.int .u64 0,.bool false,.string ⟨#[]⟩,.int .u64 0] 46)))
  clear h1 iy
  go_wp2_with fail
  refine (pM.o _ H2.o).mono ?_
  rintro e w3 ⟨rfl,h3⟩
  have H3:=aa h3
  clear h3 H2
  go_wp2
  go_ret
  exact⟨rfl,H3.o.more (by omega)⟩
 ·have hV:Bk.make l nm now=(l,21):=by unfold Bk.make;rw[e1,e4];rfl
  rw[hV]
  rw[e2,e3] at iy
  clear e1 e2 e3 e4 hV hf
  generalize bs nm=N at*
  generalize bs b.name=NB at*
  generalize bs b.pre=PB at*
  go_enter Tryz.func10,Tryz.ntmps10
  go_wp2_with fail
  refine iy.o.mono ?_
  rintro e w1 ⟨rfl,h1⟩
  have H2:=aa (h1.still ((Below.refl _ w1).alloc (af _) (.cells #[.string NB,.int .i64 b.state,.int .u64 b.born,.bool b.on,.string PB,.int .u64 b.after] 46)))
  clear h1 iy
  go_wp2
  go_ret
  exact⟨rfl,H2.o.more (by omega)⟩
theorem Ep (h:BH w rb n l B K Q X) (hf:Bk.Fit l) (b:Bk.B) (hb:b.born<2^64) (ha:b.after<2^64) (hB:B≤50000000) (hn:2*l.length+38≤n):
  Calls Tryz.prog 21 #[ptr rb,qV b] X fun e X'=>e=.returned (.int .i64 ((Bk.restore l b).2:Nat))∧BH w rb n (Bk.restore l b).1 (B+60000) K Q X':=by
 obtain⟨K1,Q1,h0,hout,hq⟩:=h.boxed #[.string (bs b.name),.int .i64 b.state,.int .u64 b.born,.bool b.on,.string (bs b.pre),.int .u64 b.after] 46
 have HQ:=aa (show ∀Y,Q1 Y→aS Y X.heap.size 46 [.string (bs b.name),.int .i64 b.state,.int .u64 b.born,.bool b.on,.string (bs b.pre),.int .u64 b.after] from hq)
 have oz:=aa (fun l' B' Y (hY:RH w rb 4 n l' B' K1 Q1 Y)=>hout l' B' Y Y hY (aE.refl _ _))
 have yt:=aa (sQ h0 (bs b.name))
 have LD:=aa (fun W=>qN b W)
 have Ft:=aa h0
 rw[bO] at yt
 unfold ptr at yt ⊢
 clear h h0 hq hout
 cases hv:Nm.bucket b.name with
 |false=>
  have hV:Bk.restore l b=(l,28):=by unfold Bk.restore;rw[hv];rfl
  rw[hV]
  rw[hv,if_neg (by decide)] at yt
  unfold qV
  clear hV hv LD hf Ft
  generalize bs b.name=NB at*
  generalize bs b.pre=PB at*
  go_enter Tryz.func21,Tryz.ntmps21
  go_wp2_with fail
  generalize dO X _=X0 at*
  refine yt.o.mono ?_
  rintro e w1 ⟨rfl,h1⟩
  have H1:=aa (oz.o _ _ _ h1)
  clear h1 yt
  go_wp2
  go_ret
  exact⟨rfl,H1.o.more (by omega)⟩
 |true=>
  rw[hv,if_pos rfl] at yt
  by_cases hc:b.state<0∨2<b.state∨Bk.wrong b.on b.pre b.after=true
  ·have hV:Bk.restore l b=(l,30):=by unfold Bk.restore;rw[hv,if_neg (by decide),if_pos hc]
   have hI:(decide (0≤b.state)&&decide (b.state≤2)&& !Bk.wrong b.on b.pre b.after)=false:=by
    rcases hc with hc|hc|hc
    ·rw[decide_eq_false (by omega:¬0≤b.state)];rfl
    ·rw[decide_eq_false (by omega:¬b.state≤2),Bool.and_false,Bool.false_and]
    ·rw[hc];simp
   rw[hV]
   rw[hI] at LD
   unfold qV at LD ⊢
   clear hV hv hf Ft hI hc
   generalize bs b.name=NB at*
   generalize bs b.pre=PB at*
   go_enter Tryz.func21,Tryz.ntmps21
   go_wp2_with fail
   generalize dO X _=X0 at*
   generalize X.heap.size=bb at*
   refine yt.o.mono ?_
   rintro e w1 ⟨rfl,h1⟩
   have H1:=aa h1
   obtain⟨x0,x1,x2,x3,x4,x5⟩:=six (HQ.o _ h1.q)
   clear h1 yt
   go_wp2_with fail
   refine (LD.o _).mono ?_
   rintro e w2 ⟨rfl,aP⟩
   have H2:=aa (oz.o _ _ _ (H1.o.still aP))
   clear aP H1 x0 x1 x2 x3 x4 x5
   go_wp2
   go_ret
   exact⟨rfl,H2.o.more (by omega)⟩
  ·have hV:Bk.restore l b=(Bk.ins l b,0):=by unfold Bk.restore;rw[hv,if_neg (by decide),if_neg hc]
   have hr:Bk.wrong b.on b.pre b.after=false:=by
    cases hr:Bk.wrong b.on b.pre b.after with
    |false=>rfl
    |true=>exact absurd (.inr (.inr hr)) hc
   have ho:Bk.One b:=⟨hv,by omega,by omega,hb,hr,ha⟩
   have hI:(decide (0≤b.state)&&decide (b.state≤2)&& !Bk.wrong b.on b.pre b.after)=true:=by
    rw[decide_eq_true ho.low,decide_eq_true ho.high,hr];rfl
   have pM:=aa (fun W (hW:BH w rb n l B K1 Q1 W)=>zQ hW hf b ho (by omega) hn)
   rw[hV]
   rw[hI] at LD
   unfold qV at LD pM ⊢
   unfold ptr at pM
   clear hV hv hf Ft hI hc hr ho
   generalize Bk.ins l b=L2 at*
   generalize bs b.name=NB at*
   generalize bs b.pre=PB at*
   go_enter Tryz.func21,Tryz.ntmps21
   go_wp2_with fail
   generalize dO X _=X0 at*
   generalize X.heap.size=bb at*
   refine yt.o.mono ?_
   rintro e w1 ⟨rfl,h1⟩
   have H1:=aa h1
   obtain⟨x0,x1,x2,x3,x4,x5⟩:=six (HQ.o _ h1.q)
   clear h1 yt
   go_wp2_with fail
   refine (LD.o _).mono ?_
   rintro e w2 ⟨rfl,aP⟩
   have H2:=aa (H1.o.still aP)
   clear aP H1 x0 x1 x2 x3 x4 x5
   obtain⟨x0,x1,x2,x3,x4,x5⟩:=six (HQ.o _ H2.o.q)
   go_wp2_with fail
   refine (pM.o _ H2.o).mono ?_
   rintro e w3 ⟨rfl,h3⟩
   have H3:=aa (oz.o _ _ _ h3)
   clear h3 H2 x0 x1 x2 x3 x4 x5
   go_wp2
   go_ret
   exact⟨rfl,H3.o.more (by omega)⟩
end
end
end Go.Proofs.YtebbahjombdalaaGreatDoor
