/- Elder texts, cut down and merged (19). -/
import Derived.Test.YtebbahjombdalaaGreatDoorP18
import Derived.Laws.ResultCell
import Derived.Deep.RegionHeldLaw
import Derived.Test.YtebbahjombdalaaGreatDoorRpt
import Derived.Lib.Bytealg
import Derived.Lib.IndexLaws
import Derived.Test.YtebbahjombdalaaGreatDoorPTk
set_option maxRecDepth 100000
set_option maxHeartbeats 8000000
namespace Go.Proofs.YtebbahjombdalaaGreatDoor
open List renaming mem_cons→aQ,length_append→aq,append_assoc→aB,length_take→aN,length_drop→aT,drop_eq_getElem_cons→cm,drop_of_length_le→pK,replicate→bg,getElem_mem→bB,setIfInBounds_toArray→az,set_cons_succ→ay,set_cons_zero→au,getElem?_eq_getElem→aJ,take_succ_eq_append_getElem→cI,mem_append→ah,mem_singleton→cH,cons_append→gD,length_singleton→eH,length_cons→aW,getElem?_map→cJ
open Bool renaming eq_iff_iff→jc,and_eq_true→fy
open Nat renaming le_refl→af,le_trans→aG,zero_le→aC,add_assoc→gd,lt_of_lt_of_le→cW,lt_or_ge→dw,zero_add→bV
open World renaming drew→bD,size_alloc→bk,alloc→dO
open _root_.Array renaming length_toList→aZ
section
open Go.RowKit Lib
def Om (f:Pk.Fd):Value:=.agg #[.int .u64 f.n,.string (bs f.s)]
def gw:Elem Pk.Fd:=⟨fun f=>[.int .u64 f.n,.string (bs f.s)],2,by decide,fun _=>rfl,fun f u hu=>by
 simp only[aQ,List.not_mem_nil,or_false] at hu
 rcases hu with rfl|rfl<;>rfl⟩
theorem UR:dD Tryz.prog 130 134 gw.size:=dD.of (size:=2) (bytes:=24) (z:=.agg #[.int .u64 0,.string .empty]) Tryz.underlying130 (by kernel_rfl) rfl (by decide)
theorem Eb (n w:Nat):((n:Int)/2^(8*w)==0)=decide (n<256^w):=by
 have e:(n:Int)/2^(8*w)=((n/256^w:Nat):Int):=by
  rw[Int.natCast_ediv]
  congr 1
  rw[show (256:Nat)=2^8 from rfl,←Nat.pow_mul,Int.natCast_pow]
  rfl
 rw[e,jc,beq_iff_eq,decide_eq_true_eq]
 have hp:0<256^w:=Nat.pow_pos (by decide)
 constructor
 ·intro h
  have h':n/256^w=0:=by omega
  exact (Nat.div_eq_zero_iff_lt hp).1 h'
 ·intro h
  have h':n/256^w=0:=(Nat.div_eq_zero_iff_lt hp).2 h
  omega
theorem vT (l:List UInt8):bs l=⟨#[]⟩↔l=[]:=by
 constructor
 ·intro h
  have:=congrArg ByteArray.size h
  rw[aK] at this
  exact List.eq_nil_of_length_eq_zero this
 ·rintro rfl;rfl
theorem qO {B:Nat} {w:World} (_:B≤w.heap.size) (m:Nat):Below B w (w.drewN m):=⟨rfl,rfl,rfl,af _,fun _ _=>rfl⟩
namespace Pk
theorem yj {c:UInt8} {f:Fd} (h:width c≠0):eN c f=if f.s=[]∧f.n<256^width c then some (Wl.enc (width c) f.n) else none:=by unfold eN;rw[if_pos h]
theorem vU (f:Fd):eN 116 f=if f.n=0∧f.s.length≤65535 then some (Wl.enc 2 f.s.length++f.s) else none:=by
 unfold eN
 rw[if_neg (by decide),if_neg (by decide:¬(116:UInt8)=114)]
 by_cases h:f.n=0
 ·by_cases h2:f.s.length≤65535
  ·rw[if_neg (by simpa using h),if_neg (by omega),if_pos ⟨h,h2⟩]
  ·rw[if_neg (by simpa using h),if_pos (by omega),if_neg (fun e=>h2 e.2)]
 ·rw[if_pos h,if_neg (fun e=>h e.1)]
theorem vV (f:Fd):eN 114 f=if f.n=0 then some f.s else none:=by
 unfold eN
 rw[if_neg (by decide),if_pos rfl]
 by_cases h:f.n=0
 ·rw[if_neg (by simpa using h),if_pos h]
 ·rw[if_pos h,if_neg h]
theorem kM {c:UInt8} (h:(c=110∧(c.toNat:Int)=110∧width c=8)∨(c=104∧(c.toNat:Int)=104∧width c=4)∨(c=98∧(c.toNat:Int)=98∧width c=1)):width c≠0∧((c.toNat:Int)==116)=false∧((c.toNat:Int)==114)=false:=by
 rcases h with⟨rfl,_,_⟩|⟨rfl,_,_⟩|⟨rfl,_,_⟩<;>decide
theorem nB {c:UInt8} (h:letter c true=true):(width c≠0∧((c.toNat:Int)==116)=false∧((c.toNat:Int)==114)=false)∨(c=116∧(c.toNat:Int)=116)∨(c=114∧(c.toNat:Int)=114):=by
 rcases zM c with⟨h1,h2,h3,_⟩|⟨h1,h2,h3,_⟩|⟨h1,h2,h3,_⟩|⟨h1,h2,_,_⟩|⟨h1,h2,_,_⟩|⟨_,_,h4⟩
 ·exact .inl (kM (.inl ⟨h1,h2,h3⟩))
 ·exact .inl (kM (.inr (.inl ⟨h1,h2,h3⟩)))
 ·exact .inl (kM (.inr (.inr ⟨h1,h2,h3⟩)))
 ·exact .inr (.inl ⟨h1,h2⟩)
 ·exact .inr (.inr ⟨h1,h2⟩)
 ·rw[h4] at h;cases h
end Pk
theorem B4 (c:UInt8) (f:Pk.Fd) (w:World) (hc:Pk.letter c true=true) (hn:f.n<2^64) (hs:f.s.length≤1000000):
  Calls Tryz.prog 111 #[.int .u8 c.toNat,Om f] w fun e w'=>e=.returned (.bool (Pk.eN c f).isSome)∧Below w.heap.size w w':=by
 obtain⟨n,s⟩:=f
 unfold Om
 simp only at hn hs ⊢
 have hsz:=aK s
 have hnil:=vT s
 have bF:Below w.heap.size w (w.alloc (.cells #[.int .u64 n,.string (bs s)] 134)):=(Below.refl _ _).alloc (af _) _
 rcases Pk.nB hc with⟨h0,h1,h2⟩|⟨rfl,h1⟩|⟨rfl,h1⟩
 ·rw[Pk.yj h0]
  have hz:=Eb n (Pk.width c)
  have YX:=Pk.qK c
  have IA:=fun W=>mB c W
  generalize (c.toNat:Int)=x at*
  obtain⟨X,hX⟩:∃X,X=bs s:=⟨_,rfl⟩
  rw[←hX] at hsz hnil bF ⊢
  generalize Pk.width c=wd at*
  clear h0 hc
  by_cases hss:s=[]
  ·have hXe:X=⟨#[]⟩:=hnil.2 hss
   subst hXe
   have HV:(if s=[]∧n<256^wd then some (Wl.enc wd n) else none).isSome=decide (n<256^wd):=by
    by_cases h:n<256^wd
    ·rw[if_pos ⟨hss,h⟩,decide_eq_true h];rfl
    ·rw[if_neg (fun e=>h e.2),decide_eq_false h];rfl
   rw[HV,←hz]
   have aa6:(wd:Int)≤8:=by omega
   clear hnil hss hsz HV hz
   have HH:=aa IA
   have HB:=aa bF
   clear IA bF hX
   go_enter Tryz.func111,Tryz.ntmps111
   go_wp2_with fail
   go_quiet ((go_at_call 128;exact Calls.quiet_of_same (HH.o _)))
   go_wp2
   go_ret
   exact⟨rfl,HB.o.trans (qO HB.o.size _)⟩
  ·have hXe:X.toList.isEmpty=false:=by
    rw[hX,bE]
    cases s with
    |nil=>exact absurd rfl hss
    |cons _ _=>rfl
   have HV:(if s=[]∧n<256^wd then some (Wl.enc wd n) else none).isSome=false:=by
    rw[if_neg (fun e=>hss e.1)];rfl
   rw[HV]
   clear hnil hss hsz hX HV hz
   have HH:=aa IA
   have HB:=aa bF
   clear IA bF
   go_enter Tryz.func111,Tryz.ntmps111
   go_wp2_with fail
   go_quiet (fail)
   go_wp2
   go_ret
   exact⟨rfl,HB.o.trans (qO HB.o.size _)⟩
 ·rw[Pk.vU]
  generalize ((116:UInt8).toNat:Int)=x at*
  subst h1
  simp only
  obtain⟨X,hX⟩:∃X,X=bs s:=⟨_,rfl⟩
  rw[←hX] at hsz bF ⊢
  have HV:(if n=0∧s.length≤65535 then some (Wl.enc 2 s.length++s) else none).isSome=(decide (n=0)&&decide (X.size≤65535)):=by
   rw[hsz]
   by_cases h:n=0<;>by_cases h2:s.length≤65535<;>simp[h,h2]
  rw[HV]
  have xk:(X.size:Int)≤1000000:=by omega
  clear hnil HV hsz hX hc
  have HB:=aa bF
  clear bF
  by_cases h:n=0
  ·subst h
   by_cases h2:X.size≤65535
   ·have RU:(X.size:Int)≤65535:=by omega
    rw[decide_eq_true h2]
    go_enter Tryz.func111,Tryz.ntmps111
    go_wp2
    go_ret
    exact⟨rfl,HB.o⟩
   ·have RU:¬(X.size:Int)≤65535:=by omega
    rw[decide_eq_false h2]
    go_enter Tryz.func111,Tryz.ntmps111
    go_wp2
    go_ret
    exact⟨rfl,HB.o⟩
  ·have hI:((n:Int)==0)=false:=by rw[beq_eq_false_iff_ne];omega
   rw[decide_eq_false h]
   go_enter Tryz.func111,Tryz.ntmps111
   go_wp2
   go_ret
   exact⟨rfl,HB.o⟩
 ·rw[Pk.vV]
  generalize ((114:UInt8).toNat:Int)=x at*
  subst h1
  simp only
  have HB:=aa bF
  clear bF hnil hsz hc
  have HV:(if n=0 then some s else none).isSome=((n:Int)==0):=by
   by_cases h:n=0<;>simp[h]
  rw[HV]
  clear HV
  go_enter Tryz.func111,Tryz.ntmps111
  go_wp2
  go_ret
  exact⟨rfl,HB.o⟩
theorem On:∃i,Tryz.prog.info? 5=some i∧i.zero=some (.int .u8 0)∧i.size=1∧i.bytes=1:=jZ (P:=Tryz.prog) (E:=5) (size:=1) (bytes:=1) (z:=.int .u8 0) (by kernel_rfl)
theorem B5 (s:List UInt8):Lib.strCells (bs s)=dP.cells s:=by
 rw[show dP.cells s=s.map bL from cM _ _ _]
 unfold Lib.strCells
 rfl
theorem ji {B:Nat} {w:World} {v:Value} {l:List UInt8} {ops:Array Oper} {rest:List Oper} {o:Oper} {a:Act} {Q:Exit→Act→World→Prop} (hgd:o.guard=none) (x y:Operand)
  (ho:o.op=.call {callee:=.builtin .append,args:=#[x,y],argTypes:=#[94,9]})
  (hs:a.eval x=v) (hown:gi B w v l) (hB:B≤w.heap.size) (s:List UInt8) (hx:a.eval y=.string (bs s)) (hlen:l.length+s.length≤900000000)
  (h:∀v' w',gi B w' v' (l++s)→w.grownBy w' v.ownBlock→wpList Tryz.prog ops Q rest (a.put o.dst v') w'):wpList Tryz.prog ops Q (o::rest) a w:=by
 obtain⟨i,hi,hz,hsize,hby⟩:=On
 have hsz:=aK s
 refine wpList_append_own_string (P:=Tryz.prog) w hgd x y 94 9 ho B 5 i Tryz.underlying94 Tryz.underlying9 hi hz hsize hby v l.length (dP.cells l) hs hown (bs s) hx (by unfold maxLen;omega) (by omega) hB ?_
 intro v' w' h1 h2 _
 refine h v' w' ?_ h2
 unfold gi Own
 rw[aq,dP.bW,←B5 s,←hsz]
 exact h1
theorem jN {B:Nat} {w w' w'':World} {v:Value} {l:List UInt8} (h:Below B w w') (ho:gi B w' v l) (hB:B≤w.heap.size) (hg:w'.grownBy w'' v.ownBlock):Below B w w'':=
 h.trans ((aE.pV hg).below (aG hB h.size) (fun k hk e=>by have:=(ho.block k e).1;omega))
theorem qP {B:Nat} {w w' w'':World} {v:Value} {l:List UInt8} (h:Below B w w') (ho:gi B w' v l) (hB:B≤w.heap.size) (hb:aE (fun k=>v.ownBlock=some k) w'.drew w''):Below B w w'':=
 h.trans (((aE.refl (fun k=>v.ownBlock=some k) w').drew.trans hb (fun _ _ h=>h)).below (aG hB h.size) (fun k hk e=>by
  have:=(ho.block k e).1;omega))
theorem xe {B:Nat} {w w' w'':World} {v:Value} {l:List UInt8} (h:Below B w w') (ho:gi B w' v l) (hB:B≤w.heap.size) (hb:aE (fun k=>v.ownBlock=some k) w' w''):Below B w w'':=
 h.trans (hb.below (aG hB h.size) (fun k hk e=>by
  have:=(ho.block k e).1;omega))
theorem sY (c:UInt8) (f:Pk.Fd) (t:List UInt8) (B:Nat) (w:World) (v:Value) (l:List UInt8) (hf:Pk.eN c f=some t) (hc:Pk.letter c true=true) (hown:gi B w v l) (hB:B≤w.heap.size) (hl:l.length≤100000000) (hn:f.n<2^64) (hs:f.s.length≤1000000):
  Calls Tryz.prog 112 #[v,.int .u8 c.toNat,Om f] w fun e w'=>∃v',e=.returned v'∧gi B w' v' (l++t)∧Below B w w':=by
 obtain⟨n,s⟩:=f
 unfold Om
 simp only at hn hs ⊢
 have hsz:=aK s
 have bF:Below B w (w.alloc (.cells #[.int .u64 n,.string (bs s)] 134)):=(Below.refl _ _).alloc hB _
 have qU:gi B (w.alloc (.cells #[.int .u64 n,.string (bs s)] 134)) v l:=hown.alloc _
 have Iy:=aG hB bF.size
 have HO:=aa (And.intro qU (And.intro bF (And.intro hB Iy)))
 rcases Pk.nB hc with⟨h0,h1,h2⟩|⟨rfl,h1⟩|⟨rfl,h1⟩
 ·rw[Pk.yj h0] at hf
  have ht:s=[]∧t=Wl.enc (Pk.width c) n:=by
   split at hf
   ·next h=>injection hf with hf;exact⟨h.1,hf.symm⟩
   ·cases hf
  obtain⟨rfl,rfl⟩:=ht
  have YX:=Pk.qK c
  have IA:=aa (fun W=>mB c W)
  have Nc:=aa (fun (W:World) (h:gi B W v l) (hb:B≤W.heap.size)=>ku B W v l n (Pk.width c) h hb (by omega) hn YX)
  generalize (c.toNat:Int)=x at*
  generalize Pk.width c=wd at*
  generalize bs []=X at*
  clear h0 hc hown bF qU Iy hf hn hsz
  go_enter Tryz.func112,Tryz.ntmps112
  go_wp2_with (refine wp_region_any (by kernel_rfl) ?_;refine Hid.o ?_)
  refine aa ?_
  try (change wpAny _ _ _ _ _ _ _ (bD _))
  refine tk 0 ?_
  refine tk 1 ?_
  refine tk 3 ?_
  refine rd [2,4] (AllReady.cons rfl (fun K hK=> ?_) (rn fun K hK=> ?_))
  focus
   go_simp
   refine hK _ _ ?_;clear hK K
   refine rd [4] (rn fun K hK=> ?_)
   go_simp
   refine (IA.o _).mono ?_
   rintro e w1 ⟨rfl,rfl⟩
   refine hK _ _ ?_;clear hK K
   refine rd [5] (rn fun K hK=> ?_)
   go_simp
   refine (Nc.o _ HO.o.1.drew HO.o.2.2.2).mono ?_
   rintro e w1 ⟨v1,rfl,fD,Ec,_⟩
   have aP:=qP HO.o.2.1 HO.o.1 HO.o.2.2.1 Ec
   refine hK _ _ ?_;clear hK K
   refine rd [6] (rn fun K hK=> ?_)
   go_simp
   refine hK _ _ ?_;clear hK K
  rotate_left
  focus
   go_simp
   refine (IA.o _).mono ?_
   rintro e w1 ⟨rfl,rfl⟩
   refine hK _ _ ?_;clear hK K
   refine rd [2] (rn fun K hK=> ?_)
   go_simp
   refine hK _ _ ?_;clear hK K
   refine rd [5] (rn fun K hK=> ?_)
   go_simp
   refine (Nc.o _ HO.o.1.drew HO.o.2.2.2).mono ?_
   rintro e w1 ⟨v1,rfl,fD,Ec,_⟩
   have aP:=qP HO.o.2.1 HO.o.1 HO.o.2.2.1 Ec
   refine hK _ _ ?_;clear hK K
   refine rd [6] (rn fun K hK=> ?_)
   go_simp
   refine hK _ _ ?_;clear hK K
  all_goals
   refine wpAny_done (by kernel_rfl) ?_ _
   go_wp2
   go_ret
   exact⟨_,rfl,fD,aP⟩
 ·rw[Pk.vU] at hf
  have ht:n=0∧s.length≤65535∧t=Wl.enc 2 s.length++s:=by
   split at hf
   ·next h=>injection hf with hf;exact⟨h.1,h.2,hf.symm⟩
   ·cases hf
  obtain⟨rfl,VG,rfl⟩:=ht
  generalize ((116:UInt8).toNat:Int)=x at*
  subst h1
  have Nc:=aa (fun (W:World) (h:gi B W v l) (hb:B≤W.heap.size)=>ku B W v l s.length 2 h hb (by omega) (by omega) (by decide))
  have US:=aa hown
  have HL:=aa (show l.length≤100000000∧s.length≤65535 from⟨hl,VG⟩)
  have xk:((bs s).size:Int)=(s.length:Nat):=by omega
  have aa7:(s.length:Int)≤65535:=by omega
  obtain⟨X,hX⟩:∃X,X=bs s:=⟨_,rfl⟩
  have HX:=aa hX
  rw[←hX] at xk HO ⊢
  clear hown bF qU Iy hf hn hsz hX hc VG hl
  go_enter Tryz.func112,Tryz.ntmps112
  go_wp2_with fail
  refine (Nc.o _ HO.o.1 HO.o.2.2.2).mono ?_
  rintro e w1 ⟨v1,rfl,fD,Ec,TE⟩
  have hcell:w1.cell? ⟨w.heap.size,1,none⟩=some (.string X):=Ec.cell ((aS.new w #[.int .u64 0,.string X] 134).cell rfl) (fun e=>by have:=(US.o.block _ e).2;exact absurd this (Nat.lt_irrefl _))
  have hR:=aa (And.intro fD (xe HO.o.2.1 HO.o.1 HO.o.2.2.1 Ec))
  clear fD Ec TE
  go_wp2_with (at_builtin;refine Hid.o ?_)
  refine aa ?_
  refine ji rfl _ _ rfl rfl hR.o.1 (aG HO.o.2.2.1 hR.o.2.size) s (congrArg Value.string HX.o) (by rw[aq,Wl.cv];have:=HL.o;omega) ?_
  intro v' w4 wu j6
  have NU:=aa (And.intro wu (jN hR.o.2 hR.o.1 HO.o.2.2.1 j6))
  clear wu j6 hcell
  go_wp2
  go_ret
  exact⟨_,rfl,by rw[←aB];exact NU.o.1,NU.o.2⟩
 ·rw[Pk.vV] at hf
  have ht:n=0∧t=s:=by
   split at hf
   ·next h=>injection hf with hf;exact⟨h,hf.symm⟩
   ·cases hf
  obtain⟨rfl,rfl⟩:=ht
  generalize ((114:UInt8).toNat:Int)=x at*
  subst h1
  have HL:=aa (show l.length≤100000000∧t.length≤1000000 from⟨hl,hs⟩)
  obtain⟨X,hX⟩:∃X,X=bs t:=⟨_,rfl⟩
  have HX:=aa hX
  rw[←hX] at HO ⊢
  clear hown bF qU Iy hf hn hsz hX hc hl hs
  go_enter Tryz.func112,Tryz.ntmps112
  go_wp2_with (at_builtin;refine Hid.o ?_)
  refine aa ?_
  refine ji rfl _ _ rfl rfl HO.o.1 HO.o.2.2.2 t (congrArg Value.string HX.o) (by have:=HL.o;omega) ?_
  intro v' w4 wu j6
  have NU:=aa (And.intro wu (jN HO.o.2.1 HO.o.1 HO.o.2.2.1 j6))
  clear wu j6
  go_wp2
  go_ret
  exact⟨_,rfl,NU.o.1,NU.o.2⟩
theorem qQ {fn:Func} {p u v:Tmp} {ty:TypeId} (h:fn.results=#[.cell p ty,.tmp u,.tmp v]) (tmps:Array Value) (P:Program) (w:World):
  (results fn tmps).run P w=
   ((asAddr (tmps.getD p undef)).run P w).andThen fun a w₁=>((loadVar ty a).run P w₁).andThen fun x w₂=>.ok (.tuple #[x,tmps.getD u undef,tmps.getD v undef]) w₂:=by
 simp only[results,h]
 simp[Sem.run_bind,Result.andThen]
theorem nX {fn:Func} {p u v:Tmp} (h:fn.results=#[.cell p 134,.tmp u,.tmp v]) (tmps:Array Value) (w:World) (g:Nat) (x y:Value) (fr:Nat×Nat)
  (hp:tmps.getD p undef=.pointer (some ⟨g,0,none⟩)) (hg:w.heap[g]?=some (.cells #[x,y] 134 fr)):
  (results fn tmps).run Tryz.prog w=.ok (.tuple #[.agg #[x,y],tmps.getD u undef,tmps.getD v undef]) w:=by
 rw[qQ h,hp]
 simp[asAddr,run_loadVar_row w g _ 134 _ fr _ hg Tryz.underlying134 rfl (by kernel_rfl),Result.andThen]
def Q3 (o:Option (Pk.Fd×Pk.Text)):Value:=match o with
 |some (f,t)=>.tuple #[Om f,.string (bs t),.bool true]
 |none=>.tuple #[Om ⟨0,[]⟩,.string (bs []),.bool false]
theorem eo {B g j:Nat} {w w':World} (h:Below B w w') (hg:B≤g) (u:Value):Below B w (w'.setCell ⟨g,j,none⟩ u):=
 h.trans ⟨rfl,rfl,rfl,by simp,fun k hk=>Below.heap_setCell _ _ _ _ (by simp;omega)⟩
theorem Lt:(⟨#[]⟩:ByteArray)=bs []:=rfl
theorem B6 {c:UInt8} {s:Pk.Text} (h1:((c.toNat:Int)==116)=false) (h2:((c.toNat:Int)==114)=false):Pk.cR c s=if s.length<Pk.width c then none else some (⟨Wl.dec (s.take (Pk.width c)),[]⟩,s.drop (Pk.width c)):=by
 unfold Pk.cR
 rw[if_neg (by rintro rfl;cases h2),if_neg (by rintro rfl;cases h1)]
theorem vW (c:UInt8) (s:List UInt8) (w:World) (hc:Pk.letter c true=true) (hs:s.length≤1000000):
  Calls Tryz.prog 86 #[.int .u8 c.toNat,.string (bs s)] w fun e w'=>e=.returned (Q3 (Pk.cR c s))∧Below w.heap.size w w':=by
 have hsz:=aK s
 obtain⟨W0,lP⟩:∃W0,W0=w.alloc (.cells #[.int .u64 0,.string ⟨#[]⟩] 134):=⟨_,rfl⟩
 have LY:Below w.heap.size w W0:=by rw[lP];exact (Below.refl _ _).alloc (af _) _
 have oh:aS W0 w.heap.size 134 [.int .u64 0,.string ⟨#[]⟩]:=by rw[lP];exact aS.new w #[.int .u64 0,.string ⟨#[]⟩] 134
 rcases Pk.nB hc with⟨h0,h1,h2⟩|⟨rfl,h1⟩|⟨rfl,h1⟩
 ·rw[B6 h1 h2]
  have YX:=Pk.qK c
  have IA:=aa (fun W=>mB c W)
  generalize (c.toNat:Int)=x at*
  generalize Pk.width c=wd at*
  have Pm:=aa (fun W=>r4 (bs s) wd W (by omega) (by omega))
  rw[hsz,bO] at Pm
  have ND:=aa (fun W=>kL (bs (s.take wd)) W (by rw[aK,aN];omega))
  rw[bO] at ND
  have HNE:=aa (fun W=>kL (bs []) W (by decide))
  have HH:=aa (And.intro LY oh)
  clear hc h0 LY oh
  by_cases hlt:s.length<wd
  ·rw[if_pos hlt]
   go_enter Tryz.func86,Tryz.ntmps86
   go_wp2_with fail
   rw[←lP]
   clear lP
   refine (IA.o _).mono ?_
   rintro e w1 ⟨rfl,rfl⟩
   go_wp2_with fail
   refine (Pm.o _).mono ?_
   rintro e w2 ⟨rfl,aP⟩
   have hblk:=HH.o.2.below aP HH.o.2.lt
   have p9:=aa (HH.o.1.trans (aP.mono HH.o.1.size))
   have c0:=hblk.cell (j:=0) rfl
   have c1:=hblk.cell (j:=1) rfl
   have f0:=hblk.frozen 0
   have f1:=hblk.frozen 1
   have Gm:=aa hblk
   clear hblk aP
   rw[if_pos hlt]
   rw[Lt]
   go_wp2_with fail
   refine (HNE.o _).mono ?_
   rintro e w3 ⟨rfl,rfl⟩
   have hblk:=Gm.o
   go_wp2
   refine bodyPost_ret (nX rfl _ _ w.heap.size _ _ _ rfl ((hblk.set 0 _).set 1 _)) rfl ?_
   exact⟨rfl,eo (eo p9.o (af _) _) (af _) _⟩
  ·rw[if_neg hlt]
   go_enter Tryz.func86,Tryz.ntmps86
   go_wp2_with fail
   rw[←lP]
   clear lP
   refine (IA.o _).mono ?_
   rintro e w1 ⟨rfl,rfl⟩
   go_wp2_with fail
   refine (Pm.o _).mono ?_
   rintro e w2 ⟨rfl,aP⟩
   have hblk:=HH.o.2.below aP HH.o.2.lt
   have p9:=aa (HH.o.1.trans (aP.mono HH.o.1.size))
   have c0:=hblk.cell (j:=0) rfl
   have c1:=hblk.cell (j:=1) rfl
   have f0:=hblk.frozen 0
   have f1:=hblk.frozen 1
   have Gm:=aa hblk
   clear hblk aP
   rw[if_neg hlt]
   obtain⟨N,hN⟩:∃N,N=Wl.dec (s.take wd):=⟨_,rfl⟩
   rw[←hN] at ND
   have ZA:=aa hN
   clear hN
   go_wp2_with fail
   refine (ND.o _).mono ?_
   rintro e w3 ⟨rfl,rfl⟩
   have hblk:=Gm.o
   go_wp2
   refine bodyPost_ret (nX rfl _ _ w.heap.size _ _ _ rfl ((hblk.set 0 _).set 1 _)) rfl ?_
   exact⟨by rw[ZA.o];rfl,eo (eo p9.o (af _) _) (af _) _⟩
 ·generalize ((116:UInt8).toNat:Int)=x at*
  subst h1
  have hLT:=aa (show ∀(a:Pk.Text),a.length=2→Wl.dec a<65536 from fun a ha=>by have:=Wl.mR a;rw[ha] at this;exact this)
  have Pm:=aa (fun W=>r4 (bs s) 2 W (by omega) (by omega))
  rw[hsz,bO] at Pm
  have ND:=aa (fun W=>kL (bs (s.take 2)) W (by rw[aK,aN];omega))
  rw[bO] at ND
  have zl:=aa (fun W n (hn:n≤1000000)=>r4 (bs (s.drop 2)) n W (by rw[aK,aT];omega) hn)
  rw[aK,bO] at zl
  have IE:=aa (fun W (a:Pk.Text) (ha:a.length≤s.length)=>mC (bs a) W (by rw[aK];omega))
  have HH:=aa (And.intro LY oh)
  clear hc LY oh
  by_cases hlt:s.length<2
  ·have HV:Pk.cR 116 s=none:=by unfold Pk.cR;rw[if_neg (by decide),if_pos rfl,if_pos hlt]
   rw[HV]
   clear HV
   go_enter Tryz.func86,Tryz.ntmps86
   go_wp2_with fail
   rw[←lP]
   clear lP
   refine (Pm.o _).mono ?_
   rintro e w2 ⟨rfl,aP⟩
   have hblk:=HH.o.2.below aP HH.o.2.lt
   have p9:=aa (HH.o.1.trans (aP.mono HH.o.1.size))
   have c0:=hblk.cell (j:=0) rfl
   have c1:=hblk.cell (j:=1) rfl
   have f0:=hblk.frozen 0
   have f1:=hblk.frozen 1
   have Gm:=aa hblk
   clear hblk aP
   rw[if_pos hlt]
   have hblk:=Gm.o
   go_wp2
   refine bodyPost_ret (nX rfl _ _ w.heap.size _ _ _ rfl ((hblk.set 0 _).set 1 _)) rfl ?_
   exact⟨rfl,eo (eo p9.o (af _) _) (af _) _⟩
  ·have hl2:(s.take 2).length=2:=by rw[aN];omega
   have hd:=hLT.o _ hl2
   by_cases uL:(s.drop 2).length<Wl.dec (s.take 2)
   ·have HV:Pk.cR 116 s=none:=by unfold Pk.cR;rw[if_neg (by decide),if_pos rfl,if_neg hlt,if_pos uL]
    rw[HV]
    clear HV hl2
    generalize Wl.dec (s.take 2)=N at*
    go_enter Tryz.func86,Tryz.ntmps86
    go_wp2_with fail
    rw[←lP]
    clear lP
    refine (Pm.o _).mono ?_
    rintro e w2 ⟨rfl,aP⟩
    have hblk:=HH.o.2.below aP HH.o.2.lt
    have p9:=aa (HH.o.1.trans (aP.mono HH.o.1.size))
    have c0:=hblk.cell (j:=0) rfl
    have c1:=hblk.cell (j:=1) rfl
    have f0:=hblk.frozen 0
    have f1:=hblk.frozen 1
    have Gm:=aa hblk
    clear hblk aP
    rw[if_neg hlt]
    have Rp:(N:Int)<65536:=by omega
    have HN:=aa hd
    clear hd c0 c1 f0 f1
    go_wp2_with fail
    refine (ND.o _).mono ?_
    rintro e w3 ⟨rfl,rfl⟩
    go_wp2_with fail
    refine (zl.o _ N (by have:=HN.o;omega)).mono ?_
    rintro e w3 ⟨rfl,bY⟩
    have qC:=Gm.o.below bY Gm.o.lt
    have yN:=aa (p9.o.trans (bY.mono p9.o.size))
    have Lu:=aa qC
    clear qC bY
    rw[if_pos uL]
    go_wp2_with fail
    refine (IE.o _ [] (aC _)).mono ?_
    rintro e w4 ⟨rfl,hb4⟩
    have hblk:=Lu.o.below hb4 Lu.o.lt
    have YY:=aa (yN.o.trans (hb4.mono yN.o.size))
    have c0:=hblk.cell (j:=0) rfl
    have c1:=hblk.cell (j:=1) rfl
    have f0:=hblk.frozen 0
    have f1:=hblk.frozen 1
    clear hb4
    go_wp2
    refine bodyPost_ret (nX rfl _ _ w.heap.size _ _ _ rfl ((hblk.set 0 _).set 1 _)) rfl ?_
    exact⟨rfl,eo (eo YY.o (af _) _) (af _) _⟩
   ·have HV:Pk.cR 116 s=some (⟨0,(s.drop 2).take (Wl.dec (s.take 2))⟩,(s.drop 2).drop (Wl.dec (s.take 2))):=by unfold Pk.cR;rw[if_neg (by decide),if_pos rfl,if_neg hlt,if_neg uL]
    rw[HV]
    clear HV hl2
    generalize Wl.dec (s.take 2)=N at*
    go_enter Tryz.func86,Tryz.ntmps86
    go_wp2_with fail
    rw[←lP]
    clear lP
    refine (Pm.o _).mono ?_
    rintro e w2 ⟨rfl,aP⟩
    have hblk:=HH.o.2.below aP HH.o.2.lt
    have p9:=aa (HH.o.1.trans (aP.mono HH.o.1.size))
    have c0:=hblk.cell (j:=0) rfl
    have c1:=hblk.cell (j:=1) rfl
    have f0:=hblk.frozen 0
    have f1:=hblk.frozen 1
    have Gm:=aa hblk
    clear hblk aP
    rw[if_neg hlt]
    have Rp:(N:Int)<65536:=by omega
    have HN:=aa hd
    clear hd c0 c1 f0 f1
    go_wp2_with fail
    refine (ND.o _).mono ?_
    rintro e w3 ⟨rfl,rfl⟩
    go_wp2_with fail
    refine (zl.o _ N (by have:=HN.o;omega)).mono ?_
    rintro e w3 ⟨rfl,bY⟩
    have qC:=Gm.o.below bY Gm.o.lt
    have yN:=aa (p9.o.trans (bY.mono p9.o.size))
    have Lu:=aa qC
    clear qC bY
    rw[if_neg uL]
    go_wp2_with fail
    refine (IE.o _ ((s.drop 2).take N) (by rw[aN,aT];omega)).mono ?_
    rintro e w4 ⟨rfl,hb4⟩
    have hblk:=Lu.o.below hb4 Lu.o.lt
    have YY:=aa (yN.o.trans (hb4.mono yN.o.size))
    have c0:=hblk.cell (j:=0) rfl
    have c1:=hblk.cell (j:=1) rfl
    have f0:=hblk.frozen 0
    have f1:=hblk.frozen 1
    clear hb4
    go_wp2
    refine bodyPost_ret (nX rfl _ _ w.heap.size _ _ _ rfl ((hblk.set 0 _).set 1 _)) rfl ?_
    exact⟨by rw[List.drop_drop];rfl,eo (eo YY.o (af _) _) (af _) _⟩
 ·have HV:Pk.cR 114 s=some (⟨0,s⟩,[]):=by unfold Pk.cR;rw[if_pos rfl]
  rw[HV]
  generalize ((114:UInt8).toNat:Int)=x at*
  subst h1
  have IE:=aa (fun W=>mC (bs s) W (by omega))
  have HH:=aa (And.intro LY oh)
  clear hc LY oh HV
  go_enter Tryz.func86,Tryz.ntmps86
  go_wp2_with fail
  rw[←lP]
  clear lP
  refine (IE.o _).mono ?_
  rintro e w2 ⟨rfl,aP⟩
  have hblk:=HH.o.2.below aP HH.o.2.lt
  have p9:=aa (HH.o.1.trans (aP.mono HH.o.1.size))
  have c0:=hblk.cell (j:=0) rfl
  have c1:=hblk.cell (j:=1) rfl
  have f0:=hblk.frozen 0
  have f1:=hblk.frozen 1
  clear aP
  go_wp2
  refine bodyPost_ret (nX rfl _ _ w.heap.size _ _ _ rfl ((hblk.set 0 _).set 1 _)) rfl ?_
  exact⟨rfl,eo (eo p9.o (af _) _) (af _) _⟩
def YZ (w:World) (v:Value) (l:List Pk.Fd):Prop:=
 ∃(a:Option Addr) (cap:Nat),v=.slice a l.length cap∧l.length≤cap∧∀i (_:i<l.length),l[i].n<2^64∧∃g o,a=some ⟨g,o,none⟩∧g<w.heap.size∧
  ∀j (hj:j<l.length),w.cell? ⟨g,o+j*2,none⟩=some (.int .u64 l[j].n)∧w.cell? ⟨g,o+j*2+1,none⟩=some (.string (bs l[j].s))
namespace Pk
theorem mD:∀(l:Text) (k:Nat) (h:k<l.length),right l=true→letter l[k] true=true
 |c::r,0,_,hr=>by
  simp only[right,fy] at hr
  have:=hr.1
  unfold letter at this ⊢
  simp only[Bool.or_eq_true,fy,List.getElem_cons_zero,Bool.and_true] at this ⊢
  rcases this with h|h
  ·exact .inl h
  ·exact .inr h.1
 |c::r,k+1,h,hr=>by
  simp only[right,fy] at hr
  exact mD r k (by simpa using h) hr.2
theorem Ib {c:UInt8} {f:Fd} {t:Text} (h:eN c f=some t):t.length≤f.s.length+8:=by
 unfold eN at h
 have hw:=qK c
 split at h
 ·split at h
  ·injection h with h;subst h;rw[Wl.cv];omega
  ·cases h
 ·split at h
  ·cases h
  ·split at h
   ·injection h with h;subst h;omega
   ·split at h
    ·cases h
    ·injection h with h;subst h;rw[aq,Wl.cv];omega
theorem Lv (acc k:Text) (l:List Fd) (i:Nat) (h1:i<k.length) (h2:i<l.length):BW acc (k.drop i) (l.drop i)=match eN k[i] l[i] with
  |none=>none
  |some a=>BW (acc++a) (k.drop (i+1)) (l.drop (i+1)):=by
 rw[cm h1,cm h2,BW]
 cases eN k[i] l[i]<;>rfl
end Pk
def Y0 (o:Option Pk.Text):Value:=match o with
 |some t=>.tuple #[.string (bs t),.bool true]
 |none=>.tuple #[.string ⟨#[]⟩,.bool false]
theorem B7 (ks:ByteArray) (v:Value) (l:List Pk.Fd) (w:World) (hk:ks.size≤100) (XH:l.length≤9223372036854775807) (hr:YZ w v l) (hs:∀i (h:i<l.length),l[i].s.length≤10000):
  Calls Tryz.prog 71 #[.string ks,v] w fun e w'=>e=.returned (Y0 (Pk.write ks.data.toList l))∧Below w.heap.size w w':=by
 have s9:(ks.size:Int)≤100:=by omega
 have Y3:(l.length:Int)≤9223372036854775807:=by omega
 obtain⟨a,cap,rfl,hcap,hcells⟩:=hr
 have HC:=aa hcells
 have zY:=aa hs
 have Ic:=aa (show ks.data.toList.length=ks.size from aZ)
 clear hcells hs
 cases B8:Pk.right ks.data.toList with
 |false=>
  have HV:Pk.write ks.data.toList l=none:=by unfold Pk.write;rw[if_neg (by rw[B8];exact fun e=>by cases e.1)]
  rw[HV]
  have Oo:=aa (show ∀W,Calls Tryz.prog 85 #[.string ks] W fun e w'=>e=.returned (.bool false)∧w'=W from fun W=>by have:=nV ks W (by omega);rw[B8] at this;exact this)
  clear HV B8
  go_enter Tryz.func71,Tryz.ntmps71
  go_wp2_with fail
  refine (Oo.o _).mono ?_
  rintro e w1 ⟨rfl,rfl⟩
  go_wp2
  go_ret2
  exact⟨rfl,Below.refl _ _⟩
 |true=>
  have Oo:=aa (show ∀W,Calls Tryz.prog 85 #[.string ks] W fun e w'=>e=.returned (.bool true)∧w'=W from fun W=>by have:=nV ks W (by omega);rw[B8] at this;exact this)
  by_cases ES:l.length=ks.size
  ·have HV:Pk.write ks.data.toList l=Pk.BW [] ks.data.toList l:=by unfold Pk.write;rw[if_pos ⟨B8,by rw[Ic.o,ES]⟩]
   rw[HV]
   have Qs:=aa B8
   have Gj:((l.length:Int) !=ks.size)=false:=by rw[bne_eq_false_iff_eq];omega
   have qu:=aa ES
   obtain⟨L,hL⟩:∃L,L=l.length:=⟨_,rfl⟩
   have HL:=aa hL
   rw[←hL] at Gj Y3 ⊢
   clear HV B8 ES hL
   go_enter Tryz.func71,Tryz.ntmps71
   go_wp2_with fail
   refine (Oo.o _).mono ?_
   rintro e w1 ⟨rfl,rfl⟩
   go_wp2_with fail
   go_loopw [6,21] (fun u i wr=>∃k:Nat,k≤L∧i=.int .i64 k∧∃acc:List UInt8,Hid (acc.length≤k*10008∧Pk.BW [] ks.data.toList l=Pk.BW acc (ks.data.toList.drop k) (l.drop k))∧Hid (gi w1.heap.size wr u acc)∧Hid (Below w1.heap.size w1 wr)) (fun _ i _=>L-(RowKit.intOf i).toNat)
   case atStart=>exact⟨0,aC _,rfl,[],aa ⟨aC _,rfl⟩,aa (Own.nil _ _ _ _),aa (Below.refl _ _)⟩
   case round=>
    obtain⟨k,hk',rfl,acc,HA,HO,HB⟩:=hrel
    by_cases hlt:k<L
    ·have kX:(k:Int)<L:=by omega
     have hk1:k<l.length:=by have:=HL.o;omega
     have hk2:k<ks.size:=by have:=HL.o;have:=qu.o;omega
     have aa8:(k:Int)<ks.size:=by omega
     obtain⟨hn,g,o,rfl,hg,hc⟩:=HC.o k hk1
     have c0:wr.cell? ⟨g,o+k*2,none⟩=some (.int .u64 l[k].n):=(HB.o.cell (p:=⟨g,o+k*2,none⟩) hg).trans (hc k hk1).1
     have c1:wr.cell? ⟨g,o+k*2+1,none⟩=some (.string (bs l[k].s)):=(HB.o.cell (p:=⟨g,o+k*2+1,none⟩) hg).trans (hc k hk1).2
     have jO:=aa (HA.o.2.trans (Pk.Lv acc ks.data.toList l k hk2 hk1))
     have Ed:=Pk.mD ks.data.toList k hk2 Qs.o
     have hsk:=zY.o k hk1
     obtain⟨f,hf⟩:∃f,f=l[k]:=⟨_,rfl⟩
     rw[←hf] at hn c0 c1 hsk jO
     change Hid (_=match Pk.eN ks[k] f with|none=>none|some a=>_) at jO
     change Pk.letter ks[k] true=true at Ed
     obtain⟨X,hX⟩:∃X,X=bs f.s:=⟨_,rfl⟩
     rw[←hX] at c1
     have UT:Om f=.agg #[.int .u64 f.n,.string X]:=by rw[hX];rfl
     have HN:=aa (show f.n<2^64∧f.s.length≤10000∧Pk.letter ks[k] true=true from⟨hn,hsk,Ed⟩)
     clear hc hf hX hn hsk Ed
     cases hft:Pk.eN ks[k] f with
     |none=>
      have Y4:=aa (show ∀W,Calls Tryz.prog 111 #[.int .u8 ks[k].toNat,.agg #[.int .u64 f.n,.string X]] W fun e w'=>e=.returned (.bool false)∧Below W.heap.size W w' from fun W=>by have:=B4 ks[k] f W HN.o.2.2 HN.o.1 (by have:=HN.o;omega);rw[hft,UT] at this;exact this)
      rw[hft] at jO
      clear hft UT
      go_wp2_with (refine wp_region_any (by kernel_rfl) ?_;refine Hid.o ?_)
      refine aa ?_
      try (change wpAny _ _ _ _ _ _ _ (bD _))
      refine tk 0 ?_
      refine tk 1 ?_
      refine tk 2 ?_
      refine rd [3] (rn fun K hK=> ?_)
      go_simp
      refine hK _ _ ?_;clear hK K
      refine rd [4] (rn fun K hK=> ?_)
      go_simp
      refine (Y4.o _).mono ?_;rintro e w3 ⟨rfl,bY⟩
      refine hK _ _ ?_;clear hK K
      refine rd [5] (rn fun K hK=> ?_)
      go_simp
      refine hK _ _ ?_;clear hK K
      refine wpAny_done (by kernel_rfl) ?_ _
      clear c0 c1
      go_wp2
      go_ret2
      have yN:Below w1.heap.size w1 w3:=(HB.o.trans ((Below.refl _ wr).alloc HB.o.size _).drew).trans (bY.mono (by have:=HB.o.size;simp;omega))
      exact⟨by rw[jO.o];rfl,yN⟩
     |some t=>
      have Y4:=aa (show ∀W,Calls Tryz.prog 111 #[.int .u8 ks[k].toNat,.agg #[.int .u64 f.n,.string X]] W fun e w'=>e=.returned (.bool true)∧Below W.heap.size W w' from fun W=>by have:=B4 ks[k] f W HN.o.2.2 HN.o.1 (by have:=HN.o;omega);rw[hft,UT] at this;exact this)
      have HTL:=aa (Pk.Ib hft)
      have hacc:acc.length≤1000800:=by have:=HA.o.1;omega
      have Nc:=aa (show ∀W u,gi w1.heap.size W u acc→w1.heap.size≤W.heap.size→Calls Tryz.prog 112 #[u,.int .u8 ks[k].toNat,.agg #[.int .u64 f.n,.string X]] W fun e w'=>∃v',e=.returned v'∧gi w1.heap.size w' v' (acc++t)∧Below w1.heap.size W w' from fun W u h1 h2=>by
       have:=sY ks[k] f t w1.heap.size W u acc hft HN.o.2.2 h1 h2 (by omega) HN.o.1 (by have:=HN.o;omega);rw[UT] at this;exact this)
      rw[hft] at jO
      clear hft UT hacc
      go_wp2_with (refine wp_region_any (by kernel_rfl) ?_;refine Hid.o ?_)
      refine aa ?_
      try (change wpAny _ _ _ _ _ _ _ (bD _))
      refine tk 0 ?_
      refine tk 1 ?_
      refine tk 2 ?_
      refine rd [3] (rn fun K hK=> ?_)
      go_simp
      refine hK _ _ ?_;clear hK K
      refine rd [4] (rn fun K hK=> ?_)
      go_simp
      refine (Y4.o _).mono ?_;rintro e w3 ⟨rfl,bY⟩
      refine hK _ _ ?_;clear hK K
      refine rd [5] (rn fun K hK=> ?_)
      go_simp
      refine hK _ _ ?_;clear hK K
      refine wpAny_done (by kernel_rfl) ?_ _
      clear c0 c1
      have yN:Below w1.heap.size w1 w3:=(HB.o.trans ((Below.refl _ wr).alloc HB.o.size _).drew).trans (bY.mono (by have:=HB.o.size;simp;omega))
      have hblk:aS w3 wr.heap.size 134 [.int .u64 f.n,.string X]:=(aS.new wr #[.int .u64 f.n,.string X] 134).drew.below bY (by simp)
      have c0:=hblk.cell (j:=0) rfl
      have c1:=hblk.cell (j:=1) rfl
      have Jx:gi w1.heap.size w3 u6 acc:=(HO.o.alloc _).drew.below bY (by simp)
      have H3:=aa (And.intro yN Jx)
      clear bY hblk yN Jx
      go_wp2_with (refine wp_region_any (by kernel_rfl) ?_;refine Hid.o ?_)
      refine aa ?_
      try (change wpAny _ _ _ _ _ _ _ (bD _))
      refine tk 0 ?_
      refine tk 1 ?_
      refine tk 2 ?_
      refine tk 3 ?_
      refine rd [4] (rn fun K hK=> ?_)
      go_simp
      refine hK _ _ ?_;clear hK K
      refine rd [5] (rn fun K hK=> ?_)
      go_simp
      refine (Nc.o _ _ H3.o.2.drew H3.o.1.size).mono ?_;rintro e w4 ⟨v4,rfl,wu,hb4⟩
      refine hK _ _ ?_;clear hK K
      refine rd [6] (rn fun K hK=> ?_)
      go_simp
      refine hK _ _ ?_;clear hK K
      refine wpAny_done (by kernel_rfl) ?_ _
      have H4:=aa (And.intro wu (H3.o.1.drew.trans hb4))
      clear wu hb4 c0 c1
      go_wp2
      go_roundw
      case rel=>exact⟨k+1,by omega,by go_num,acc++t,aa ⟨by rw[aq];have:=HA.o.1;have:=HTL.o;have:=HN.o.2.1;omega,jO.o⟩,aa H4.o.1,aa H4.o.2⟩
      case measure=>simp[RowKit.intOf];omega
    ·have yB:k=L:=by omega
     subst yB
     have hbk:=HO.o.back
     have HZ:=aa (show Pk.BW [] ks.data.toList l=some acc by
      rw[HA.o.2,pK (by rw[Ic.o];have:=HL.o;have:=qu.o;omega),pK (by have:=HL.o;omega)]
      rfl)
     go_wp2
     go_ret2
     exact⟨by rw[HZ.o];rfl,HB.o⟩
  ·have HV:Pk.write ks.data.toList l=none:=by unfold Pk.write;rw[if_neg (by rw[Ic.o];exact fun e=>ES e.2.symm)]
   rw[HV]
   have Gj:((l.length:Int) !=ks.size)=true:=by rw[bne_iff_ne];omega
   clear HV B8 ES
   go_enter Tryz.func71,Tryz.ntmps71
   go_wp2_with fail
   refine (Oo.o _).mono ?_
   rintro e w1 ⟨rfl,rfl⟩
   go_wp2
   go_ret2
   exact⟨rfl,Below.refl _ _⟩
theorem B9 (k:Nat):Lib.repeatL [0] k=bg k (0:UInt8):=by
 have:=Lib.repeatL_replicate 0 1 k
 rwa [Nat.mul_one] at this
theorem Ee (k:Nat):(⟨(Lib.repeatL (⟨#[0]⟩:ByteArray).data.toList k).toArray⟩:ByteArray)=bs (bg k 0):=by
 rw[show (⟨#[0]⟩:ByteArray).data.toList=[0] from rfl,B9]
 rfl
theorem B_ (k:Nat) (w:World) (hk:k≤20):Calls Tryz.prog 72 #[.string ⟨#[0]⟩,.int .i64 k] w fun e w'=>e=.returned (.string (bs (bg k 0)))∧Below w.heap.size w w':=by
 rw[←Ee]
 exact repeat_any ⟨#[0]⟩ k w (by omega) (by show 1*k≤_;omega)
theorem Fq (w:World) (l:List Pk.Fd) (hn:∀f∈l,f.n<2^64):YZ (w.alloc (.cells (gw.cells l).toArray 134)) (.slice (some ⟨w.heap.size,0,none⟩) l.length l.length) l:=by
 have hl:a_ gw (w.alloc (.cells (gw.cells l).toArray 134)) w.heap.size 0 l:=a_.gh (aS.new w (gw.cells l).toArray 134) rfl
 refine⟨some ⟨w.heap.size,0,none⟩,l.length,rfl,af _,fun i hi=>⟨hn _ (bB hi),w.heap.size,0,rfl,by rw[bk];omega,fun j hj=>⟨?_, ?_⟩⟩⟩
 ·have:=hl.at j 0 (by decide) hj (.int .u64 l[j].n) rfl
  simpa[gw] using this
 ·have:=hl.at j 1 (by decide) hj (.string (bs l[j].s)) rfl
  simpa[gw,gd] using this
theorem yl (b:Bk.B) (h:Bk.One b) (w:World):Calls Tryz.prog 46 #[qV b] w fun e w'=>e=.returned (.string (bs (Bk.fV b)))∧Below w.heap.size w w':=by
 have dH:=Bk.zK h
 have VP:=aa (fun W=>B_ (20-b.pre.length) W (by omega))
 have RI:=aa (show ∀(v:Value) (W:World),YZ W v (Bk.jY b)→Calls Tryz.prog 71 #[.string ⟨#[98,110,98,110,116,114]⟩,v] W fun e w'=>e=.returned (.tuple #[.string (bs (Bk.fV b)),.bool true])∧Below W.heap.size W w' from fun v W hr=>by
  have:=B7 ⟨#[98,110,98,110,116,114]⟩ v (Bk.jY b) W (by decide) (by show 6≤_;decide) hr (by
   intro i hi
   exact Bk.QZ h i hi)
  rw[show (⟨#[98,110,98,110,116,114]⟩:ByteArray).data.toList=Bk.kinds from rfl,Bk.vR h] at this
  exact this)
 obtain⟨sn,zW⟩:∃sn:Nat,b.state=sn:=⟨b.state.toNat,by have:=h.low;omega⟩
 have kN:(sn:Int)≤2:=by have:=h.high;omega
 have OE:(bs b.pre).size=b.pre.length:=aK _
 have hsub:IntKind.i64.wrap (20-((bs b.pre).size:Int))=((20-b.pre.length:Nat):Int):=by rw[OE,IntKind.wrap_i64];omega
 have hwr:IntKind.u64.wrap (sn:Int)=(sn:Int):=by rw[IntKind.wrap_u64];omega
 unfold qV
 rw[zW]
 obtain⟨K0,Y5⟩:∃K0,K0=20-b.pre.length:=⟨_,rfl⟩
 rw[←Y5] at hsub VP
 obtain⟨on,hon⟩:∃on,on=b.on:=⟨_,rfl⟩
 rw[←hon]
 obtain⟨P1,hP1⟩:∃P,P=bs b.name:=⟨_,rfl⟩
 obtain⟨P2,Rt⟩:∃P,P=bs b.pre:=⟨_,rfl⟩
 rw[←hP1,←Rt]
 rw[←Rt] at hsub
 obtain⟨Z,hZ⟩:∃Z,Z=bs (bg K0 0):=⟨_,rfl⟩
 rw[←hZ] at VP
 have wo:=aa (show (gw.cells (Bk.jY b))=[.int .u64 sn,.string ⟨#[]⟩,.int .u64 b.born,.string ⟨#[]⟩,.int .u64 (Bk.mM on),.string ⟨#[]⟩,.int .u64 b.after,.string ⟨#[]⟩,.int .u64 0,.string P2,.int .u64 0,.string Z] by
  unfold Bk.jY
  rw[hZ,Y5,Rt,hon,zW]
  rfl)
 have HFN:=aa (Bk.QY h)
 have qu:=aa (show (Bk.jY b).length=6 from rfl)
 generalize Bk.fV b=T at*
 generalize Bk.jY b=FL at*
 generalize b.born=born at*
 generalize b.after=after at*
 clear h dH zW hon hP1 Rt hZ OE Y5
 cases on with
 |true=>
  rw[show ((Bk.mM true:Nat):Int)=1 from rfl] at wo
  go_enter Tryz.func46,Tryz.ntmps46
  go_wp2_with (refine wp_region_held_drew (S:=(fun X=>X.cell? ⟨w.heap.size,1,none⟩=some (.int .i64 sn)∧X.cell? ⟨w.heap.size,2,none⟩=some (.int .u64 born)∧X.cell? ⟨w.heap.size,4,none⟩=some (.string P2)∧X.cell? ⟨w.heap.size,5,none⟩=some (.int .u64 after))) (by kernel_rfl) ?_ (fun aD=> ?_);focus skip;rotate_left;refine Hid.o ?_)
  refine aa ?_
  ·have hx:=aS.new w #[.string P1,.int .i64 sn,.int .u64 born,.bool true,.string P2,.int .u64 after] 46
   exact⟨hx.cell rfl,hx.cell rfl,hx.cell rfl,hx.cell rfl⟩
  have Ef:=aa (show Below w.heap.size w (w.alloc (.cells #[.string P1,.int .i64 sn,.int .u64 born,.bool true,.string P2,.int .u64 after] 46)).drew∧w.heap.size<(w.alloc (.cells #[.string P1,.int .i64 sn,.int .u64 born,.bool true,.string P2,.int .u64 after] 46)).drew.heap.size from⟨((Below.refl _ w).alloc (af _) _).drew,by show _<(dO w _).heap.size;rw[bk];omega⟩)
  generalize (w.alloc (.cells #[.string P1,.int .i64 sn,.int .u64 born,.bool true,.string P2,.int .u64 after] 46)).drew=Y at*
  obtain⟨s0',s1',s2',s3'⟩:=aD
  have aD:=And.intro s0' (And.intro s1' (And.intro s2' s3'))
  refine bu 0 aD ?_
  refine bu 1 aD ?_
  refine bu 2 aD ?_
  refine bu 3 aD ?_
  refine bu 4 aD ?_
  refine bu 5 aD ?_
  refine bu 6 aD ?_
  refine bu 7 aD ?_
  refine bu 8 aD ?_
  refine bu 9 aD ?_
  refine bu 10 aD ?_
  refine bu 11 aD ?_
  refine bu 12 aD ?_
  refine bu 13 aD ?_
  refine bu 14 aD ?_
  refine bu 15 aD ?_
  refine bu 16 aD ?_
  refine bu 17 aD ?_
  refine bu 18 aD ?_
  refine bu 19 aD ?_
  refine bu 20 aD ?_
  refine bu 21 aD ?_
  try simp only[Act.put,az,ay,au]
  refine iL [22] (iM fun K hK=> ?_)
  go_simp
  refine (VP.o _).mono ?_
  rintro e w1 ⟨rfl,bF⟩
  have fY:=aa (And.intro (Ef.o.1.trans (bF.mono Ef.o.1.size)) (cW Ef.o.2 bF.size))
  refine hK.out _ _ ⟨(bF.cell (p:=⟨w.heap.size,1,none⟩) Ef.o.2).trans s0',(bF.cell (p:=⟨w.heap.size,2,none⟩) Ef.o.2).trans s1',(bF.cell (p:=⟨w.heap.size,4,none⟩) Ef.o.2).trans s2',(bF.cell (p:=⟨w.heap.size,5,none⟩) Ef.o.2).trans s3'⟩ (fun aD=> ?_);clear hK K bF
  clear s0' s1' s2' s3'
  obtain⟨s0',s1',s2',s3'⟩:=aD
  have aD:=And.intro s0' (And.intro s1' (And.intro s2' s3'))
  refine bu 23 aD ?_
  try simp only[Act.put,az,ay,au]
  refine iL [24] (iM fun K hK=> ?_)
  go_simp
  have hr:=Fq w1 FL HFN.o
  have oZ:=(Below.refl _ w1).alloc (af _) (.cells (gw.cells FL).toArray 134)
  rw[qu.o] at hr
  rw[wo.o] at hr oZ
  have UU:w1.heap.size<(w1.alloc (.cells [Value.int .u64 sn,.string ⟨#[]⟩,.int .u64 born,.string ⟨#[]⟩,.int .u64 1,.string ⟨#[]⟩,.int .u64 after,.string ⟨#[]⟩,.int .u64 0,.string P2,.int .u64 0,.string Z].toArray 134)).heap.size:=by rw[bk];omega
  refine hK.out _ _ ⟨(oZ.cell (p:=⟨w.heap.size,1,none⟩) fY.o.2).trans s0',(oZ.cell (p:=⟨w.heap.size,2,none⟩) fY.o.2).trans s1',(oZ.cell (p:=⟨w.heap.size,4,none⟩) fY.o.2).trans s2',(oZ.cell (p:=⟨w.heap.size,5,none⟩) fY.o.2).trans s3'⟩ (fun aD=> ?_);clear hK K
  have HR:=aa hr
  have fC:=aa (And.intro (fY.o.1.trans (oZ.mono fY.o.1.size)) (Nat.lt_trans fY.o.2 UU))
  clear hr oZ UU s0' s1' s2' s3' wo
  generalize (w1.alloc (.cells [Value.int .u64 sn,.string ⟨#[]⟩,.int .u64 born,.string ⟨#[]⟩,.int .u64 1,.string ⟨#[]⟩,.int .u64 after,.string ⟨#[]⟩,.int .u64 0,.string P2,.int .u64 0,.string Z].toArray 134))=w2 at*
  obtain⟨s0',s1',s2',s3'⟩:=aD
  have aD:=And.intro s0' (And.intro s1' (And.intro s2' s3'))
  refine iL [25] (iM fun K hK=> ?_)
  go_simp
  refine (RI.o _ _ HR.o).mono ?_
  rintro e w3 ⟨rfl,bY⟩
  have p8:=aa (fC.o.1.trans (bY.mono fC.o.1.size))
  refine hK.out _ _ ⟨(bY.cell (p:=⟨w.heap.size,1,none⟩) fC.o.2).trans s0',(bY.cell (p:=⟨w.heap.size,2,none⟩) fC.o.2).trans s1',(bY.cell (p:=⟨w.heap.size,4,none⟩) fC.o.2).trans s2',(bY.cell (p:=⟨w.heap.size,5,none⟩) fC.o.2).trans s3'⟩ (fun aD=> ?_);clear hK K bY
  refine bu 26 aD ?_
  refine bu 27 aD ?_
  refine bu 28 aD ?_
  refine bu 29 aD ?_
  refine bu 30 aD ?_
  refine wpAnyH_done (by kernel_rfl) ?_ _
  try simp only[Act.put,az,ay,au]
  go_wp2_with fail
  go_ret
  exact⟨rfl,p8.o⟩
 |false=>
  rw[show ((Bk.mM false:Nat):Int)=0 from rfl] at wo
  go_enter Tryz.func46,Tryz.ntmps46
  go_wp2_with (refine wp_region_held_drew (S:=(fun X=>X.cell? ⟨w.heap.size,1,none⟩=some (.int .i64 sn)∧X.cell? ⟨w.heap.size,2,none⟩=some (.int .u64 born)∧X.cell? ⟨w.heap.size,4,none⟩=some (.string P2)∧X.cell? ⟨w.heap.size,5,none⟩=some (.int .u64 after))) (by kernel_rfl) ?_ (fun aD=> ?_);focus skip;rotate_left;refine Hid.o ?_)
  refine aa ?_
  ·have hx:=aS.new w #[.string P1,.int .i64 sn,.int .u64 born,.bool false,.string P2,.int .u64 after] 46
   exact⟨hx.cell rfl,hx.cell rfl,hx.cell rfl,hx.cell rfl⟩
  have Ef:=aa (show Below w.heap.size w (w.alloc (.cells #[.string P1,.int .i64 sn,.int .u64 born,.bool false,.string P2,.int .u64 after] 46)).drew∧w.heap.size<(w.alloc (.cells #[.string P1,.int .i64 sn,.int .u64 born,.bool false,.string P2,.int .u64 after] 46)).drew.heap.size from⟨((Below.refl _ w).alloc (af _) _).drew,by show _<(dO w _).heap.size;rw[bk];omega⟩)
  generalize (w.alloc (.cells #[.string P1,.int .i64 sn,.int .u64 born,.bool false,.string P2,.int .u64 after] 46)).drew=Y at*
  obtain⟨s0',s1',s2',s3'⟩:=aD
  have aD:=And.intro s0' (And.intro s1' (And.intro s2' s3'))
  refine bu 0 aD ?_
  refine bu 1 aD ?_
  refine bu 2 aD ?_
  refine bu 3 aD ?_
  refine bu 4 aD ?_
  refine bu 5 aD ?_
  refine bu 6 aD ?_
  refine bu 7 aD ?_
  refine bu 8 aD ?_
  refine bu 9 aD ?_
  refine bu 10 aD ?_
  refine bu 11 aD ?_
  refine bu 12 aD ?_
  refine bu 13 aD ?_
  refine bu 14 aD ?_
  refine bu 15 aD ?_
  refine bu 16 aD ?_
  refine bu 17 aD ?_
  refine bu 18 aD ?_
  refine bu 19 aD ?_
  refine bu 20 aD ?_
  refine bu 21 aD ?_
  try simp only[Act.put,az,ay,au]
  refine iL [22] (iM fun K hK=> ?_)
  go_simp
  refine (VP.o _).mono ?_
  rintro e w1 ⟨rfl,bF⟩
  have fY:=aa (And.intro (Ef.o.1.trans (bF.mono Ef.o.1.size)) (cW Ef.o.2 bF.size))
  refine hK.out _ _ ⟨(bF.cell (p:=⟨w.heap.size,1,none⟩) Ef.o.2).trans s0',(bF.cell (p:=⟨w.heap.size,2,none⟩) Ef.o.2).trans s1',(bF.cell (p:=⟨w.heap.size,4,none⟩) Ef.o.2).trans s2',(bF.cell (p:=⟨w.heap.size,5,none⟩) Ef.o.2).trans s3'⟩ (fun aD=> ?_);clear hK K bF
  clear s0' s1' s2' s3'
  obtain⟨s0',s1',s2',s3'⟩:=aD
  have aD:=And.intro s0' (And.intro s1' (And.intro s2' s3'))
  refine bu 23 aD ?_
  try simp only[Act.put,az,ay,au]
  refine iL [24] (iM fun K hK=> ?_)
  go_simp
  have hr:=Fq w1 FL HFN.o
  have oZ:=(Below.refl _ w1).alloc (af _) (.cells (gw.cells FL).toArray 134)
  rw[qu.o] at hr
  rw[wo.o] at hr oZ
  have UU:w1.heap.size<(w1.alloc (.cells [Value.int .u64 sn,.string ⟨#[]⟩,.int .u64 born,.string ⟨#[]⟩,.int .u64 0,.string ⟨#[]⟩,.int .u64 after,.string ⟨#[]⟩,.int .u64 0,.string P2,.int .u64 0,.string Z].toArray 134)).heap.size:=by rw[bk];omega
  refine hK.out _ _ ⟨(oZ.cell (p:=⟨w.heap.size,1,none⟩) fY.o.2).trans s0',(oZ.cell (p:=⟨w.heap.size,2,none⟩) fY.o.2).trans s1',(oZ.cell (p:=⟨w.heap.size,4,none⟩) fY.o.2).trans s2',(oZ.cell (p:=⟨w.heap.size,5,none⟩) fY.o.2).trans s3'⟩ (fun aD=> ?_);clear hK K
  have HR:=aa hr
  have fC:=aa (And.intro (fY.o.1.trans (oZ.mono fY.o.1.size)) (Nat.lt_trans fY.o.2 UU))
  clear hr oZ UU s0' s1' s2' s3' wo
  generalize (w1.alloc (.cells [Value.int .u64 sn,.string ⟨#[]⟩,.int .u64 born,.string ⟨#[]⟩,.int .u64 0,.string ⟨#[]⟩,.int .u64 after,.string ⟨#[]⟩,.int .u64 0,.string P2,.int .u64 0,.string Z].toArray 134))=w2 at*
  obtain⟨s0',s1',s2',s3'⟩:=aD
  have aD:=And.intro s0' (And.intro s1' (And.intro s2' s3'))
  refine iL [25] (iM fun K hK=> ?_)
  go_simp
  refine (RI.o _ _ HR.o).mono ?_
  rintro e w3 ⟨rfl,bY⟩
  have p8:=aa (fC.o.1.trans (bY.mono fC.o.1.size))
  refine hK.out _ _ ⟨(bY.cell (p:=⟨w.heap.size,1,none⟩) fC.o.2).trans s0',(bY.cell (p:=⟨w.heap.size,2,none⟩) fC.o.2).trans s1',(bY.cell (p:=⟨w.heap.size,4,none⟩) fC.o.2).trans s2',(bY.cell (p:=⟨w.heap.size,5,none⟩) fC.o.2).trans s3'⟩ (fun aD=> ?_);clear hK K bY
  refine bu 26 aD ?_
  refine bu 27 aD ?_
  refine bu 28 aD ?_
  refine bu 29 aD ?_
  refine bu 30 aD ?_
  refine wpAnyH_done (by kernel_rfl) ?_ _
  try simp only[Act.put,az,ay,au]
  go_wp2_with fail
  go_ret
  exact⟨rfl,p8.o⟩
def Q4 (o:Option (List Pk.Fd)) (B:Nat) (e:Ending) (w':World):Prop:=match o with
 |some l=>∃v',e=.returned (.tuple #[v',.bool true])∧Own gw 134 B w' v' l
 |none=>e=.returned (.tuple #[.slice none 0 0,.bool false])
namespace Pk
theorem Lw (acc:List Fd) (k s:Text) (i:Nat) (h1:i<k.length):z8 acc (k.drop i) s=match cR k[i] s with
  |none=>none
  |some p=>z8 (acc++[p.1]) (k.drop (i+1)) p.2:=by
 rw[cm h1,z8]
 cases cR k[i] s<;>rfl
theorem Ca {c:UInt8} {s t:Text} {f:Fd} (h:cR c s=some (f,t)):t.length≤s.length∧f.s.length≤s.length∧(width c≤8→f.n<2^64):=by
 unfold cR at h
 split at h
 ·injection h with h;injection h with e1 e2;subst e1 e2;exact⟨by simp,by simp,fun _=>by show 0<2^64;decide⟩
 ·split at h
  ·split at h
   ·cases h
   ·split at h
    ·cases h
    ·injection h with h;injection h with e1 e2;subst e1 e2
     refine⟨by simp<;>omega,by simp<;>omega,fun _=>by show 0<2^64;decide⟩
  ·split at h
   ·cases h
   ·injection h with h;injection h with e1 e2;subst e1 e2
    refine⟨by simp,by simp,fun hw=> ?_⟩
    have h1:=Wl.mR (s.take (width c))
    have h2:(s.take (width c)).length≤8:=by rw[aN];omega
    have h3:256^(s.take (width c)).length≤256^8:=Nat.pow_le_pow_right (by decide) h2
    exact cW h1 (aG h3 (by decide))
end Pk
theorem Eg (ks:ByteArray) (s:List UInt8) (w:World) (hk:ks.size≤100) (hs:s.length≤1000000):
  Calls Tryz.prog 55 #[.string ks,.string (bs s)] w fun e w'=>Q4 (Pk.read ks.data.toList s) w.heap.size e w'∧Below w.heap.size w w':=by
 have s9:(ks.size:Int)≤100:=by omega
 have Ic:=aa (show ks.data.toList.length=ks.size from aZ)
 have hsz:=aK s
 cases B8:Pk.right ks.data.toList with
 |false=>
  have HV:Pk.read ks.data.toList s=none:=by unfold Pk.read;rw[if_neg (by rw[B8];decide)]
  rw[HV]
  have Oo:=aa (show ∀W,Calls Tryz.prog 85 #[.string ks] W fun e w'=>e=.returned (.bool false)∧w'=W from fun W=>by have:=nV ks W (by omega);rw[B8] at this;exact this)
  clear HV B8
  go_enter Tryz.func55,Tryz.ntmps55
  go_wp2_with fail
  refine (Oo.o _).mono ?_
  rintro e w1 ⟨rfl,rfl⟩
  go_wp2
  go_ret2
  exact⟨rfl,Below.refl _ _⟩
 |true=>
  have Oo:=aa (show ∀W,Calls Tryz.prog 85 #[.string ks] W fun e w'=>e=.returned (.bool true)∧w'=W from fun W=>by have:=nV ks W (by omega);rw[B8] at this;exact this)
  by_cases ES:ks.size≤s.length+1
  ·have HV:Pk.read ks.data.toList s=Pk.z8 [] ks.data.toList s:=by unfold Pk.read;rw[if_pos B8]
   rw[HV]
   have Qs:=aa B8
   have HS:=aa hs
   obtain⟨X,hX⟩:∃X,X=bs s:=⟨_,rfl⟩
   have HX:=aa hX
   rw[←hX] at hsz ⊢
   have Gj:decide ((X.size:Int)+1<ks.size)=false:=by rw[decide_eq_false_iff_not];omega
   have hXI:(X.size:Int)≤1000000:=by omega
   clear HV B8 ES hX hsz hs
   go_enter Tryz.func55,Tryz.ntmps55
   go_wp2_with fail
   refine (Oo.o _).mono ?_
   rintro e w1 ⟨rfl,rfl⟩
   go_wp2_with (at_make;refine Hid.o ?_)
   refine aa ?_
   refine yx UR rfl _ _ rfl w1.heap.size (af _) ks.size ks.size rfl rfl rfl (by omega) ?_
   intro w2 fD fK
   have VQ:=aa (And.intro fD ((Below.refl _ w1).trans ((aE.pV fK).below (af _) (fun k _ e=>by cases e))))
   generalize (Value.slice (some ⟨w1.heap.size,0,none⟩) 0 ks.size)=u2 at*
   clear fD fK
   go_wp2_with fail
   go_loopw [1,6,7] (fun sv u i wr=>∃k:Nat,k≤ks.size∧i=.int .i64 k∧∃(acc:List Pk.Fd) (t:List UInt8),sv=.string (bs t)∧Hid (t.length≤s.length∧Pk.z8 [] ks.data.toList s=Pk.z8 acc (ks.data.toList.drop k) t∧acc.length=k)∧Hid (Own gw 134 w1.heap.size wr u acc)∧Hid (Below w1.heap.size w1 wr)) (fun _ _ i _=>ks.size-(RowKit.intOf i).toNat)
   case atStart=>exact⟨0,aC _,rfl,[],s,by rw[HX.o],aa ⟨af _,rfl,rfl⟩,aa VQ.o.1,aa VQ.o.2⟩
   case round=>
    obtain⟨k,hk',rfl,acc,t,rfl,HA,HO,HB⟩:=hrel
    by_cases hlt:k<ks.size
    ·have kX:(k:Int)<ks.size:=by omega
     have Ed:=Pk.mD ks.data.toList k hlt Qs.o
     change Pk.letter ks[k] true=true at Ed
     have jO:=aa (HA.o.2.1.trans (Pk.Lw acc ks.data.toList t k hlt))
     change Hid (_=match Pk.cR ks[k] t with|none=>none|some p=>_) at jO
     have Oq:=aa (fun W=>vW ks[k] t W Ed (by have:=HA.o.1;have:=HS.o;omega))
     clear Ed
     cases Ky:Pk.cR ks[k] t with
     |none=>
      rw[Ky] at jO Oq
      change Hid (_=none) at jO
      clear Ky
      unfold Q3 Om at Oq
      simp only at Oq
      go_wp2_with fail
      refine (Oq.o _).mono ?_
      rintro e w3 ⟨rfl,bY⟩
      have p8:=aa (HB.o.trans (bY.mono HB.o.size))
      clear bY
      go_wp2
      go_ret2
      exact⟨by rw[jO.o];exact rfl,p8.o.alloc p8.o.size _⟩
     |some p=>
      obtain⟨f,t'⟩:=p
      rw[Ky] at jO Oq
      change Hid (_=Pk.z8 (acc++[f]) (ks.data.toList.drop (k+1)) t') at jO
      have wo:=aa (Pk.Ca Ky)
      clear Ky
      unfold Q3 Om at Oq
      simp only at Oq
      obtain⟨n,fs⟩:=f
      obtain⟨Y,hY⟩:∃Y,Y=bs fs:=⟨_,rfl⟩
      have HY:=aa hY
      simp only[←hY] at Oq
      clear hY
      go_wp2_with fail
      refine (Oq.o _).mono ?_
      rintro e w3 ⟨rfl,bY⟩
      have p8:=aa (HB.o.trans (bY.mono HB.o.size))
      have RR:=aa (HO.o.below bY (af _))
      clear bY
      go_wp2_with (at_builtin;refine Hid.o ?_)
      refine aa ?_
      have Jy:=p8.o.size
      refine lR UR rfl _ _ rfl rfl ((RR.o.alloc _).alloc _) (by simp;omega) (w3.heap.size+1) 0 1 1 [⟨n,fs⟩] rfl rfl (a_.gh (cs:=[.int .u64 n,.string Y]) (by
       have:=aS.new (w3.alloc (.cells #[.int .u64 n,.string Y] 134)) #[.int .u64 n,.string Y] 134
       rw[bk] at this
       exact this) (by rw[HY.o];rfl)) (by have:=HA.o.2.2;omega) ?_
      intro v' w4 wu j6
      have H4:=aa (And.intro wu (((p8.o.alloc p8.o.size _).alloc (by simp;omega) _).trans ((aE.pV j6).below (by simp;omega) (fun i hi e=>by have:=(RR.o.block i e).1;omega))))
      clear wu j6 Jy
      go_wp2
      go_roundw
      case rel=>exact⟨k+1,by omega,by go_num,acc++[⟨n,fs⟩],t',rfl,aa ⟨by have:=HA.o.1;have:=wo.o.1;omega,jO.o,by rw[aq,HA.o.2.2];rfl⟩,aa H4.o.1,aa H4.o.2⟩
      case measure=>simp[RowKit.intOf];omega
    ·have yB:k=ks.size:=by omega
     subst yB
     have HE:=aa (show Pk.z8 [] ks.data.toList s=if t=[] then some acc else none by
      rw[HA.o.2.1,pK (by rw[Ic.o];exact af _)]
      rfl)
     by_cases ht:t=[]
     ·have HE1:=aa (HE.o.trans (if_pos ht))
      clear HE
      subst ht
      have hem:(bs ([]:List UInt8)).toList.isEmpty=true:=by rw[bE];rfl
      go_wp2
      go_ret2
      exact⟨by rw[HE1.o];exact⟨_,rfl,HO.o⟩,HB.o⟩
     ·have hne:(bs t).toList.isEmpty=false:=by
       rw[bE]
       cases t with
       |nil=>exact absurd rfl ht
       |cons _ _=>rfl
      have ur:¬bs t=⟨#[]⟩:=fun e=>ht ((vT t).1 e)
      go_wp2
      go_ret2
      exact⟨by rw[HE.o,if_neg ht];exact rfl,HB.o⟩
  ·have HV:Pk.read ks.data.toList s=none:=by
    cases hr:Pk.read ks.data.toList s with
    |none=>rfl
    |some l=>exact absurd (Pk.Lf hr).1 (by rw[Ic.o];exact ES)
   rw[HV]
   obtain⟨X,hX⟩:∃X,X=bs s:=⟨_,rfl⟩
   rw[←hX] at hsz ⊢
   have Gj:(ks.size:Int)>(X.size:Int)+1:=by omega
   have hXI:(X.size:Int)≤1000000:=by omega
   clear HV B8 ES hX hsz hs
   go_enter Tryz.func55,Tryz.ntmps55
   go_wp2_with fail
   refine (Oo.o _).mono ?_
   rintro e w1 ⟨rfl,rfl⟩
   go_wp2
   go_ret2
   exact⟨rfl,Below.refl _ _⟩
def UW (o:Option (Pk.Text×Pk.Text)):Value:=match o with
 |some (x,y)=>.tuple #[.string (bs x),.string (bs y),.bool true]
 |none=>.tuple #[.string ⟨#[]⟩,.string ⟨#[]⟩,.bool false]
namespace Pk
theorem r5 (s:Text):(Lib.indexByte s 0=-1∧cut s=none)∨∃o:Nat,Lib.indexByte s 0=o∧o<s.length∧cut s=some (s.take o,s.drop (o+1)):=by
 rcases (by omega:Lib.indexByte s 0<0∨0≤Lib.indexByte s 0) with h|h
 ·have h1:=Lib.indexByte_ge s 0
  have h2:Lib.indexByte s 0=-1:=by omega
  refine .inl ⟨h2,(nA s).2 fun hm=> ?_⟩
  obtain⟨k,hk⟩:=List.getElem?_of_mem hm
  exact Lib.indexByte_none h2 k hk
 ·obtain⟨o,ho⟩:∃o:Nat,Lib.indexByte s 0=o:=⟨(Lib.indexByte s 0).toNat,by omega⟩
  obtain⟨h1,h2⟩:=Lib.indexByte_some ho
  have hlt:o<s.length:=by
   rcases dw o s.length with h'|h'
   ·exact h'
   ·rw[List.getElem?_eq_none h'] at h1;cases h1
  refine .inr ⟨o,ho,hlt,D9 s o (fun hm=> ?_) hlt h1⟩
  obtain⟨k,hk⟩:=List.getElem?_of_mem hm
  have hk':k<o:=by
   rcases dw k o with h'|h'
   ·exact h'
   ·rw[List.getElem?_eq_none (by rw[aN];omega)] at hk;cases hk
  rw[List.getElem?_take,if_pos hk'] at hk
  exact h2 k hk' hk
end Pk
theorem vX (s:ByteArray) (w:World):Calls Tryz.prog 204 #[.string s,.int .u8 0] w fun e w'=>e=.returned (.int .i64 (Lib.indexByte s.data.toList 0))∧w'=w:=by
 go_enter Tryz.func204,Tryz.ntmps204
 go_wp2
 rw[run_callFunc_extern Tryz.func221 (by kernel_rfl) (by kernel_rfl) (by kernel_rfl) (e:=Extern.BytealgIndexByte.indexByte) (by kernel_rfl),Lib.run_indexByteString]
 simp only[Result.andThen]
 rw[Oper.upon_value]
 go_wp2
 go_ret
 exact⟨rfl,rfl⟩
theorem vY (s:ByteArray) (w:World):Calls Tryz.prog 172 #[.string s,.string ⟨#[0]⟩] w fun e w'=>e=.returned (.int .i64 (Lib.indexByte s.data.toList 0))∧w'=w:=by
 by_cases hs:s=⟨#[0]⟩
 ·subst hs
  have HV:Lib.indexByte (⟨#[0]⟩:ByteArray).data.toList 0=0:=by decide
  rw[HV]
  clear HV
  go_enter Tryz.func172,Tryz.ntmps172
  go_wp2
  go_ret
  exact⟨rfl,rfl⟩
 ·have hq:([(0:UInt8)]==s.toList)=false:=by
   rw[beq_eq_false_iff_ne]
   intro e
   apply hs
   apply ByteArray.ext
   apply Array.ext'
   rw[ByteArray.toList_eq] at e
   exact e.symm
  have HI:=aa (fun W=>vX s W)
  go_enter Tryz.func172,Tryz.ntmps172
  go_wp2_with fail
  refine (HI.o _).mono ?_
  rintro e w1 ⟨rfl,rfl⟩
  go_wp2
  go_ret
  exact⟨rfl,rfl⟩
theorem ym (s:ByteArray) (w:World) {i:Int} (HI:Hid (∀W,Calls Tryz.prog 172 #[.string s,.string ⟨#[0]⟩] W fun e w'=>e=.returned (.int .i64 i)∧w'=W)):Calls Tryz.prog 163 #[.string s,.string ⟨#[0]⟩] w fun e w'=>e=.returned (.int .i64 i)∧w'=w:=by
 go_enter Tryz.func163,Tryz.ntmps163
 go_wp2_with fail
 refine (HI.o _).mono ?_
 rintro e w1 ⟨rfl,rfl⟩
 go_wp2
 go_ret
 exact⟨rfl,rfl⟩
theorem zO (s:ByteArray) (w:World):Calls Tryz.prog 120 #[.string s,.string ⟨#[0]⟩] w fun e w'=>e=.returned (.bool (Pk.cut s.data.toList).isSome)∧w'=w:=by
 have HI:=aa (fun W=>vY s W)
 have hc:=Pk.r5 s.data.toList
 generalize Lib.indexByte s.data.toList 0=i at*
 rcases hc with⟨rfl,hc⟩|⟨o,rfl,_,hc⟩<;>rw[hc]<;>clear hc
 ·go_enter Tryz.func120,Tryz.ntmps120
  go_wp2_with fail
  refine (ym s w HI).mono ?_
  rintro e w1 ⟨rfl,rfl⟩
  go_wp2
  go_ret
  exact⟨rfl,rfl⟩
 ·go_enter Tryz.func120,Tryz.ntmps120
  go_wp2_with fail
  refine (ym s w HI).mono ?_
  rintro e w1 ⟨rfl,rfl⟩
  go_wp2
  go_ret
  exact⟨rfl,rfl⟩
theorem Lx (s:ByteArray) (w:World) (hs:s.size≤1000000):Calls Tryz.prog 76 #[.string s] w fun e w'=>e=.returned (.tuple (if (Pk.cut s.data.toList).isSome=true then #[.string ⟨#[]⟩,.bool false] else #[.string (bs (s.data.toList++[0])),.bool true]))∧w'=w:=by
 have xk:(s.size:Int)≤1000000:=by omega
 have HI:=aa (fun W=>zO s W)
 have Dm:s++⟨#[0]⟩=bs (s.data.toList++[0]):=by
  rw[←xg,L7];rfl
 rw[←Dm]
 clear Dm
 have hsum:s.size+(⟨#[0]⟩:ByteArray).size≤9223372036854775807:=by show s.size+1≤_;omega
 cases hc:(Pk.cut s.data.toList).isSome with
 |true=>
  rw[hc] at HI
  rw[if_pos rfl]
  clear hc
  go_enter Tryz.func76,Tryz.ntmps76
  go_wp2_with fail
  refine (HI.o _).mono ?_
  rintro e w1 ⟨rfl,rfl⟩
  go_wp2
  go_ret2
  exact⟨rfl,rfl⟩
 |false=>
  rw[hc] at HI
  rw[if_neg (by decide)]
  clear hc
  go_enter Tryz.func76,Tryz.ntmps76
  go_wp2_with fail
  refine (HI.o _).mono ?_
  rintro e w1 ⟨rfl,rfl⟩
  go_wp2
  go_ret2
  exact⟨rfl,rfl⟩
theorem Lz (s:ByteArray) (w:World) (hs:s.size≤1000000):Calls Tryz.prog 125 #[.string s,.string ⟨#[0]⟩] w fun e w'=>e=.returned (match Pk.cut s.data.toList with|some (x,y)=>.tuple #[.string (bs x),.string (bs y),.bool true]|none=>.tuple #[.string s,.string ⟨#[]⟩,.bool false])∧Below w.heap.size w w':=by
 have xk:(s.size:Int)≤1000000:=by omega
 have HI:=aa (fun W=>vY s W)
 have hc:=Pk.r5 s.data.toList
 generalize Lib.indexByte s.data.toList 0=i at*
 rcases hc with⟨rfl,hc⟩|⟨o,rfl,hlt,hc⟩<;>rw[hc]<;>clear hc
 ·go_enter Tryz.func125,Tryz.ntmps125
  go_wp2_with fail
  refine (HI.o _).mono ?_
  rintro e w1 ⟨rfl,rfl⟩
  go_wp2
  go_ret3
  exact⟨rfl,Below.refl _ _⟩
 ·have hlt':o<s.size:=by simpa using hlt
  have hoI:(o:Int)<s.size:=by omega
  have Oz:((o:Int)+1)≤s.size:=by omega
  have aa9:(o:Int)≤1000000:=by omega
  have e2:s.extract (o+1) s.size=bs (s.data.toList.drop (o+1)):=by
   apply ByteArray.ext;apply Array.ext';rw[kP];rfl
  have HV:=aa (show (Value.tuple #[.string (bs (s.data.toList.take o)),.string (bs (s.data.toList.drop (o+1))),.bool true])=.tuple #[.string (s.extract 0 o),.string (s.extract (o+1) s.size),.bool true] by rw[jz,e2])
  clear e2 hlt
  go_enter Tryz.func125,Tryz.ntmps125
  go_wp2_with fail
  refine (HI.o _).mono ?_
  rintro e w1 ⟨rfl,rfl⟩
  go_wp2_with fail
  go_region
  go_wp2
  go_ret3
  exact⟨congrArg Ending.returned HV.o.symm,ep _ 1⟩
theorem Cb (s:ByteArray) (V:Value) (w:World) (HI:Hid (∀W,Calls Tryz.prog 125 #[.string s,.string ⟨#[0]⟩] W fun e w'=>e=.returned V∧Below W.heap.size W w')) (a b c:Value) (hV:V=.tuple #[a,b,c]):Calls Tryz.prog 84 #[.string s,.string ⟨#[0]⟩] w fun e w'=>e=.returned V∧Below w.heap.size w w':=by
 subst hV
 go_enter Tryz.func84,Tryz.ntmps84
 go_wp2_with fail
 refine (HI.o _).mono ?_
 rintro e w1 ⟨rfl,hb⟩
 have HB:=aa hb
 clear hb
 go_wp2
 go_ret3
 exact⟨rfl,HB.o⟩
theorem LA (s:ByteArray) (w:World) (hs:s.size≤1000000):Calls Tryz.prog 54 #[.string s] w fun e w'=>e=.returned (UW (Pk.cut s.data.toList))∧Below w.heap.size w w':=by
 have HI:=aa (fun W=>Lz s W hs)
 have hl:s.data.toList.length=s.size:=aZ
 rcases Pk.r5 s.data.toList with⟨_,hc⟩|⟨o,_,hlt,hc⟩
 ·rw[hc] at HI ⊢
  clear hc
  simp only at HI
  go_enter Tryz.func54,Tryz.ntmps54
  go_wp2_with fail
  refine (Cb s _ w HI _ _ _ rfl).mono ?_
  rintro e w1 ⟨rfl,hb⟩
  have HB:=aa hb
  clear hb
  go_wp2
  go_ret3
  exact⟨rfl,HB.o⟩
 ·rw[hc] at HI ⊢
  clear hc
  simp only at HI
  have NA:=aa (fun W=>mC (bs (s.data.toList.take o)) W (by rw[aK,aN];omega))
  have mN:=aa (fun W=>mC (bs (s.data.toList.drop (o+1))) W (by rw[aK,aT];omega))
  have HV:=aa (show UW (some (s.data.toList.take o,s.data.toList.drop (o+1)))=.tuple #[.string (bs (s.data.toList.take o)),.string (bs (s.data.toList.drop (o+1))),.bool true] from rfl)
  generalize bs (s.data.toList.take o)=X at*
  generalize bs (s.data.toList.drop (o+1))=Y at*
  go_enter Tryz.func54,Tryz.ntmps54
  go_wp2_with fail
  refine (Cb s _ w HI _ _ _ rfl).mono ?_
  rintro e w1 ⟨rfl,hb⟩
  have HB:=aa hb
  clear hb
  go_wp2_with fail
  refine (NA.o _).mono ?_
  rintro e w2 ⟨rfl,aP⟩
  have fC:=aa (HB.o.trans (aP.mono HB.o.size))
  clear aP
  go_wp2_with fail
  refine (mN.o _).mono ?_
  rintro e w3 ⟨rfl,bY⟩
  have p8:=aa (fC.o.trans (bY.mono fC.o.size))
  clear bY
  go_wp2
  go_ret3
  exact⟨congrArg Ending.returned HV.o.symm,p8.o⟩
namespace Nm
theorem Eh (c:UInt8):letter c=((decide (97≤c.toNat)&&decide (c.toNat≤122))||(decide (48≤c.toNat)&&decide (c.toNat≤57))||decide (c.toNat=45)):=by
 have h1:(c==45)=decide (c.toNat=45):=by
  rw[jc,beq_iff_eq,decide_eq_true_eq]
  exact⟨fun e=>by rw[e];rfl,fun e=>UInt8.toNat.inj e⟩
 unfold letter
 rw[h1]
 rfl
end Nm
theorem zP (c:UInt8) (w:World):Calls Tryz.prog 75 #[.int .u8 c.toNat] w fun e w'=>e=.returned (.bool (Nm.letter c))∧w'=w:=by
 rw[Nm.Eh]
 generalize c.toNat=n
 by_cases h1:97≤n
 ·have Oz:(97:Int)≤n:=by omega
  by_cases h2:n≤122
  ·have RU:(n:Int)≤122:=by omega
   rw[decide_eq_true h1,decide_eq_true h2]
   go_enter Tryz.func75,Tryz.ntmps75
   go_wp2
   go_ret
   exact⟨rfl,rfl⟩
  ·have RU:¬(n:Int)≤122:=by omega
   have VR:(48:Int)≤n:=by omega
   have h4I:¬(n:Int)≤57:=by omega
   have h5I:((n:Int)==45)=false:=by rw[beq_eq_false_iff_ne];omega
   rw[decide_eq_true h1,decide_eq_false h2,decide_eq_false (show ¬n≤57 by omega),decide_eq_false (show ¬n=45 by omega)]
   go_enter Tryz.func75,Tryz.ntmps75
   go_wp2
   go_ret
   exact⟨by simp,rfl⟩
 ·have Oz:¬(97:Int)≤n:=by omega
  by_cases h3:48≤n
  ·have VR:(48:Int)≤n:=by omega
   have h5I:((n:Int)==45)=false:=by rw[beq_eq_false_iff_ne];omega
   rw[decide_eq_false h1,decide_eq_true h3,decide_eq_false (show ¬n=45 by omega)]
   by_cases h4:n≤57
   ·have h4I:(n:Int)≤57:=by omega
    rw[decide_eq_true h4]
    go_enter Tryz.func75,Tryz.ntmps75
    go_wp2
    go_ret
    exact⟨rfl,rfl⟩
   ·have h4I:¬(n:Int)≤57:=by omega
    rw[decide_eq_false h4]
    go_enter Tryz.func75,Tryz.ntmps75
    go_wp2
    go_ret
    exact⟨rfl,rfl⟩
  ·have VR:¬(48:Int)≤n:=by omega
   rw[decide_eq_false h1,decide_eq_false h3]
   by_cases h5:n=45
   ·subst h5
    go_enter Tryz.func75,Tryz.ntmps75
    go_wp2
    go_ret
    exact⟨rfl,rfl⟩
   ·have h5I:((n:Int)==45)=false:=by rw[beq_eq_false_iff_ne];omega
    rw[decide_eq_false h5]
    go_enter Tryz.func75,Tryz.ntmps75
    go_wp2
    go_ret
    exact⟨rfl,rfl⟩
namespace Nm
theorem LB (s:ByteArray) (k:Nat) (h:k<s.size):(s.data.toList.drop k).all letter=(letter s[k]&&(s.data.toList.drop (k+1)).all letter):=by
 rw[cm (show k<s.data.toList.length from h),List.all_cons]
 rfl
theorem UX (c:UInt8):(c !=45)=((c.toNat:Int) !=45):=by
 rw[jc,bne_iff_ne,bne_iff_ne]
 exact⟨fun h e=>h (UInt8.toNat.inj (Int.ofNat.inj e)),fun h e=>h (by rw[e];rfl)⟩
theorem sP (s:ByteArray) (h:0<s.size):bucket s.data.toList=(decide (3≤s.size)&&decide (s.size≤16)&&((s[0].toNat:Int) !=45)&&((s[s.size-1].toNat:Int) !=45)&&s.data.toList.all letter):=by
 unfold bucket
 have hl:s.data.toList.length=s.size:=aZ
 have h1:s.data.toList.head?=some s[0]:=by
  rw[List.head?_eq_getElem?,aJ (by omega)];rfl
 have h2:s.data.toList.getLast?=some s[s.size-1]:=by
  rw[List.getLast?_eq_getElem?,aJ (by omega)]
  simp only[hl];rfl
 have e:∀c:UInt8,(some c !=some 45)=(c !=45):=fun c=>by
  rw[jc,bne_iff_ne,bne_iff_ne];simp
 rw[h1,h2,hl,e,e,UX,UX]
end Nm
theorem vZ (s:ByteArray) (w:World):Calls Tryz.prog 48 #[.string s] w fun e w'=>e=.returned (.bool (Nm.bucket s.data.toList))∧w'=w:=by
 by_cases h3:3≤s.size
 ·have VR:¬(s.size:Int)<3:=by omega
  by_cases h16:s.size≤16
  ·have Y6:¬(s.size:Int)>16:=by omega
   rw[Nm.sP s (by omega),decide_eq_true h3,decide_eq_true h16]
   go_enter Tryz.func48,Tryz.ntmps48
   go_wp2
   go_loop [3] (fun i=>∃k:Nat,k≤s.size∧i=.int .i64 k∧Hid (s.data.toList.all Nm.letter=(s.data.toList.drop k).all Nm.letter)) (fun i=>s.size-(RowKit.intOf i).toNat)
   case atStart=>exact⟨0,aC _,rfl,aa rfl⟩
   case round=>
    obtain⟨k,hk,rfl,HR⟩:=hrel
    by_cases hlt:k<s.size
    ·have HS:=aa (HR.o.trans (Nm.LB s k hlt))
     clear HR
     have kX:(k:Int)<s.size:=by omega
     have hk1:(k:Int)≤1000:=by omega
     have HL:=aa (fun W=>zP s[k] W)
     cases hc:Nm.letter s[k] with
     |true=>
      rw[hc] at HS HL
      clear hc
      go_wp2_with fail
      refine (HL.o _).mono ?_
      rintro e w1 ⟨rfl,rfl⟩
      go_wp2
      go_round
      case rel=>exact⟨k+1,by omega,by go_num,aa (by rw[HS.o];rfl)⟩
      case measure=>simp[RowKit.intOf];omega
     |false=>
      rw[hc] at HS HL
      clear hc
      go_wp2_with fail
      refine (HL.o _).mono ?_
      rintro e w1 ⟨rfl,rfl⟩
      go_wp2
      go_ret
      exact⟨by rw[HS.o];simp,rfl⟩
    ·have yB:k=s.size:=by omega
     subst yB
     have HS:=aa (show s.data.toList.all Nm.letter=true by rw[HR.o,pK (by rw[aZ];exact af _)];rfl)
     clear HR
     have h0:(0:Int)<s.size:=by omega
     cases hf:((s[0].toNat:Int) !=45) with
     |true=>
      cases hg:((s[s.size-1].toNat:Int) !=45) with
      |true=>
       go_wp2
       go_ret
       exact⟨by rw[HS.o,hf,hg];rfl,rfl⟩
      |false=>
       go_wp2
       go_ret
       exact⟨by rw[HS.o,hf,hg];rfl,rfl⟩
     |false=>
      go_wp2
      go_ret
      exact⟨by rw[HS.o,hf];rfl,rfl⟩
  ·have Y6:(s.size:Int)>16:=by omega
   rw[Nm.sP s (by omega),decide_eq_true h3,decide_eq_false h16]
   go_enter Tryz.func48,Tryz.ntmps48
   go_wp2
   go_ret
   exact⟨rfl,rfl⟩
 ·have VR:(s.size:Int)<3:=by omega
  have hb:Nm.bucket s.data.toList=false:=by
   unfold Nm.bucket
   rw[show s.data.toList.length=s.size from aZ,decide_eq_false h3];rfl
  rw[hb]
  go_enter Tryz.func48,Tryz.ntmps48
  go_wp2
  go_ret
  exact⟨rfl,rfl⟩
namespace Nm
theorem LC (s:Pk.Text):s.contains 0=(Pk.cut s).isSome:=by
 cases h:Pk.cut s with
 |none=>simp[(Pk.nA s).1 h]
 |some p=>
  have:(0:UInt8)∈s:=by
   refine Decidable.byContradiction fun hn=> ?_
   rw[(Pk.nA s).2 hn] at h;cases h
  simp[this]
end Nm
namespace Nm
theorem Ei {kind:UInt8} {parts:List Pk.Text} {k:Nat} (hk:k<parts.length) (h:(Pk.cut parts[k]).isSome=true):under kind parts=[]:=by
 unfold under
 rw[if_pos]
 exact List.any_eq_true.2 ⟨_,bB hk,by rw[LC];exact h⟩
theorem Ie {kind:UInt8} {parts:List Pk.Text} (h:∀p∈parts,Pk.cut p=none):under kind parts=kind::parts.flatMap (· ++[0]):=
 vN fun p hp=>(Pk.nA p).1 (h p hp)
theorem Ig {parts:List Pk.Text} {k:Nat} (hk:k<parts.length) (h:∀p∈parts.take k,Pk.cut p=none) (h2:Pk.cut parts[k]=none):∀p∈parts.take (k+1),Pk.cut p=none:=by
 intro p hp
 rw[cI hk] at hp
 rcases ah.1 hp with hp|hp
 ·exact h p hp
 ·rw[cH.1 hp];exact h2
theorem Ih {parts:List Pk.Text} {k:Nat} (hk:k<parts.length) (kind:UInt8):(kind::(parts.take k).flatMap (· ++[0]))++(parts[k]++[0])=kind::(parts.take (k+1)).flatMap (· ++[0]):=by
 rw[cI hk,List.flatMap_append,List.flatMap_singleton,gD]
theorem take_len {parts:List Pk.Text} (hp:∀i (hi:i<parts.length),parts[i].length≤10000):∀k,k≤parts.length→((parts.take k).flatMap (· ++[0])).length≤10001*k
 |0,_=>by simp
 |k+1,h=>by
  have ih:=take_len hp k (by omega)
  have:=hp k (by omega)
  rw[cI (show k<parts.length by omega),List.flatMap_append,List.flatMap_singleton,aq,aq,eH]
  omega
end Nm
theorem Cc (w:World) (c:UInt8):gi w.heap.size (w.alloc (.cells #[.int .u8 c.toNat] 5)) (.slice (some ⟨w.heap.size,0,none⟩) 1 1) [c]:=
 World.ownsRow_lit w #[.int .u8 c.toNat] 1 (af _) (by decide) rfl
theorem yp (kind:UInt8) (v:Value) (parts:List Pk.Text) (w:World) (hr:Reads w v parts) (hp:∀i (hi:i<parts.length),parts[i].length≤10000) (hl:parts.length≤100):
  Calls Tryz.prog 49 #[.int .u8 kind.toNat,v] w fun e w'=>e=.returned (.string (bs (Nm.under kind parts)))∧Below w.heap.size w w':=by
 obtain⟨a,cap,rfl,hcap,hcells⟩:=hr
 have HC:=aa hcells
 have HP:=aa hp
 obtain⟨L,hL⟩:∃L,L=parts.length:=⟨_,rfl⟩
 have HL:=aa hL
 have Dl:(L:Int)≤100:=by omega
 have VS:=aa (Cc w kind)
 have fY:=aa (show Below w.heap.size w (w.alloc (.cells #[.int .u8 kind.toNat] 5)) from (Below.refl _ _).alloc (af _) _)
 rw[←hL]
 clear hcells hp hL
 generalize (kind.toNat:Int)=K at*
 go_enter Tryz.func49,Tryz.ntmps49
 go_wp2_with fail
 go_loopw [5,14] (fun u i wr=>∃k:Nat,k≤L∧i=.int .i64 k∧Hid (∀p∈parts.take k,Pk.cut p=none)∧Hid (gi w.heap.size wr u (kind::(parts.take k).flatMap (· ++[0])))∧Hid (Below w.heap.size w wr)) (fun _ i _=>L-(RowKit.intOf i).toNat)
 case atStart=>exact⟨0,aC _,rfl,aa (fun p h=>by cases h),VS,fY⟩
 case round=>
  obtain⟨k,hk',rfl,HA,HO,HB⟩:=hrel
  by_cases hlt:k<L
  ·have kX:(k:Int)<L:=by omega
   have hk1:k<parts.length:=by have:=HL.o;omega
   obtain⟨g,o,rfl,hg,hc⟩:=HC.o k hk1
   have c0:wr.cell? ⟨g,o+k,none⟩=some (.string (bs parts[k])):=(HB.o.cell (p:=⟨g,o+k,none⟩) hg).trans (hc k hk1)
   have hpk:=HP.o k hk1
   have pM:=aa (fun W=>Lx (bs parts[k]) W (by rw[aK];omega))
   rw[bO] at pM
   obtain⟨X,hX⟩:∃X,X=bs parts[k]:=⟨_,rfl⟩
   rw[←hX] at c0 pM
   clear hX
   have HK:=aa hpk
   clear hc hpk
   cases hz:(Pk.cut parts[k]).isSome with
   |true=>
    rw[hz,if_pos rfl] at pM
    have HZ:=aa (Nm.Ei (kind:=kind) hk1 hz)
    clear hz
    go_wp2_with fail
    refine (pM.o _).mono ?_
    rintro e w1 ⟨rfl,rfl⟩
    go_wp2
    go_ret
    exact⟨by rw[HZ.o];rfl,HB.o⟩
   |false=>
    rw[hz,if_neg (by decide)] at pM
    have HN:=aa (Nm.Ig hk1 HA.o (by cases e:Pk.cut parts[k] with|none=>rfl|some p=>rw[e] at hz;cases hz))
    have HT:=aa (Nm.Ih hk1 kind)
    have qu:=aa (Nm.take_len HP.o k (by omega))
    clear hz
    obtain⟨Y,hY⟩:∃Y,Y=bs (parts[k]++[0]):=⟨_,rfl⟩
    have HY:=aa hY
    rw[←hY] at pM
    clear hY
    go_wp2_with fail
    refine (pM.o _).mono ?_
    rintro e w1 ⟨rfl,rfl⟩
    go_wp2_with (at_builtin;refine Hid.o ?_)
    refine aa ?_
    refine ji rfl _ _ rfl rfl HO.o HB.o.size (parts[k]++[0]) (congrArg Value.string HY.o) (by rw[aW,aq,eH];have:=qu.o;have:=HK.o;omega) ?_
    intro v' w4 wu j6
    rw[HT.o] at wu
    have Y7:=aa wu
    have sU:=aa (jN HB.o HO.o (af _) j6)
    clear wu j6 c0
    go_wp2
    go_roundw
    case rel=>exact⟨k+1,by omega,by go_num,HN,Y7,sU⟩
    case measure=>simp[RowKit.intOf];omega
  ·have yB:k=L:=by omega
   subst yB
   have hbk:=gi.back HO.o
   have HV:=aa (show kind::(parts.take k).flatMap (· ++[0])=Nm.under kind parts by
    have h1:=HA.o
    rw[HL.o,List.take_length] at h1 ⊢
    exact (Nm.Ie h1).symm)
   rw[HV.o] at hbk
   go_wp2
   go_ret
   exact⟨rfl,HB.o⟩
theorem yq (w:World) (l:List Pk.Text):Reads (w.alloc (.cells (l.map fun s=>Value.string (bs s)).toArray 9)) (.slice (some ⟨w.heap.size,0,none⟩) l.length l.length) l:=by
 have hB:=aS.new w (l.map fun s=>Value.string (bs s)).toArray 9
 refine⟨_,_,rfl,af _,fun i _=>⟨w.heap.size,0,rfl,by simp,fun j hj=> ?_⟩⟩
 rw[bV]
 refine hB.cell ?_
 rw[cJ,aJ hj];rfl
theorem Ii (kind:UInt8) (b:ByteArray) (W:World) (hb:b.size≤10000):Calls Tryz.prog 49 #[.int .u8 kind.toNat,.slice (some ⟨W.heap.size,0,none⟩) 1 1] (W.alloc (.cells #[.string b] 9)) fun e w'=>e=.returned (.string (bs (Nm.under kind [b.data.toList])))∧Below (W.alloc (.cells #[.string b] 9)).heap.size (W.alloc (.cells #[.string b] 9)) w':=
 yp kind _ [b.data.toList] _ (yq W [b.data.toList]) (by
  intro i hi
  have h0:i=0:=by simp at hi;omega
  subst h0
  show b.data.toList.length≤_
  rw[aZ];exact hb) (show 1≤100 by decide)
namespace Nm
def Ot (b:Pk.Text):Pk.Text:=if bucket b then under 98 [b] else []
end Nm
theorem gA (b:ByteArray) (w:World):Calls Tryz.prog 30 #[.string b] w fun e w'=>e=.returned (.string (bs (Nm.Ot b.data.toList)))∧Below w.heap.size w w':=by
 have Cn:=aa (fun W=>vZ b W)
 have td:b.data.toList.length=b.size:=aZ
 unfold Nm.Ot
 cases hb:Nm.bucket b.data.toList with
 |false=>
  rw[hb] at Cn
  rw[if_neg (by decide)]
  clear hb td
  go_enter Tryz.func30,Tryz.ntmps30
  go_wp2_with fail
  refine (Cn.o _).mono ?_
  rintro e w1 ⟨rfl,rfl⟩
  go_wp2
  go_ret
  exact⟨rfl,Below.refl _ _⟩
 |true=>
  rw[hb] at Cn
  rw[if_pos rfl]
  have h1:=Nm.pH hb
  have HU:=aa (fun W=>Ii 98 b W (by omega))
  rw[show ((98:UInt8).toNat:Int)=98 from rfl] at HU
  generalize bs (Nm.under 98 [b.data.toList])=X at*
  clear hb td h1
  go_enter Tryz.func30,Tryz.ntmps30
  go_wp2_with fail
  refine (Cn.o _).mono ?_
  rintro e w1 ⟨rfl,rfl⟩
  go_wp2_with fail
  refine (HU.o _).mono ?_
  rintro e w3 ⟨rfl,bY⟩
  have p8:=aa (((Below.refl _ w1).alloc (af _) _).trans (bY.mono (by simp)))
  clear bY
  go_wp2
  go_ret
  exact⟨rfl,p8.o⟩
end
end Go.Proofs.YtebbahjombdalaaGreatDoor
