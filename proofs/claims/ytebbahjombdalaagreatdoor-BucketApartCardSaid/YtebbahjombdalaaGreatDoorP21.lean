/- Elder texts, cut down and merged (21). -/
import Derived.Test.YtebbahjombdalaaGreatDoorP20
import Derived.Test.YtebbahjombdalaaGreatDoorP18
import Derived.Test.YtebbahjombdalaaGreatDoorP2
import Derived.Test.YtebbahjombdalaaGreatDoorP6
import Derived.Deep.CutBlock
import Derived.Deep.DeepCutAuto
import Derived.Test.YtebbahjombdalaaGreatDoorPTk
set_option maxRecDepth 100000
set_option maxHeartbeats 8000000
namespace Go.Proofs.YtebbahjombdalaaGreatDoor
open World renaming alloc→dO
open Nat renaming le_succ→jh,le_trans→aG,add_assoc→gd,le_refl→af,zero_le→aC
open Bool renaming and_eq_true→fy
section
open Go.RowKit Lib
namespace Bk
def abc:Text:=[97,98,99]
def Q9:List B:=[⟨abc,0,7,false,[],0⟩]
def Er:List B:=[⟨abc,1,7,false,[],0⟩]
theorem gH:make [] abc 7=(Q9,0)∧setState Q9 abc 1=(Er,0)∧err Er abc=0∧seen Er abc=⟨abc,1,7,false,[],0⟩∧make Er abc 8=(Er,21):=by decide+kernel
theorem U_:Fit Q9:=by
 have:=Fit.make Fit.nil abc 7 (by decide)
 rwa [gH.1] at this
theorem Q_:Fit Er:=by
 have:=Fit.setState U_ abc 1
 rwa [gH.2.1] at this
end Bk
theorem Ci {w X:World} {A:Nat→Prop} {g b xb n:Nat} (h:C1 A 200 g 1 b xb (Wl.dz n) [] X) (hA:∀k,k<w.heap.size→A k) (hb:Below w.heap.size w X) (h1:3≤n) (h2:n≤4098):
  BH w X.heap.size n [] 0 (fun _=>False) (fun _=>True) (X.alloc (.cells #[ptr xb] 74)):=Ld h hA hb h1 h2 (by decide)
theorem Cj (w:World):Calls Tryz.prog 5 #[] w fun e w'=>e=.returned (.bool true)∧Below w.heap.size w w':=by
 go_enter Tryz.func5,Tryz.ntmps5
 go_wp2_with fail
 refine (BV w 40 (by decide) (by decide)).mono ?_
 rintro e w2 ⟨g,b,rfl,hk2,aP⟩
 have H2:=aa (And.intro hk2 aP)
 clear hk2 aP
 go_wp2_with fail
 refine (AL H2.o.1).mono ?_
 rintro e w3 ⟨xb,rfl,h3,bY⟩
 have H3:=aa (And.intro h3 (H2.o.2.trans (bY.mono H2.o.2.size)))
 clear h3 bY
 go_wp2_with fail
 refine (Fg w3 xb).mono ?_
 rintro e w4 ⟨rfl,rfl⟩
 have H4:=aa (Ci (w:=w) H3.o.1 (fun k hk=>hk) H3.o.2 (by decide) (by decide))
 generalize dO w3 _=W at*
 generalize w3.heap.size=rb at*
 have VU:=aa (zR H4.o Bk.Fit.nil Bk.abc 7 (by decide) (by decide) (by decide))
 rw[Bk.gH.1] at VU
 clear H2 H3 H4
 unfold ptr at VU ⊢
 go_wp2_with fail
 refine VU.o.mono ?_
 rintro e w5 ⟨rfl,h5⟩
 have IG:=aa (sR h5 Bk.U_ Bk.abc 1 (by decide) (by decide))
 rw[Bk.gH.2.1] at IG
 unfold ptr at IG
 clear h5 VU
 go_wp2_with fail
 refine IG.o.mono ?_
 rintro e w6 ⟨rfl,h6⟩
 have VV:=aa (nY h6 Bk.Q_ Bk.abc)
 rw[Bk.gH.2.2.1,Bk.gH.2.2.2.1,show qV ⟨Bk.abc,1,7,false,[],0⟩=.agg #[.string ⟨#[97,98,99]⟩,.int .i64 1,.int .u64 7,.bool false,.string ⟨#[]⟩,.int .u64 0] from rfl] at VV
 unfold ptr at VV
 clear h6 IG
 go_wp2_with fail
 refine VV.o.mono ?_
 rintro e w7 ⟨rfl,h7⟩
 obtain⟨K1,Q1,h8,_,hq⟩:=h7.boxed #[.string ⟨#[97,98,99]⟩,.int .i64 1,.int .u64 7,.bool false,.string ⟨#[]⟩,.int .u64 0] 46
 have VW:=aa (LG h8 Bk.Q_ (by decide))
 have HQ:=aa (show ∀Y,Q1 Y→aS Y w7.heap.size 46 [.string ⟨#[97,98,99]⟩,.int .i64 1,.int .u64 7,.bool false,.string ⟨#[]⟩,.int .u64 0] from hq)
 unfold ptr at VW
 clear h7 VV h8 hq
 rw[show Bk.Er.length=1 from rfl] at VW
 go_wp2_with fail
 generalize w7.heap.size=gb at*
 refine VW.o.mono ?_
 rintro e w8 ⟨g8,K2,Q2,rfl,h9,Jc⟩
 have VX:=aa (zR h9 Bk.Q_ Bk.abc 8 (by decide) (by decide) (by decide))
 rw[Bk.gH.2.2.2.2] at VX
 unfold ptr at VX
 have HQ2:=aa (fun Y hY=>HQ.o Y (Jc Y hY).1)
 clear h9 VW Jc
 go_wp2_with fail
 refine VX.o.mono ?_
 rintro e w9 ⟨rfl,h9⟩
 obtain⟨x0,x1,x2,x3,x4,x5⟩:=six (HQ2.o _ h9.q)
 have H9:=aa h9.below
 clear h9 VX
 go_wp2
 go_ret
 exact⟨rfl,H9.o⟩
end
namespace Bk
variable {l:List B}
theorem LH (n:Text) (now:Nat):(make l n now).1.length≤l.length+1:=by
 unfold make
 split
 ·exact jh _
 ·split
  ·exact jh _
  ·exact jA _
theorem zS (n:Text) (s:Int):(setState l n s).1.length≤l.length+1:=by
 unfold setState
 split
 ·exact jh _
 ·split
  ·exact jh _
  ·exact aG (Nat.le_of_eq vO) (jh _)
theorem Ck (n:Text) (on:Bool) (pre:Text) (after:Nat):(ed l n on pre after).1.length≤l.length+1:=by
 unfold ed
 split
 ·exact jh _
 ·split
  ·exact jh _
  ·exact aG (Nat.le_of_eq vO) (jh _)
theorem Cl (n:Text):(dropped l n).1.length≤l.length+1:=by
 unfold dropped
 split
 ·exact jh _
 ·exact aG drop_length (jh _)
theorem Es {b:B} (h:(restore [] b).2=0):(restore [] b).1=ins [] b∧Nm.bucket b.name=true:=by
 unfold restore at h ⊢
 cases h1:Nm.bucket b.name with
 |false=>rw[h1,if_pos rfl] at h;cases h
 |true=>
  rw[h1,if_neg (by decide)] at h
  rw[if_neg (by decide)]
  by_cases h2:b.state<0∨2<b.state∨wrong b.on b.pre b.after=true
  ·rw[if_pos h2] at h;cases h
  ·rw[if_neg h2];exact⟨rfl,rfl⟩
theorem LJ (b:B):find (ins [] b) b.name=some b:=by rw[BZ,if_pos rfl]
theorem Ip {n:Text} {b:B} (h1:Nm.bucket n=true) (h2:find l n=some b):err l n=0:=by
 unfold err
 rw[h1,if_neg (by decide),h2]
 rfl
end Bk
set_option maxRecDepth 100000
open Go.ChangeShapes Go.WideShapes Go.ChangeAt Go.RowKit Lib
theorem r6 {m:Int} (hw:(Lit.int .u64 m).wf=true):∃n:Nat,m=n∧n<2^64:=by
 simp only[Lit.wf,fy,decide_eq_true_eq] at hw
 obtain⟨h1,h2⟩:=hw
 change (0:Int)≤m at h1
 change m≤18446744073709551615 at h2
 exact⟨m.toNat,by omega,by omega⟩
structure wj where
 what:Int
 state:Int
 name:ByteArray
 now:Nat
 on:Bool
 pre:ByteArray
 after:Nat
instance:Inhabited wj:=⟨⟨0,0,.empty,0,false,.empty,0⟩⟩
structure wj.ok (x:wj):Prop where
 w1:-9223372036854775808≤x.what∧x.what≤9223372036854775807
 s1:-9223372036854775808≤x.state∧x.state≤9223372036854775807
 n1:x.now<2^64
 a1:x.after<2^64
def wj.cells (x:wj):List Value:=[.int .i64 x.what,.int .i64 x.state,.string x.name,.int .u64 x.now,.bool x.on,.string x.pre,.int .u64 x.after]
def wk (w:World) (v:Value) (l:List wj):Prop:=
 ∃(a:Option Addr) (cap:Nat),v=.slice a l.length cap∧l.length≤cap∧l.length≤9223372036854775807∧∀i (hi:i<l.length),l[i].ok∧∃g o,a=some ⟨g,o,none⟩∧g<w.heap.size∧
  ∀j (hj:j<l.length) m,m<7→w.cell? ⟨g,o+(j*7+m),none⟩=l[j].cells[m]?
theorem Fw {H:Type} {enc:TypeId×Value→H} {W:World} {n:Nat} {cs:List Value} {y:DataW H×List MemPlace} (AK:cs.length=3)
  (h:DataW.trod enc Tryz.prog W 0 (fun _=>true) true n 38 cs=some y):∃(on:Bool) (pre:ByteArray) (after:Nat),cs=[.bool on,.string pre,.int .u64 after]∧after<2^64:=by
 obtain⟨xs,k,_,_,_,hxl,hf⟩:=DataW.trod_struct Tryz.underlying38 h
 have ci:Tryz.prog.cellsOf 33=1:=by kernel_rfl
 have cb:Tryz.prog.cellsOf 4=1:=by kernel_rfl
 have cs':Tryz.prog.cellsOf 9=1:=by kernel_rfl
 match xs,hxl,cs,AK with
 |[y0,y1,y2],_,[v0,v1,v2],_=>
  have g0:=hf 0 _ rfl
  have g1:=hf 1 _ rfl
  have g2:=hf 2 _ rfl
  simp[ci,cs',cb] at g0 g1 g2
  obtain⟨b0,e0,_⟩:=DataW.trod_bool Tryz.underlying4 g0
  obtain⟨s1,e1,_,_⟩:=DataW.trod_string Tryz.underlying9 g1
  obtain⟨m2,e2,_,jT⟩:=DataW.trod_int Tryz.underlying33 g2
  injection e0 with e0 _
  injection e1 with e1 _
  injection e2 with e2 _
  subst e0 e1 e2
  obtain⟨n,rfl,hn⟩:=r6 jT
  exact⟨b0,s1,n,rfl,hn⟩
theorem Ov {H:Type} {enc:TypeId×Value→H} {W:World} {n:Nat} {cs:List Value} {y:DataW H×List MemPlace} (AK:cs.length=7)
  (h:DataW.trod enc Tryz.prog W 0 (fun _=>true) true n 40 cs=some y):∃x:wj,cs=x.cells∧x.ok:=by
 obtain⟨xs,k,_,_,_,hxl,hf⟩:=DataW.trod_struct Tryz.underlying40 h
 have ci:Tryz.prog.cellsOf 3=1:=by kernel_rfl
 have cu:Tryz.prog.cellsOf 33=1:=by kernel_rfl
 have cs':Tryz.prog.cellsOf 9=1:=by kernel_rfl
 have cr:Tryz.prog.cellsOf 38=3:=by kernel_rfl
 match xs,hxl,cs,AK with
 |[y0,y1,y2,y3,y4],_,[v0,v1,v2,v3,v4,v5,v6],_=>
  have g0:=hf 0 _ rfl
  have g1:=hf 1 _ rfl
  have g2:=hf 2 _ rfl
  have g3:=hf 3 _ rfl
  have g4:=hf 4 _ rfl
  simp[ci,cu,cs',cr] at g0 g1 g2 g3 g4
  obtain⟨m0,e0,_,hw0⟩:=DataW.trod_int Tryz.underlying3 g0
  obtain⟨m1,e1,_,hw1⟩:=DataW.trod_int Tryz.underlying3 g1
  obtain⟨s2,e2,_,_⟩:=DataW.trod_string Tryz.underlying9 g2
  obtain⟨m3,e3,_,kO⟩:=DataW.trod_int Tryz.underlying33 g3
  obtain⟨on,pre,after,e4,h4⟩:=Fw rfl g4
  injection e0 with e0 _
  injection e1 with e1 _
  injection e2 with e2 _
  injection e3 with e3 _
  injection e4 with e4 e5
  injection e5 with e5 e6
  injection e6 with e6 _
  subst e0 e1 e2 e3 e4 e5 e6
  obtain⟨n,rfl,hn⟩:=r6 kO
  exact⟨⟨m0,m1,s2,n,on,pre,after⟩,rfl,⟨CD hw0,CD hw1,hn,h4⟩⟩
theorem Iq {H:Type} {enc:TypeId×Value→H} {W:World} {base:Nat} {v:Value} {d:DataW H} {p:List MemPlace}
  (hval:Value.okWide Tryz.prog W .any base 22 v) (hd:DataW.Trod enc Tryz.prog W 0 (fun _=>true) true 22 v d p):∃l,wk W v l:=by
 obtain⟨a,n,cap,rfl⟩:=okWide_slice Tryz.underlying22 hval
 obtain⟨f,hf⟩:=hd
 obtain⟨l,a,cap,e,h1,h2,h3⟩:=Pv (W:=W) (fun x:wj=>x.cells) (fun x=>x.ok) Tryz.underlying22 (c:=7) (by kernel_rfl) (by decide) (fun n cs y hl h=>Ov hl h) hf
 exact⟨l,a,cap,e,h1,h2,h3⟩
theorem Ir {H:Type} {enc:TypeId×Value→H} {W:World} {base:Nat} {v:Value} {d:DataW H} {p:List MemPlace}
  (hval:Value.okWide Tryz.prog W .any base 46 v) (hd:DataW.Trod enc Tryz.prog W 0 (fun _=>true) true 46 v d p):
  ∃(n:ByteArray) (s:Int) (born:Nat) (on:Bool) (pre:ByteArray) (after:Nat),v=.agg #[.string n,.int .i64 s,.int .u64 born,.bool on,.string pre,.int .u64 after]∧(-9223372036854775808≤s∧s≤9223372036854775807)∧born<2^64∧after<2^64:=by
 have Pp:=hval
 simp only[Value.okWide,Tryz.underlying46] at Pp
 obtain⟨cs,rfl,hsz,_⟩:=Pp
 have c6:Tryz.prog.cellsOf 46=6:=by kernel_rfl
 rw[c6] at hsz
 obtain⟨f,hf⟩:=hd
 obtain⟨xs,k,_,_,_,hxl,hx⟩:=DataW.trod_struct Tryz.underlying46 hf
 have ci:Tryz.prog.cellsOf 3=1:=by kernel_rfl
 have cu:Tryz.prog.cellsOf 33=1:=by kernel_rfl
 have cst:Tryz.prog.cellsOf 9=1:=by kernel_rfl
 have cr:Tryz.prog.cellsOf 38=3:=by kernel_rfl
 obtain⟨l⟩:=cs
 match l,hsz,xs,hxl with
 |[v0,v1,v2,v3,v4,v5],_,[y0,y1,y2,y3],_=>
  have g0:=hx 0 _ rfl
  have g1:=hx 1 _ rfl
  have g2:=hx 2 _ rfl
  have g3:=hx 3 _ rfl
  simp[Value.cells,ci,cu,cst,cr] at g0 g1 g2 g3
  obtain⟨s0,e0,_,_⟩:=DataW.trod_string Tryz.underlying9 g0
  obtain⟨m1,e1,_,hw1⟩:=DataW.trod_int Tryz.underlying3 g1
  obtain⟨m2,e2,_,jT⟩:=DataW.trod_int Tryz.underlying33 g2
  obtain⟨on,pre,after,e3,h3⟩:=Fw rfl g3
  injection e0 with e0 _
  injection e1 with e1 _
  injection e2 with e2 _
  injection e3 with e3 e4
  injection e4 with e4 e5
  injection e5 with e5 _
  subst e0 e1 e2 e3 e4 e5
  obtain⟨n,rfl,hn⟩:=r6 jT
  exact⟨s0,m1,n,on,pre,after,rfl,CD hw1,hn,h3⟩
theorem wk.slice {w:World} {v:Value} {l:List wj} (h:wk w v l):∃a cap,v=.slice a l.length cap:=by
 obtain⟨a,cap,rfl,_⟩:=h
 exact⟨a,cap,rfl⟩
theorem wk.at {w w':World} {l:List wj} {a:Option Addr} {n cap:Nat} (h:wk w (.slice a n cap) l) (hb:Below w.heap.size w w') {k:Nat} (hk:k<l.length):
  ∃g o,a=some ⟨g,o,none⟩∧(l[k]).ok∧w'.cell? ⟨g,o+k*7,none⟩=some (.int .i64 (l[k]).what)∧w'.cell? ⟨g,o+k*7+1,none⟩=some (.int .i64 (l[k]).state)∧w'.cell? ⟨g,o+k*7+2,none⟩=some (.string (l[k]).name)∧w'.cell? ⟨g,o+k*7+3,none⟩=some (.int .u64 (l[k]).now)∧w'.cell? ⟨g,o+k*7+4,none⟩=some (.bool (l[k]).on)∧w'.cell? ⟨g,o+k*7+5,none⟩=some (.string (l[k]).pre)∧w'.cell? ⟨g,o+k*7+6,none⟩=some (.int .u64 (l[k]).after):=by
 obtain⟨a',cap',e,_,_,hi⟩:=h
 injection e with e1 _ _
 subst e1
 obtain⟨h0,g,o,rfl,h2,h3⟩:=hi k hk
 refine⟨g,o,rfl,h0, ?_, ?_, ?_, ?_, ?_, ?_, ?_⟩
 ·rw[hb.cell (p:=⟨g,o+k*7,none⟩) h2];exact h3 k hk 0 (by decide)
 ·rw[hb.cell (p:=⟨g,o+k*7+1,none⟩) h2,gd];exact h3 k hk 1 (by decide)
 ·rw[hb.cell (p:=⟨g,o+k*7+2,none⟩) h2,gd];exact h3 k hk 2 (by decide)
 ·rw[hb.cell (p:=⟨g,o+k*7+3,none⟩) h2,gd];exact h3 k hk 3 (by decide)
 ·rw[hb.cell (p:=⟨g,o+k*7+4,none⟩) h2,gd];exact h3 k hk 4 (by decide)
 ·rw[hb.cell (p:=⟨g,o+k*7+5,none⟩) h2,gd];exact h3 k hk 5 (by decide)
 ·rw[hb.cell (p:=⟨g,o+k*7+6,none⟩) h2,gd];exact h3 k hk 6 (by decide)
section
open Go.RowKit Lib
structure IJ (w:World) (rb:Nat) (b:Bk.B) (k:Nat) (l:List Bk.B) (X:World):Prop where
 room:BH w rb 200 l (60000+120000*k) (fun _=>False) (fun _=>True) X
 fit:Bk.Fit l
 has:Bk.find l b.name=some b
 few:l.length≤k+1
theorem IJ.later {w X X':World} {rb k:Nat} {b:Bk.B} {l:List Bk.B} (h:IJ w rb b k l X) (hb:Below X.heap.size X X'):IJ w rb b k l X':=⟨h.room.still hb,h.fit,h.has,h.few⟩
theorem IJ.next {w X:World} {rb k:Nat} {b:Bk.B} {l:List Bk.B} (h:IJ w rb b k l X):IJ w rb b (k+1) l X:=⟨h.room.more (by omega),h.fit,h.has,by have:=h.few;omega⟩
theorem sZ (w:World) (v:Value) (zT:List wj) (hl:wk w v zT) (b:Bk.B) (hs:-9223372036854775808≤b.state∧b.state≤9223372036854775807) (hbo:b.born<2^64) (QM:b.after<2^64):
  Calls Tryz.prog 4 #[v,qV b] w fun e w'=>e=.returned (.bool true)∧Below w.heap.size w w':=by
 have HL:=aa hl
 obtain⟨al,cl,rfl⟩:=hl.slice
 have ES:(zT.length:Int)≤9223372036854775807:=by obtain⟨_,_,_,_,h,_⟩:=hl;omega
 clear hl
 have HS:=aa (And.intro hs (And.intro hbo QM))
 have H0:=aa (show Below w.heap.size w (w.alloc (.cells #[.string (bs b.name),.int .i64 b.state,.int .u64 b.born,.bool b.on,.string (bs b.pre),.int .u64 b.after] 46)) from (Below.refl _ w).alloc (af _) _)
 have Zg:=aa (aS.new w #[.string (bs b.name),.int .i64 b.state,.int .u64 b.born,.bool b.on,.string (bs b.pre),.int .u64 b.after] 46)
 unfold qV
 clear hs hbo QM
 go_enter Tryz.func4,Tryz.ntmps4
 go_wp2_with fail
 generalize dO w _=w0 at*
 refine (Cj w0).mono ?_
 rintro e w1 ⟨rfl,bF⟩
 have H1:=aa (H0.o.trans (bF.mono H0.o.size))
 have Is:=aa (Zg.o.below bF Zg.o.lt)
 clear bF H0 Zg
 obtain⟨x0,x1,x2,x3,x4,x5⟩:=six Is.o
 by_cases h30:30<zT.length
 ·have j1:(30:Int)<zT.length:=by omega
  go_wp2
  go_ret
  exact⟨rfl,H1.o⟩
 have j1:¬(30:Int)<zT.length:=by omega
 by_cases sL:100<(bs b.name).size
 ·have j2:(100:Int)<(bs b.name).size:=by omega
  go_wp2
  go_ret
  exact⟨rfl,H1.o⟩
 have j2:¬(100:Int)<(bs b.name).size:=by omega
 by_cases LK:100<(bs b.pre).size
 ·have j3:(100:Int)<(bs b.pre).size:=by omega
  go_wp2
  go_ret
  exact⟨rfl,H1.o⟩
 have j3:¬(100:Int)<(bs b.pre).size:=by omega
 have HF:=aa (show zT.length≤30 by omega)
 clear h30 sL LK
 go_wp2_with fail
 refine (BV w1 200 (by decide) (by decide)).mono ?_
 rintro e w2 ⟨g,lb,rfl,hk2,aP⟩
 have H2:=aa (And.intro hk2 aP)
 clear hk2 aP
 go_wp2_with fail
 refine (AL H2.o.1).mono ?_
 rintro e w3 ⟨xb,rfl,h3,bY⟩
 have H3:=aa (And.intro h3 (H2.o.2.trans (bY.mono H2.o.2.size)))
 clear h3 bY
 go_wp2_with fail
 refine (Fg w3 xb).mono ?_
 rintro e w4 ⟨rfl,rfl⟩
 have H4:=aa (Ci (w:=w1) H3.o.1 (fun k hk=>hk) H3.o.2 (by decide) (by decide))
 clear H2 H3
 generalize dO w3 _=w4 at*
 generalize w3.heap.size=rb at*
 have HK4:=aa (Is.o.below H4.o.below Is.o.lt)
 clear x0 x1 x2 x3 x4 x5
 obtain⟨x0,x1,x2,x3,x4,x5⟩:=six HK4.o
 have VY:=aa (Ep H4.o Bk.Fit.nil b HS.o.2.1 HS.o.2.2 (by decide) (by decide))
 unfold qV ptr at VY
 unfold ptr
 go_wp2_with fail
 refine VY.o.mono ?_
 rintro e w5 ⟨rfl,h5⟩
 have HK5:=aa (Is.o.below h5.below Is.o.lt)
 have Q6:=aa (H1.o.trans (h5.below.mono H1.o.size))
 by_cases hc:(Bk.restore [] b).2=0
 rotate_left
 ·have Cm:(((Bk.restore [] b).2:Int) !=0)=true:=by rw[bne_iff_ne];omega
  clear h5 VY H4 x0 x1 x2 x3 x4 x5
  go_wp2
  go_ret
  exact⟨rfl,Q6.o⟩
 obtain⟨hc1,hc2⟩:=Bk.Es hc
 have hfit:=Bk.Fit.restore Bk.Fit.nil b HS.o.2.1 HS.o.2.2
 rw[hc1] at h5 hfit
 have HS5:=aa (show IJ w1 rb b 0 (Bk.ins [] b) w5 from⟨h5.more (by omega),hfit,Bk.LJ b,by have:=Bk.jA (l:=[]) b;simpa using this⟩)
 have HNM:=aa hc2
 rw[hc]
 clear h5 hfit hc hc1 hc2 VY H4 x0 x1 x2 x3 x4 x5 HK4
 go_wp2_with fail
 obtain⟨L,hL⟩:∃L,L=zT.length:=⟨_,rfl⟩
 have wD:=aa hL
 rw[←hL] at HL ES HF j1 ⊢
 clear hL
 go_loopw [43] (fun iv wr=>∃(k:Nat) (l:List Bk.B),k≤L∧iv=.int .i64 k∧Hid (IJ w1 rb b k l wr)) (fun iv _=>L-(RowKit.intOf iv).toNat)
 case atStart=>exact⟨0,_,aC _,rfl,HS5⟩
 case round=>
  clear HS5 Q6 HK5
  obtain⟨k,l,hk,rfl,hR⟩:=hrel
  have HR:=hR
  have L6:=aa (H1.o.trans (hR.o.room.below.mono H1.o.size))
  have LL:=aa (Is.o.below hR.o.room.below Is.o.lt)
  clear hR
  obtain⟨x0,x1,x2,x3,x4,x5⟩:=six LL.o
  by_cases hlt:k<L
  ·have hI:(k:Int)<L:=by omega
   have hka:k<zT.length:=by rw[←wD.o];exact hlt
   obtain⟨gp,op,rfl,hok,c0,c1,c2,c3,c4,c5,c6⟩:=wk.at HL.o L6.o hka
   have Ra:=aa hok
   clear hok
   generalize zT[k]=x at*
   obtain⟨what,state,name,now,on,pre,after⟩:=x
   simp only at c0 c1 c2 c3 c4 c5 c6 Ra
   obtain⟨nm,rfl⟩:∃nm,name=bs nm:=⟨name.data.toList,rfl⟩
   obtain⟨pr,rfl⟩:∃pr,pre=bs pr:=⟨pre.data.toList,rfl⟩
   have HY:=aa (HR.o.later ((Below.refl _ wr).alloc (af _) (.cells #[.int .i64 what,.int .i64 state,.string (bs nm),.int .u64 now,.bool on,.string (bs pr),.int .u64 after] 40)))
   have Wg:w.heap.size<wr.heap.size:=LL.o.lt
   have MK:60000+120000*k≤50000000:=by have:=HF.o;omega
   have hlk:2*l.length+38≤200:=by have:=HF.o;have:=HY.o.few;omega
   by_cases sL:100<(bs nm).size
   ·have j4:(100:Int)<(bs nm).size:=by omega
    have fC:=aa (H1.o.trans (HY.o.room.below.mono H1.o.size))
    clear Ra x0 x1 x2 x3 x4 x5 LL L6 HY HR
    go_wp2
    go_ret
    exact⟨rfl,fC.o⟩
   have j4:¬(100:Int)<(bs nm).size:=by omega
   by_cases LK:100<(bs pr).size
   ·have j5:(100:Int)<(bs pr).size:=by omega
    have fC:=aa (H1.o.trans (HY.o.room.below.mono H1.o.size))
    clear Ra x0 x1 x2 x3 x4 x5 LL L6 HY HR
    go_wp2
    go_ret
    exact⟨rfl,fC.o⟩
   have j5:¬(100:Int)<(bs pr).size:=by omega
   clear sL LK
   by_cases hne:nm=b.name
   ·have hkb:(bs nm).toList=(bs b.name).toList:=by rw[hne]
    have LM:=aa HY.o.next
    clear HR HY L6 LL hne
    go_wp2_with fail
    go_roundw
    case rel=>exact⟨k+1,_,hlt,by go_num,LM⟩
    case measure=>simp[RowKit.intOf];omega
   have hkb:((bs nm).toList==(bs b.name).toList)=false:=by rw[bE,bE];exact beq_eq_false_iff_ne.2 hne
   have Nq:¬(bs nm).toList=(bs b.name).toList:=by rw[bE,bE];exact hne
   by_cases hw:what=0
   ·subst hw
    have HC:=aa (zR HY.o.room HY.o.fit nm now Ra.o.n1 MK hlk)
    unfold ptr at HC
    try unfold qM at HC
    clear x1 x2 x3 x4 x5
    go_wp2_with fail
    refine HC.o.mono ?_
    rintro e w6 ⟨rfl,h6⟩
    have LM:=aa (show IJ w1 rb b (k+1) _ w6 from⟨h6.more (by omega),HY.o.fit.make nm now Ra.o.n1,(Bk.D_ hne now).trans HY.o.has,aG (Bk.LH nm now) (Nat.succ_le_succ HY.o.few)⟩)
    clear h6 HC HR HY L6 LL c0 c1 c2 c3 c4 c5 c6 x0
    go_wp2_with fail
    go_roundw
    case rel=>exact⟨k+1,_,hlt,by go_num,LM⟩
    case measure=>simp[RowKit.intOf];omega
   by_cases jT:what=2
   ·subst jT
    have HC:=aa (sR HY.o.room HY.o.fit nm state MK hlk)
    unfold ptr at HC
    try unfold qM at HC
    clear x1 x2 x3 x4 x5
    go_wp2_with fail
    refine HC.o.mono ?_
    rintro e w6 ⟨rfl,h6⟩
    have LM:=aa (show IJ w1 rb b (k+1) _ w6 from⟨h6.more (by omega),HY.o.fit.setState nm state,(Bk.vP hne state).trans HY.o.has,aG (Bk.zS nm state) (Nat.succ_le_succ HY.o.few)⟩)
    clear h6 HC HR HY L6 LL c0 c1 c2 c3 c4 c5 c6 x0
    go_wp2_with fail
    go_roundw
    case rel=>exact⟨k+1,_,hlt,by go_num,LM⟩
    case measure=>simp[RowKit.intOf];omega
   by_cases kO:what=3
   ·subst kO
    have HC:=aa (Eo HY.o.room HY.o.fit nm on pr after Ra.o.a1 MK hlk)
    unfold ptr at HC
    try unfold qM at HC
    clear x1 x2 x3 x4 x5
    go_wp2_with fail
    refine HC.o.mono ?_
    rintro e w6 ⟨rfl,h6⟩
    have LM:=aa (show IJ w1 rb b (k+1) _ w6 from⟨h6.more (by omega),HY.o.fit.ed nm on pr after Ra.o.a1,(Bk.w_ hne on pr after).trans HY.o.has,aG (Bk.Ck nm on pr after) (Nat.succ_le_succ HY.o.few)⟩)
    clear h6 HC HR HY L6 LL c0 c1 c2 c3 c4 c5 c6 x0
    go_wp2_with fail
    go_roundw
    case rel=>exact⟨k+1,_,hlt,by go_num,LM⟩
    case measure=>simp[RowKit.intOf];omega
   by_cases sV:what=4
   ·subst sV
    have HC:=aa (Ou HY.o.room HY.o.fit nm MK)
    unfold ptr at HC
    try unfold qM at HC
    clear x1 x2 x3 x4 x5
    go_wp2_with fail
    refine HC.o.mono ?_
    rintro e w6 ⟨rfl,h6⟩
    have LM:=aa (show IJ w1 rb b (k+1) _ w6 from⟨h6.more (by omega),HY.o.fit.dropped nm,(Bk.xd hne).trans HY.o.has,aG (Bk.Cl nm) (Nat.succ_le_succ HY.o.few)⟩)
    clear h6 HC HR HY L6 LL c0 c1 c2 c3 c4 c5 c6 x0
    go_wp2_with fail
    go_roundw
    case rel=>exact⟨k+1,_,hlt,by go_num,LM⟩
    case measure=>simp[RowKit.intOf];omega
   have q0:(what==0)=false:=by rw[beq_eq_false_iff_ne];exact hw
   have q2:(what==2)=false:=by rw[beq_eq_false_iff_ne];exact jT
   have q3:(what==3)=false:=by rw[beq_eq_false_iff_ne];exact kO
   have q4:(what==4)=false:=by rw[beq_eq_false_iff_ne];exact sV
   have LM:=aa HY.o.next
   clear HR HY L6 LL hne
   go_wp2_with fail
   go_roundw
   case rel=>exact⟨k+1,_,hlt,by go_num,LM⟩
   case measure=>simp[RowKit.intOf];omega
  ·obtain rfl:k=L:=by omega
   have hI:¬(k:Int)<k:=by omega
   have iy:=aa (nY HR.o.room HR.o.fit b.name)
   have he:=Bk.Ip HNM.o HR.o.has
   have Rf:Bk.seen l b.name=b:=by unfold Bk.seen;rw[if_pos he,HR.o.has];rfl
   rw[he,Rf] at iy
   unfold qV ptr at iy
   clear he Rf
   go_wp2_with fail
   refine iy.o.mono ?_
   rintro e w6 ⟨rfl,h6⟩
   have HK6:=aa ((Is.o.below h6.below Is.o.lt).alloc (.cells #[.string (bs b.name),.int .i64 b.state,.int .u64 b.born,.bool b.on,.string (bs b.pre),.int .u64 b.after] 46))
   have z6:=aa (H1.o.trans ((h6.below.alloc h6.below.size (.cells #[.string (bs b.name),.int .i64 b.state,.int .u64 b.born,.bool b.on,.string (bs b.pre),.int .u64 b.after] 46)).mono H1.o.size))
   have Wg:w.heap.size<w6.heap.size:=(Is.o.below h6.below Is.o.lt).lt
   obtain⟨y0,y1,y2,y3,y4,y5⟩:=six (Is.o.below h6.below Is.o.lt)
   clear h6 iy HR L6 LL x0 x1 x2 x3 x4 x5
   go_wp2
   go_ret
   exact⟨rfl,z6.o⟩
end
end Go.Proofs.YtebbahjombdalaaGreatDoor
