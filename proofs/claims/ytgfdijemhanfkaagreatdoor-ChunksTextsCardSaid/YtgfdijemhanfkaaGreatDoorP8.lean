/- Elder texts, cut down and merged (8). -/
import Derived.Test.YtgfdijemhanfkaaGreatDoorP6
import Derived.Test.YtgfdijemhanfkaaGreatDoorP7
import Derived.Test.YtgfdijemhanfkaaGreatDoorP4
import Derived.Test.YtgfdijemhanfkaaGreatDoorP1
import Derived.Test.YtgfdijemhanfkaaGreatDoorP2
import Derived.Test.YtgfdijemhanfkaaGreatDoorP3
import Derived.Laws.Tables
import Derived.Laws.Rows
import Derived.WalkKit
import Derived.ProofKit
import Derived.OpenShut
import Derived.ShutString
import Derived.Deep.DeepHandedRow
import Derived.Test.YtgfdijemhanfkaaGreatDoorCards
import Derived.Test.YtgfdijemhanfkaaGreatDoorTie
import Derived.Lib.LaidTab
import Derived.StillTailTactics
import Derived.Test.YtgfdijemhanfkaaGreatDoorPTk
set_option maxRecDepth 100000
set_option maxHeartbeats 8000000
namespace Go.Proofs.YtgfdijemhanfkaaGreatDoor
open _root_.Go.Proofs.Tryz
open Value renaming int→bf,bool→ey,pointer→dr,slice→cx,string→cu,tuple→ec
open IntKind renaming i64→ct,u64→eZ
open Option renaming some→av,none→aK
open Or renaming inl→cS,inr→dc
open Obj renaming cells→dg
open Ending renaming returned→c8
open Nat renaming lt_of_lt_of_le->bL,le_refl->af,zero_le->aA,zero_add->bG
open List renaming replicate->aV,length_replicate->dR,mem_map->bY,getElem?_map->cY,getElem?_eq_getElem->aI,getElem_map->gS,mem_cons->aM,getD_eq_getElem?_getD->bC
open World renaming block_lt_of_cell?->bA
section
open Go.RowKit
def oN (g mb:Nat) (s:Wl.Lg):List Value:=[ptr g,bf ct s.ring,bf ct s.homes,bf ct s.place,bf eZ s.num,bf ct s.filled,.map (av mb),ey s.down]
abbrev Ug:TypeId:=3
abbrev I7 (w:World) (b:Nat) (m:Wl.ew):Prop:=eW prog Ug uk w b m
structure kj (w:World) (F:Φ) (b g mb:Nat) (FD:Φ) (s:Wl.Lg):Prop where
 blk:aW w b 101 (oN g mb s)
 mp:I7 w mb s.wait
 sec:rN w FD g s.d
 nb:¬FD b
 nm:¬FD mb
 fb:F b
 fm:F mb
 fd:∀k,FD k->F k
 lt:∀k,F k->k<w.heap.size
def Log (w:World) (F:Φ) (b g:Nat) (s:Wl.Lg):Prop:=∃mb FD,kj w F b g mb FD s
structure Bnd (s:Wl.Lg):Prop where
 r1:4<=s.ring
 r2:s.ring<=4096
 h:s.homes<=65536
 p:s.place<s.ring
 n:s.num<1000000
 f:s.filled<=1000000
 w:Wl.Fits s.homes s.wait
 wl:s.wait.length<=65536
 len:s.d.gK.length=1+s.ring+s.homes
theorem Wl.Live.OS {ring N:Nat} {s:Wl.Lg} {H:List (List UInt8)} (h:Wl.Live ring N s H):Bnd s:=by obtain⟨b,c,h3,h4,f,g,i,j,k,d,e,a,_⟩:=h.read;have E:=h.KE;have l:=h.homes_eq;exact⟨κ,κ,κ,κ,κ,κ,⟨c,b⟩,a,κ⟩
def both (F G:Φ) (k:Nat):Prop:=F k\/G k
theorem b9.both {F FD OT:Φ} {w w1:World} (T:∀k,FD k->F k) (h:b9 FD w OT w1):b9 F w (both F OT) w1:=
 ⟨h.1.mono fun k _ H=>T k H,fun k H=>by
  rcases H with H|H;·exact cS H
  ·rcases h.2 k H with h'|h';·exact cS (T k h')
   ·exact dc h'⟩
theorem B3 {FD OT:Φ} {w w1:World} (h:b9 FD w OT w1) {b:Nat} (a:b<w.heap.size) (hn:¬FD b):¬OT b:=fun H=>by
 rcases h.2 b H with h'|h';·exact hn h'
 ·omega
namespace kj
variable {w w1:World} {F FD OT:Φ} {b g mb:Nat} {s:Wl.Lg}
theorem log (h:kj w F b g mb FD s):Log w F b g s:=⟨mb,FD,h⟩
theorem c0 (h:kj w F b g mb FD s):w.cell? ⟨b,0,aK⟩=av (dr (av ⟨g,0,aK⟩)):=h.blk.cell rfl
theorem c1 (h:kj w F b g mb FD s):w.cell? ⟨b,1,aK⟩=av (bf ct s.ring):=h.blk.cell rfl
theorem c2 (h:kj w F b g mb FD s):w.cell? ⟨b,2,aK⟩=av (bf ct s.homes):=h.blk.cell rfl
theorem c3 (h:kj w F b g mb FD s):w.cell? ⟨b,3,aK⟩=av (bf ct s.place):=h.blk.cell rfl
theorem c4 (h:kj w F b g mb FD s):w.cell? ⟨b,4,aK⟩=av (bf eZ s.num):=h.blk.cell rfl
theorem c6 (h:kj w F b g mb FD s):w.cell? ⟨b,6,aK⟩=av (.map (av mb)):=h.blk.cell rfl
theorem c7 (h:kj w F b g mb FD s):w.cell? ⟨b,7,aK⟩=av (ey s.down):=h.blk.cell rfl
theorem mne (h:kj w F b g mb FD s):mb≠b:=h.mp.dh h.blk
theorem turned (h:kj w F b g mb FD s) {d:Dk.cG} (hs:rN w1 OT g d) (a:b9 FD w OT w1):kj w1 (both F OT) b g mb OT {s with d:=d}/\b9 F w (both F OT) w1:=
 ⟨⟨h.blk.but a.1 h.nb,h.mp.but a.1 h.nm,hs,B3 a (h.lt b h.fb) h.nb,B3 a (h.lt mb h.fm) h.nm,cS h.fb,cS h.fm,fun k H=>dc H,fun k H=>by
  rcases H with H|H;·exact bL (h.lt k H) a.1.size
  ·exact hs.lt k H⟩,a.both h.fd⟩
theorem but {S:Φ} (h:kj w F b g mb FD s) (H:aE S w w1) (hn:∀k,F k->¬S k):kj w1 F b g mb FD s:=
 ⟨h.blk.but H (hn b h.fb),h.mp.but H (hn mb h.fm),h.sec.but H (fun k a=>hn k (h.fd k a)),h.nb,h.nm,h.fb,h.fm,h.fd,fun k a=>bL (h.lt k a) H.size⟩
theorem below (h:kj w F b g mb FD s) (H:Below w.heap.size w w1):kj w1 F b g mb FD s:=h.but (aE.aF H (fun _=>False)) (fun _ _ hf=>hf)
theorem set (h:kj w F b g mb FD s) (j:Nat) (u:Value) (s':Wl.Lg) (hc:(oN g mb s).set j u=oN g mb s') (c:s'.wait=s.wait) (hd:s'.d=s.d):kj (w.setCell ⟨b,j,aK⟩ u) F b g mb FD s'/\b9 F w F (w.setCell ⟨b,j,aK⟩ u):=by
 have a:aE (· =b) w (w.setCell ⟨b,j,aK⟩ u):=(aE.refl _ w).setCell _ _ (fun _=>rfl);refine⟨⟨?_, ?_, ?_,h.nb,h.nm,h.fb,h.fm,h.fd,fun k H=>bL (h.lt k H) a.size⟩,a.mono (fun k _ e=>e▸h.fb),fun k H=>cS H⟩;·rw[<-hc];exact h.blk.set j u
 ·rw[c];exact h.mp.but a h.mne
 ·rw[hd];exact h.sec.but a (fun k H e=>h.nb (e▸H))
end kj
theorem Log.lt {w:World} {F:Φ} {b g:Nat} {s:Wl.Lg} (h:Log w F b g s):∀k,F k->k<w.heap.size:=by obtain⟨_,_,h⟩:=h;exact h.lt
theorem Log.but {S:Φ} {w w1:World} {F:Φ} {b g:Nat} {s:Wl.Lg} (h:Log w F b g s) (H:aE S w w1) (hn:∀k,F k->¬S k):Log w1 F b g s:=by obtain⟨_,_,h⟩:=h;exact (h.but H hn).log
theorem Log.below {w w1:World} {F:Φ} {b g:Nat} {s:Wl.Lg} (h:Log w F b g s) (H:Below w.heap.size w w1):Log w1 F b g s:=by obtain⟨_,_,h⟩:=h;exact (h.below H).log
end
section
open Go.RowKit Lib
abbrev CT:TypeId:=250
def zeros:List UInt8:=aV 512 0
theorem jJ:zeros.length=512:=dR
theorem Uh:(prog.info? CT).map (·.size)=av 512:=η
theorem Dw (w:World):(zeroValue CT).run prog w=.ok (ctext zeros) w:=η
theorem MQ (l:List UInt8):(l.map bU).toArray.all (·.oneCell')=true:=by rw[Array.all_eq_true_iff_forall_mem];intro v h;simp only[List.mem_toArray,bY] at h;obtain⟨b,_,rfl⟩:=h;rfl
def Ft (w:World) (g:Nat) (l:List UInt8):Prop:=aW w g CT (l.map bU)/\l.length=512
theorem Below.but {B:Nat} {S:Φ} {w w' W:World} (h:Below B w w') (H:aE S w' W) (a:B<=w'.heap.size) (hS:∀k,k<B->¬S k):Below B w W:=h.trans (H.below a hS)
theorem r8 {ops:Array Oper} {rest:List Oper} {o:Oper} {a:Act} {w:World} {Q:Exit->Act->Ψ} (H:o.guard=aK) (x y:Operand) (d:o.op=.store CT x y)
  (g:Nat) (c old:List UInt8) (e:a.eval x=dr (av ⟨g,0,aK⟩)) (hy:a.eval y=ctext c) (hc:c.length=512) (b:Ft w g old)
  (h:∀w',Ft w' g c->aE (fun k=>k=g) w w'->wpList prog ops Q rest (a.put o.dst undef) w'):wpList prog ops Q (o::rest) a w:=by
 refine wpList_store_row H CT x y d g (c.map bU).toArray e hy CT (old.map bU).toArray b.1 (by rw[Uh];simp[hc]) (by simp[b.2,hc]) (MQ c) ?_;exact h _ ⟨setRow_heap w g _ _ _ _ b.1,hc⟩ ((aE.refl _ w).setRow g _ (fun _=>rfl))
theorem Qn (w:World) (c:Nat):(Instr.sliceAt CT (dr (av ⟨c,0,aK⟩)) aK aK aK).run prog w=.ok (cx (av ⟨c,0,aK⟩) 512 512) w:=by
 have e:prog.arrayLen CT=512:=η
 have E:prog.elem CT=5:=η
 have a:=run_sliceAt_array_all (P:=prog) w CT ⟨c,0,aK⟩ (by rw[e,E];kernel_rfl);rw[a,e,E];show ((sizeOf 5).run prog w).andThen _=_;rw[sizeOf5];simp[go_sem,Addr.add]
theorem Ft.back {w:World} {c:Nat} {t:List UInt8} (h:Ft w c t):(convert 151 9 (cx (av ⟨c,0,aK⟩) 512 512)).run prog w=.ok (cu (bs t)) w:=by
 have:=run_convert_bytes_back (P:=prog) w 151 9 5 ⟨c,0,aK⟩ 512 t η η η (by
  intro i hi;rw[wk];refine h.1.cell ?_;rw[cY,aI hi];rfl)
 rw[h.2] at this;exact this
theorem Ft.new (w:World) (Z:Array Value) (h:Z=(zeros.map bU).toArray):Ft (w.alloc (dg Z CT)) w.heap.size zeros:=by subst h;exact⟨aW.new w _ _,jJ⟩
theorem Fu:prog.underlying 96=av (.map Ug CT):=underlying96
theorem gB:prog.underlying Ug=av (.int ct):=underlying3
theorem I7.jI {w:World} {b:Nat} {m:Wl.ew} (h:I7 w b m) {k:Nat} (H:k<=1000000) {t:List UInt8} (hl:Wl.look k m=av t):(Instr.lookup 96 (.map (av b)) (bf ct k) true).run prog w=.ok (ec #[ctext t,ey true]) w/\t.length=512:=
 eW.jI (M:=uk) h gB Fu (Dw w) jJ H hl
theorem I7.eH {w:World} {b:Nat} {m:Wl.ew} (h:I7 w b m) {k:Nat} (H:k<=1000000) (hl:Wl.look k m=aK):(Instr.lookup 96 (.map (av b)) (bf ct k) true).run prog w=.ok (ec #[ctext zeros,ey false]) w:=
 eW.eH (M:=uk) h gB Fu (Dw w) jJ H hl
end
set_option maxRecDepth 100000
open Go.ChangeShapes Go.WideShapes Go.ChangeAt Go.RowKit
theorem Qo {H:Type} {enc:TypeId×Value->H} {W:World} {n:Nat} {v:Value} {y:DataW H×List MemPlace} {α:Type} [Inhabited α] {T E c:Nat} (f:α->List Value) (ok:α->Prop)
  (z:prog.underlying T=av (.slice E)) (hc:prog.cellsOf E=c) (B:0<c)
  (q:∀(n:Nat) (cs:List Value) (y:DataW H×List MemPlace),cs.length=c->DataW.trod enc prog W 0 (fun _=>true) true n E cs=av y->∃x,cs=f x/\ok x)
  (h:DataW.trod enc prog W 0 (fun _=>true) true n T [v]=av y):
  ∃(l:List α) (a:Option Addr) (cap:Nat),v=.slice a l.length cap/\l.length<=cap/\l.length<=9223372036854775807/\∀i (hi:i<l.length),ok l[i]/\∃g o,a=av ⟨g,o,aK⟩/\g<W.heap.size/\
   ∀j (s:j<l.length) m,m<c->W.cell? ⟨g,o+(j*c+m),aK⟩=(f l[j])[m]?:=by
 rcases Deep.open_slice z h with⟨e,_⟩|⟨a,len,cap,m,n',D,P,e,_,hl,Z,t,_,u⟩
 ·simp only[List.cons.injEq,and_true] at e;exact⟨[],aK,0,e,af _,ν,fun i hi=>by simp at hi⟩
 ·simp only[List.cons.injEq,and_true] at e;subst e;simp only[if_true] at t;subst t;rw[hc] at u
  obtain⟨X,d⟩:=Deep.choose_lt (α:=α) (p:=fun i x=>W.cells? 0 (a.add (i*c)) c=av (f x)/\ok x) (fun i (hi:i<m)=>by
   obtain⟨cs',w,C⟩:=u i hi;obtain⟨x,rfl,r⟩:=q _ _ _ (World.cells?_some w).2.1 C;exact⟨x,w,r⟩)
  rcases Nat.eq_zero_or_pos len with rfl|hn;·exact⟨[],_,m,rfl,aA _,ν,fun i hi=>by simp at hi⟩
  ·obtain⟨g,o,spot⟩:=a;have b:=(World.cells?_some (d 0 κ).1).2.2 0 B;have F:=(World.cells?_some (d 0 κ).1).2.1;rw[aI κ] at b;have A:spot=none:=(by simpa[Addr.add] using World.cell?_spot b);subst A;have hg:=bA _ _ b;have hg:g<W.heap.size:=(by rw[addr_add,addr_add] at hg;exact hg);refine⟨(List.range len).map X,av ⟨g,o,aK⟩,m,ν,by simpa using hl,by simp;unfold maxLen at Z;omega,fun i hi=> ?_⟩;have G:i<len:=(by simpa using hi);refine⟨by simpa using (d i κ).2,g,o,rfl,hg,fun j s k I=> ?_⟩;have J:j<len:=(by simpa using s);have k0:=(World.cells?_some (d j κ).1).2.2 k I;rw[addr_add,addr_add] at k0;rw[gS,List.getElem_range,<-Nat.add_assoc];exact k0
section
open Go.ChangeShapes Go.WideShapes Go.ChangeAt Go.RowKit
open Go.ChangeMaps (open_string shut_string)
def Ui:DataW Unit->Value
 |.lit (.int k z)=>.int k z
 |_=>undef
def zk:DataW Unit->List Value
 |.agg l=>l.map Ui
 |_=>[]
def MR:DataW Unit->List Value
 |.agg l=>l.flatMap zk
 |_=>[]
def I8 (cs:Array Value):Obj->Obj
 |dg _ t frozen=>dg cs t frozen
 |o=>o
noncomputable def laidWorld (os:Os):World:=
 {World.holding prog os ⟨#[],#[],[]⟩ with heap:=((World.holding prog os ⟨#[],#[],[]⟩).heap.modify 3 (I8 (MR Rows.laid_unicode_utf8_acceptRanges).toArray)).modify 2 (I8 (zk Rows.laid_unicode_utf8_first).toArray)}
end
section
open Go.ChangeShapes Go.WideShapes Go.ChangeAt Go.RowKit
theorem uo {P:Program} {w:World} {n:String} {d:DataW Unit}:∀{l:List (String×DataW Unit)} {ps:List MemPlace},DataW.LaidVars P w l ps->(n,d)∈l->
  ∃g t cs fuel p,P.globalNamed n=av g/\(P.globals[g]?).map (·.type)=av t/\w.var? P n=av cs/\DataW.trod (fun _=>()) P w 0 (fun _=>true) false fuel t cs.toList=av (d,p)
 |[],_,_,hm=>by cases hm
 |(n',d')::r,ps,⟨g,t,cs,fuel,p,q,h1,h2,h3,h4,h5,_⟩,hm=>by
  rcases aM.1 hm with h|h;·cases h;exact⟨g,t,cs,fuel,p,h1,h2,h3,h4⟩
  ·exact uo h5 h
theorem aat:prog.globalNamed "cooperage/sums.cubeRoots" =some 0:=η
theorem aau:(prog.globals[0]?).map (·.type)=av 148:=η
theorem XD:prog.cellsOf 148=64:=η
theorem XE:prog.cellsOf 102=1:=η
def ints (l:Δ):List Int:=l.map fun (n:Nat)=>(n:Int)
theorem Qp (l:Δ) (i:Nat):(ints l).getD i 0=((l.getD i 0:Nat):Int):=by simp only[ints,bC,cY];cases l[i]?<;>rfl
theorem Fv {l:List (String×DataW Unit)} {W:World} (h:laidMet prog l W) (b:("cooperage/sums.cubeRoots",Lib.tabData .u32 (ints Sha.EL))∈l):jC W:=by
 have hc:Lib.TabIs prog W "cooperage/sums.cubeRoots" .u32 (ints Sha.EL):=by obtain⟨ps,c,_⟩:=h;obtain⟨g,t',cs,fuel,p,H,a,A,hd⟩:=uo c b;obtain rfl:=Option.some.inj (aat.symm.trans H);obtain rfl:=Option.some.inj (aau.symm.trans a);unfold Lib.TabIs;rw[A,<-Lib.cells_of_tab underlying148 underlying102 XE XD hd]
 have c2:∀i,i<64->W.cell? ⟨0,i,none⟩=some (.int .u32 ((Sha.e8 i:Nat):Int)):=fun i hi=>by rw[hc.cell aat i hi,Qp];rfl
 exact⟨c2,bA W _ (c2 0 ξ)⟩
noncomputable def laidWorld11 (os:Os):World:=
 {laidWorld os with heap:=(laidWorld os).heap.modify 0 (I8 (zk Rows.laid_cooperage_sums_cubeRoots).toArray)}
end
section
open Go.RowKit Lib
theorem B4 (w:World) (F:Φ) (b g:Nat) (s:Wl.Lg) (hl:Log w F b g s):
  Calls prog 202 #[ptr b] w fun e w'=>e=c8 (ey s.off)/\w'=w:=by
 obtain⟨mb,FD,h⟩:=hl;have c0:=h.c0;have c7:=h.c7;have H:=aa h.sec;clear h;unfold Wl.Lg.off;cases hd:s.down;·rw[hd] at c7;go_enter func202,ntmps202;unfold ptr;go_wp2_with fail;refine (fR _ _ _ _ H.o).mono ?_;rintro e w1 ⟨rfl,rfl⟩;go_wp2;go_ret;exact⟨rfl,rfl⟩
 ·rw[hd] at c7;go_enter func202,ntmps202;exact zaq
theorem q8 (w:World) (F:Φ) (b g:Nat) (s:Wl.Lg) (hl:Log w F b g s):
  Calls prog 146 #[ptr b] w fun e w'=>e=c8 (bf ct s.homes)/\w'=w:=by
 obtain⟨mb,FD,h⟩:=hl;have c2:=h.c2;clear h;go_enter func146,ntmps146;exact zaq
def Wl.Lg.has (s:Wl.Lg) (i:Int):Bool:=decide (0<=i)&&decide (i<s.homes)
theorem Qq (w:World) (F:Φ) (b g:Nat) (s:Wl.Lg) (i:Int) (hl:Log w F b g s):
  Calls prog 255 #[ptr b,bf ct i] w fun e w'=>e=c8 (ey (s.has i))/\w'=w:=by
 obtain⟨mb,FD,h⟩:=hl;have c2:=h.c2;clear h;unfold Wl.Lg.has;by_cases hi:0<=i;·go_enter func255,ntmps255;unfold ptr;go_wp2;go_ret;refine⟨jH ?_,rfl⟩;simp[hi]
 ·go_enter func255,ntmps255;unfold ptr;go_wp2;go_ret;refine⟨jH ?_,rfl⟩;simp only[Bool.false_eq,Bool.and_eq_false_iff,decide_eq_false_iff_not];omega
theorem Dx (w:World) (F:Φ) (b g:Nat) (s:Wl.Lg) (i:Nat) (hl:Log w F b g s) (hr:s.ring<=4096) (hi:i<=1000000):
  Calls prog 256 #[ptr b,bf ct i] w fun e w'=>e=c8 (bf ct ((1+s.ring+i:Nat):Int))/\w'=w:=by
 obtain⟨mb,FD,h⟩:=hl;have c1:=h.c1;clear h;have H:(s.ring:Int)<=4096:=κ
 have a:(i:Int)<=1000000:=κ
 go_enter func256,ntmps256;unfold ptr;go_wp2;go_ret;exact⟨P8 κ,rfl⟩
theorem Wl.Lg.B5 (s:Wl.Lg):s.with (s.down,s.d)=s:=by cases s;rfl
theorem I9 (w:World) (F:Φ) (b g:Nat) (s:Wl.Lg) (i:Nat) (t:ByteArray) (hl:Log w F b g s) (hn:s.d.loose.length<=900000000):
  Calls prog 67 #[ptr b,bf ct i,cu t] w fun e w'=>e=c8 (ec #[])/\∃l,Log w' l b g (s.with (Wl.wr (s.down,s.d) (i,t.data.toList)))/\b9 F w l w':=by
 obtain⟨mb,FD,h⟩:=hl;have c0:=h.c0;have c7:=h.c7;have k:=aa h;clear h;by_cases hd:s.down=true
 ·have H:s.with (Wl.wr (s.down,s.d) (i,t.data.toList))=s:=by rw[hd,Wl.TD,<-hd,Wl.Lg.B5]
  rw[H];clear H;rw[hd] at c7;clear hd;go_enter func67,ntmps67;unfold ptr;go_wp2;refine bodyPost_end (results_none rfl _ _ _) rfl ?_;exact⟨rfl,F,k.o.log,b9.refl _ _⟩
 ·have U:s.down=false:=by simpa using hd
  have H:s.with (Wl.wr (s.down,s.d) (i,t.data.toList))={s with down:=decide ((s.d.write i t.data.toList).1≠0),d:=(s.d.write i t.data.toList).2}:=by unfold Wl.wr Wl.Lg.with;rw[U];rfl
  rw[H];rw[U] at c7;have m:=aa (aa U);clear H hd U;go_enter func67,ntmps67;unfold ptr;go_wp2_with fail;refine (ML w FD g s.d i t k.o.sec hn).mono ?_;rintro e w1 ⟨rfl,OT,a,f⟩;obtain⟨hp,n⟩:=k.o.turned a f;have K:=hp.c7;have x:=hp.blk.frozen 7;have E:({s with d:=(s.d.write i t.data.toList).2}:Wl.Lg).down=false:=m.o.o;rw[E] at K;have j:=aa (And.intro hp n);clear a f hp n E;generalize p:s.d.write i t.data.toList=q at*;obtain⟨c,d'⟩:=q;simp only at j |-;have r:=aa p;clear p c0 c7;by_cases hc:c=0;·subst hc;go_wp2;refine bodyPost_end (results_none rfl _ _ _) rfl ?_;refine⟨rfl,_, ?_,j.o.2⟩;rw[r.o];have e:({s with down:=decide ((0:Int)≠0),d:=d'}:Wl.Lg)={s with d:=d'}:=(by have:=m.o.o;cases s;simp only at this;subst this;rfl);rw[e];exact j.o.1.log
  ·have u:(c !=0)=true:=(by rw[bne_iff_ne];exact hc);have A:(c==0)=false:=beq_eq_false_iff_ne.2 hc;have v:=aa hc;clear hc;go_wp2;refine bodyPost_end (results_none rfl _ _ _) rfl ?_;rw[r.o];have hs:=j.o.1.set 7 (ey true) {s with down:=decide (c≠0),d:=d'} (by rw[decide_eq_true v.o];rfl) rfl rfl;exact⟨rfl,_,hs.1.log,j.o.2.trans hs.2⟩
theorem I_ (w:World) (F:Φ) (b g:Nat) (s:Wl.Lg) (hl:Log w F b g s):
  Calls prog 36 #[ptr b] w fun e w'=>e=c8 (ec #[])/\∃k,Log w' k b g (s.with (Wl.fl (s.down,s.d)))/\b9 F w k w':=by
 obtain⟨mb,FD,h⟩:=hl;have c0:=h.c0;have c7:=h.c7;have j:=aa h;clear h;by_cases hd:s.down=true
 ·have H:s.with (Wl.fl (s.down,s.d))=s:=by rw[hd,Wl.TF,<-hd,Wl.Lg.B5]
  rw[H];clear H;rw[hd] at c7;clear hd;go_enter func36,ntmps36;unfold ptr;go_wp2;refine bodyPost_end (results_none rfl _ _ _) rfl ?_;exact⟨rfl,F,j.o.log,b9.refl _ _⟩
 ·have U:s.down=false:=by simpa using hd
  have H:s.with (Wl.fl (s.down,s.d))={s with down:=decide (s.d.flush.1≠0),d:=s.d.flush.2}:=by unfold Wl.fl Wl.Lg.with;rw[U];rfl
  rw[H];rw[U] at c7;have l:=aa (aa U);clear H hd U;go_enter func36,ntmps36;unfold ptr;go_wp2_with fail;refine (MN w FD g s.d j.o.sec).mono ?_;rintro e w1 ⟨rfl,a,f⟩;obtain⟨hp,m⟩:=j.o.turned a f;have K:=hp.c7;have u:=hp.blk.frozen 7;have E:({s with d:=s.d.flush.2}:Wl.Lg).down=false:=l.o.o;rw[E] at K;have i:=aa (And.intro hp m);clear a f hp m E;generalize n:s.d.flush=q at*;obtain⟨c,d'⟩:=q;simp only at i |-;have p:=aa n;clear n c0 c7;by_cases hc:c=0;·subst hc;go_wp2;refine bodyPost_end (results_none rfl _ _ _) rfl ?_;refine⟨rfl,_, ?_,i.o.2⟩;rw[p.o];have e:({s with down:=decide ((0:Int)≠0),d:=d'}:Wl.Lg)={s with d:=d'}:=(by have:=l.o.o;cases s;simp only at this;subst this;rfl);rw[e];exact i.o.1.log
  ·have r:(c !=0)=true:=(by rw[bne_iff_ne];exact hc);have A:(c==0)=false:=beq_eq_false_iff_ne.2 hc;have t:=aa hc;clear hc;go_wp2;refine bodyPost_end (results_none rfl _ _ _) rfl ?_;rw[p.o];have hs:=i.o.1.set 7 (ey true) {s with down:=decide (c≠0),d:=d'} (by rw[decide_eq_true t.o];rfl) rfl rfl;exact⟨rfl,_,hs.1.log,i.o.2.trans hs.2⟩
theorem Qr (w:World) (F:Φ) (b g:Nat) (s:Wl.Lg) (i:Int) (hl:Log w F b g s):
  Calls prog 66 #[ptr b,bf ct i] w fun e w'=>e=c8 (cu (bs (s.d.read i).1))/\w'=w:=by
 obtain⟨mb,FD,h⟩:=hl;have c0:=h.c0;have H:=aa h.sec;clear h;go_enter func66,ntmps66;unfold ptr;go_wp2_with fail;refine (Ff w FD g s.d i H.o).mono ?_;rintro e w1 ⟨rfl,rfl⟩;go_wp2;go_ret;exact⟨rfl,rfl⟩
theorem Dk.Uk {d:Dk.cG} (H:d.off=false) {i:Nat} (h:i<d.gK.length):d.read i=(d.now.getD i [],0):=by unfold Dk.cG.read;rw[H,if_neg ξ,if_pos (by simp[Dk.cG.has,h])];rfl
theorem Dk.Lb {d:Dk.cG} (H:d.off=false) {i:Nat} {t:List UInt8} (h:d.now[i]?=av t):d.read i=(t,0):=by
 have hl:i<d.gK.length:=by have:=(List.getElem?_eq_some_iff.1 h).1;rw[Dk.cG.now,Dk.iR] at this;exact this
 rw[Dk.Uk H hl,bC,h];rfl
theorem Fw (s:ByteArray):strCells s++(zeros.map bU).drop s.size=(Dk.full s.data.toList).map bU:=by rw[<-zc s,zeros,List.map_replicate];rfl
theorem Qs:dx prog 65 3 (eo ct).size:=dx.of (size:=1) (bytes:=8) (z:=.int ct 0) underlying65 η rfl ξ
abbrev p8 (B:Nat) (w:World) (v:Value) (l:List Int):Prop:=Own (eo ct) 3 B w v l
theorem p8.at {B:Nat} {w:World} {f n cf:Nat} {l:List Int} (h:p8 B w (cx (av ⟨f,0,aK⟩) n cf) l) (j:Nat) (H:j<l.length):w.cell? ⟨f,j,aK⟩=av (bf ct l[j]):=by
 have:=Own.lies h j (bf ct l[j]) (by rw[show (eo ct).cells l=l.map (fun n=>Value.int ct n) from cv _ _ _];simp[H])
 rwa [bG] at this
theorem zl (w:World) (x:Int):bg (eo ct) (w.alloc (dg #[bf ct x] 3)) w.heap.size 0 [x]:=
 bg.dZ (aW.new w #[bf ct x] 3) rfl
end
end Go.Proofs.YtgfdijemhanfkaaGreatDoor
