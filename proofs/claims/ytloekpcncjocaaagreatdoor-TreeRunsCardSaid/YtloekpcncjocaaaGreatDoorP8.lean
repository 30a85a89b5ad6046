/- Elder texts, cut down and merged (8). -/
import Derived.Test.YtloekpcncjocaaaGreatDoorP7
import Derived.Test.YtloekpcncjocaaaGreatDoorP1
import Derived.Test.YtloekpcncjocaaaGreatDoorP4
import Derived.BigRegion
import Derived.Lib.MinMax
import Derived.Test.YtloekpcncjocaaaGreatDoorPTk
set_option maxRecDepth 100000
set_option maxHeartbeats 8000000
namespace Go.Proofs.YtloekpcncjocaaaGreatDoor
open Go.RowKit Lib
theorem G1 {fn:Func} {p:Tmp} (h:fn.results=#[.cell p 95]) (tmps:Array Value) (w:World) (g:Nat) (x y z:Value) (fr:Nat×Nat)
  (hp:tmps.getD p undef=.pointer (some ⟨g,0,none⟩)) (hg:w.heap[g]?=some (.cells #[x,y,z] 95 fr)):
  (results fn tmps).run Tryz.prog w=.ok (.agg #[x,y,z]) w:=
 results_cell_row h tmps w g _ _ fr _ hp hg Tryz.underlying95 rfl (by kernel_rfl)
theorem ia (w:World) (key:ByteArray) (q:Nat):
  Calls Tryz.prog 103 #[.string key,ptr q] w fun e w'=>e=.returned (.agg #[.string key,.string (bs (pv 0)),ptr q])∧Below w.heap.size w w':=by
 obtain⟨w1,hw1⟩:∃w1,w1=w.alloc (.cells #[.string ⟨#[]⟩,.string ⟨#[]⟩,.pointer none] 95):=⟨_,rfl⟩
 obtain⟨g,hg⟩:∃g,g=w.heap.size:=⟨_,rfl⟩
 have H1:=aa (show aG w1 g 95 [.string ⟨#[]⟩,.string ⟨#[]⟩,.pointer none]∧Below w.heap.size w w1∧g=w.heap.size from⟨by rw[hw1,hg];exact aG.new w _ _,by rw[hw1];exact (Below.refl _ w).alloc (Nat.le_refl _) _,hg⟩)
 have HC:=aa (dV w1 0 (by decide))
 generalize bs (pv 0)=pb at*
 go_enter Tryz.func103,Tryz.ntmps103
 unfold ptr
 go_wp2_with fail
 rw[←hw1,←hg]
 refine HC.out.mono ?_
 rintro e w2 ⟨rfl,aC⟩
 have H2:=aa (show aG w2 g 95 [.string ⟨#[]⟩,.string ⟨#[]⟩,.pointer none]∧Below w.heap.size w w2 from⟨H1.out.1.below aC H1.out.1.lt,H1.out.2.1.trans (aC.mono H1.out.2.1.size)⟩)
 have d0:=H2.out.1.cell (j:=0) rfl
 have d1:=H2.out.1.cell (j:=1) rfl
 have d2:=H2.out.1.cell (j:=2) rfl
 have f0:=H2.out.1.frozen 0
 have f1:=H2.out.1.frozen 1
 have f2:=H2.out.1.frozen 2
 clear hw1 hg aC
 go_wp2
 refine bodyPost_ret (G1 rfl _ _ g _ _ _ (0,0) rfl (((H2.out.1.set 0 _).set 1 _).set 2 _)) rfl ?_
 have T_:w.heap.size≤g:=Nat.le_of_eq H1.out.2.2.symm
 exact⟨rfl,((H2.out.2.setCell T_ _).setCell T_ _).setCell T_ _⟩
def dm (tot:Nat):Nat→List It→Nat
 |_,[]=>0
 |_,[_]=>0
 |s,i::j::r=>if 2*s<tot then dm tot (s+gh i) (j::r)+1 else 0
theorem oN (w:World) (a:Option Addr) (n c:Nat) (h:n≤c) (hn:n≤1000000) (_:(c:Int)≤9223372036854775807):Calls Tryz.prog 148 #[.slice a n c] w fun e w'=>e=.returned (.slice a n n)∧w'=w:=by
 have h1:(n:Int)≤c:=by omega
 have h2:(0:Int)≤n:=by omega
 go_enter Tryz.func148,Tryz.ntmps148
 go_wp2
 go_ret
 exact⟨rfl,rfl⟩
theorem qG (tot s:Nat) (i j:It) (r:List It):dm tot s (i::j::r)=if 2*s<tot then dm tot (s+gh i) (j::r)+1 else 0:=rfl
theorem zo {tot s h:Nat} {l:List It} (hh:h+1<l.length) (hs:2*s<tot):h+dm tot s (l.drop h)=h+1+dm tot (s+gh l[h]) (l.drop (h+1)):=by
 rw[List.drop_eq_getElem_cons (show h<l.length by omega),List.drop_eq_getElem_cons hh,qG,if_pos hs]
 omega
theorem qH {tot s h:Nat} {l:List It} (hh:¬h+1<l.length∨¬2*s<tot):dm tot s (l.drop h)=0:=by
 rcases Nat.lt_or_ge (h+1) l.length with h1|h1
 ·rw[List.drop_eq_getElem_cons (show h<l.length by omega),List.drop_eq_getElem_cons h1]
  unfold dm
  rw[if_neg (hh.resolve_left (fun h=>h h1))]
 ·rcases Nat.lt_or_ge h l.length with h2|h2
  ·rw[List.drop_eq_getElem_cons h2,List.drop_eq_nil_of_le (by omega)];rfl
  ·rw[List.drop_eq_nil_of_le h2];rfl
theorem l9 (tot:Nat):∀(l:List It) (s:Nat),l≠[]→dm tot s l<l.length
 |[],_,h=>absurd rfl h
 |[_],_,_=>by simp[dm]
 |i::j::r,s,_=>by
  unfold dm
  split
  ·have:=l9 tot (j::r) (s+gh i) (by simp)
   simp only[List.length_cons] at this ⊢
   omega
  ·simp only[List.length_cons];omega
theorem aJ.parts {g o:Nat} {its:List It} {X:World} (h:aJ ah X g o its) (k:Nat) (hk:k≤its.length):aJ ah X g o (its.take k)∧aJ ah X g (o+k*3) (its.drop k):=by
 constructor
 ·have:=aJ.part h 0 k (Nat.zero_le _)
  rw[Nat.zero_mul,Nat.add_zero,List.drop_zero] at this
  exact this
 ·have:=aJ.part h k (its.length-k) hk
  rw[List.take_of_length_le (by rw[List.length_drop];exact Nat.le_refl _)] at this
  exact this
theorem Mem.part {X X':World} {M:Nat→Option NV} {p q:Nat} {n low up:NV} (h:Mem X M) (hp:M p=some n) (hq:¬MB M q) (k:Nat) (hk:k≤n.its.length)
  (hl:low.its=n.its.take k∧low.rg=n.rg∧low.ro=n.ro∧low.cap=k∧low.own=false)
  (hu:up.its=n.its.drop k∧up.rg=n.rg∧up.ro=n.ro+k*3∧up.cap=n.cap-k∧up.own=false)
  (hb:aj (fun j=>j=p∨j=q) X X') (hP:aG X' p 90 low.cells) (hQ:aG X' q 90 up.cells):
  Mem X' (upd (upd M p low) q up):=by
 obtain⟨l1,l2,l3,l4,l5⟩:=hl
 obtain⟨u1,u2,u3,u4,u5⟩:=hu
 have hn:=h.nd p n hp
 have hpq:p≠q:=fun e=>hq ⟨p,n,hp,.inl e.symm⟩
 have vM:∀x m,M x=some m→¬(m.rg=p∨m.rg=q):=by
  rintro x m hx (e|e)
  ·exact h.BO hx hp e
  ·exact hq ⟨x,m,hx,.inr e.symm⟩
 have hrow:=hn.row.but hb (vM p n hp)
 obtain⟨rl,ru⟩:=hrow.parts k hk
 have ll:low.its.length=k:=by rw[l1,List.length_take];omega
 have lu:up.its.length=n.its.length-k:=by rw[u1,List.length_drop]
 have sm:=hn.small
 have old:∀x m,upd (upd M p low) q up x=some m→(x=q∧m=up)∨(x=p∧m=low)∨(x≠q∧x≠p∧M x=some m):=by
  intro x m hx
  rcases ak hx with h1|⟨h1,h2⟩
  ·exact .inl h1
  ·rcases ak h2 with h3|⟨h3,h4⟩
   ·exact .inr (.inl h3)
   ·exact .inr (.inr ⟨h1,h3,h4⟩)
 have XN:∃cur,X'.heap[n.rg]?=some (.cells cur 95 (0,0)):=by
  obtain⟨cur,hc⟩:=h.ty p n hp
  exact⟨cur,by rw[hb.block n.rg (h.lt hp).2 (vM p n hp)];exact hc⟩
 have ap:∀x m,M x=some m→x≠p→n.rg≠m.rg∨(m.own=false∧(n.ro+3*n.its.length≤m.ro∨m.ro+3*m.its.length≤n.ro)):=by
  intro x m hx hne
  rcases h.apart p x n m hp hx (fun e=>hne e.symm) with e|⟨_,e1,e2⟩
  ·exact .inl e
  ·exact .inr ⟨e1,e2⟩
 refine⟨fun x m hx=> ?_,fun x m hx=> ?_,fun x y m m' hx hy hne=> ?_,fun x m hx hown=> ?_⟩
 ·rcases old x m hx with⟨rfl,rfl⟩|⟨rfl,rfl⟩|⟨h1,h2,h3⟩
  ·exact⟨hQ,by rw[u2,u3,u1];exact ru,⟨by rw[lu];have:=sm.len;omega,fun i hi=>sm.each i (by rw[u1] at hi;exact List.mem_of_mem_drop hi),by rw[lu,u4];have:=sm.cap;omega⟩⟩
  ·exact⟨hP,by rw[l2,l3,l1];exact rl,⟨by rw[ll];have:=sm.len;omega,fun i hi=>sm.each i (by rw[l1] at hi;exact List.mem_of_mem_take hi),by rw[ll,l4];have:=sm.cap;omega⟩⟩
  ·exact (h.nd x m h3).but hb (fun e=>e.elim h2 h1) (vM x m h3)
 ·rcases old x m hx with⟨rfl,rfl⟩|⟨rfl,rfl⟩|⟨h1,h2,h3⟩
  ·rw[u2];exact XN
  ·rw[l2];exact XN
  ·obtain⟨cur,hc⟩:=h.ty x m h3
   exact⟨cur,by rw[hb.block m.rg (h.lt h3).2 (vM x m h3)];exact hc⟩
 ·rcases old x m hx with⟨rfl,rfl⟩|⟨rfl,rfl⟩|⟨h1,h2,h3⟩<;>rcases old y m' hy with⟨rfl,rfl⟩|⟨rfl,rfl⟩|⟨g1,g2,g3⟩
  ·exact absurd rfl hne
  ·right;refine⟨u5,l5, ?_⟩;right;rw[l3,ll,u3];omega
  ·rw[u2]
   rcases ap y m' g3 g2 with e|⟨e1,e2⟩
   ·exact .inl e
   ·right;refine⟨u5,e1, ?_⟩;rw[u3,lu];omega
  ·right;refine⟨l5,u5, ?_⟩;left;rw[l3,ll,u3];omega
  ·exact absurd rfl hne
  ·rw[l2]
   rcases ap y m' g3 g2 with e|⟨e1,e2⟩
   ·exact .inl e
   ·right;refine⟨l5,e1, ?_⟩;rw[l3,ll];omega
  ·rw[u2]
   rcases ap x m h3 h2 with e|⟨e1,e2⟩
   ·exact .inl fun e3=>e e3.symm
   ·right;refine⟨e1,u5, ?_⟩;rw[u3,lu];omega
  ·rw[l2]
   rcases ap x m h3 h2 with e|⟨e1,e2⟩
   ·exact .inl fun e3=>e e3.symm
   ·right;refine⟨e1,l5, ?_⟩;rw[l3,ll];omega
  ·exact h.apart x y m m' h3 g3 hne
 ·rcases old x m hx with⟨rfl,rfl⟩|⟨rfl,rfl⟩|⟨h1,h2,h3⟩
  ·rw[u5] at hown;cases hown
  ·rw[l5] at hown;cases hown
  ·obtain⟨o1,o2⟩:=h.own x m h3 hown
   exact⟨o1,Own.but o2 hb fun k hk=>by have e:some m.rg=some k:=hk;injection e with e;rw[←e];exact vM x m h3⟩
section
variable {E:Ev} {X0 X X':World} {R0 R R' S:Nat→Prop} {ps ps':List (Nat×List UInt8)} {pg bN:List (Option Wl.Text)} {rt rt':List Nat} {M M':Nat→Option NV} {p q:Nat} {n m:NV}
def rD:List It→List It
 |[]=>[]
 |i::l=>{i with key:=[]}::l
def between (n:NV) (h:Nat):List UInt8:=if n.level=0 then Tr.bG ((n.its.map It.key).getD (h-1) []) ((n.its.map It.key).getD h []) else (n.its.map It.key).getD h []
def ec (n:NV) (h:Nat):NV:={n with its:=n.its.take h,cap:=h,hi:=between n h,fresh:=true,own:=false}
def gK (n:NV) (h:Nat):NV:=⟨n.level,if n.level=0 then n.its.drop h else rD (n.its.drop h),n.rg,n.ro+h*3,n.cap-h,-1,between n h,n.hi,0,0,true,false⟩
def C3 (X:World) (M:Nat→Option NV) (p:Nat) (n:NV) (h:Nat) (e:Ending) (X':World):Prop:=
 ∃q,e=.returned (.tuple #[ptr q,.string (bs (between n h))])∧Mem X' (upd (upd M p (ec n h)) q (gK n h))∧X.heap.size≤q∧aj (fun k=>k=p∨k=n.rg) X X'
end
section
variable {X:World} {M:Nat→Option NV} {p:Nat} {n:NV}
structure gL (X:World) (M:Nat→Option NV) (p:Nat) (n:NV) (k L q:Nat) (w3:World) (M3:Nat→Option NV) (n3:NV):Prop where
 mem:Mem w3 M3
 SK:M3 p=some n3
 other:∀x,x≠p→M3 x=M x
 same:n3.level=n.level∧n3.rg=n.rg∧n3.ro=n.ro∧n3.cap=n.cap∧n3.page=n.page∧n3.lo=n.lo∧n3.was=n.was∧n3.at_=n.at_
 hi:n3.hi=n.hi
 len:n3.its.length=L
 take:n3.its.take k=n.its.take k
 drop:n3.its.drop k=(gK n k).its
 blk:aG w3 q 90 [.int .i64 n.level,.slice (some ⟨n.rg,n.ro+k*3,none⟩) (L-k) (n.cap-k),.int .i64 (-1),.string ⟨#[]⟩,.string ⟨#[]⟩,.int .i64 0,.int .i64 0,.bool true]
 but:aj (fun k=>k=p∨k=n.rg) X w3
 not:¬MB M3 q
theorem gL.nd {w3:World} {M3:Nat→Option NV} {n3:NV} {k L q:Nat} (h:gL X M p n k L q w3 M3 n3):Nd w3 p n3:=h.mem.nd p n3 h.SK
theorem gL.pq {w3:World} {M3:Nat→Option NV} {n3:NV} {k L q:Nat} (h:gL X M p n k L q w3 M3 n3):p≠q:=fun e=>h.not ⟨p,n3,h.SK,.inl e.symm⟩
theorem gL.rq {w3:World} {M3:Nat→Option NV} {n3:NV} {k L q:Nat} (h:gL X M p n k L q w3 M3 n3):n3.rg≠q:=fun e=>h.not ⟨p,n3,h.SK,.inr e.symm⟩
theorem gL.keys {w3:World} {M3:Nat→Option NV} {n3:NV} {k L q:Nat} (h:gL X M p n k L q w3 M3 n3) (_:M p=some n) (b:ByteArray):
  Nd ((w3.setCell ⟨q,3,none⟩ (.string b)).setCell ⟨q,4,none⟩ (.string (bs n.hi))) p n3∧
  aG ((w3.setCell ⟨q,3,none⟩ (.string b)).setCell ⟨q,4,none⟩ (.string (bs n.hi))) q 90 [.int .i64 n.level,.slice (some ⟨n.rg,n.ro+k*3,none⟩) (L-k) (n.cap-k),.int .i64 (-1),.string b,.string (bs n.hi),.int .i64 0,.int .i64 0,.bool true]:=by
 refine⟨?_,(h.blk.set 3 _).set 4 _⟩
 have hb:aj (fun j=>j=q) w3 ((w3.setCell ⟨q,3,none⟩ (.string b)).setCell ⟨q,4,none⟩ (.string (bs n.hi))):=((aj.refl (fun j=>j=q) w3).setCell _ _ fun _=>rfl).setCell _ _ fun _=>rfl
 exact h.nd.but hb h.pq h.rq
theorem sQ {w2 w3:World} {k q:Nat} (hm:Mem w2 M) (hp:M p=some n) {L:Nat} (hL:L=n.its.length) (hlv:n.level=0) (hb:Below w2.heap.size w2 w3)
  (hq:aG w2 q 90 [.int .i64 n.level,.slice (some ⟨n.rg,n.ro+k*3,none⟩) (L-k) (n.cap-k),.int .i64 (-1),.string ⟨#[]⟩,.string ⟨#[]⟩,.int .i64 0,.int .i64 0,.bool true])
  (hX:Below X.heap.size X w2) (hn:¬MB M q):gL X M p n k L q w3 M n:=
 ⟨hm.still hb,hp,fun _ _=>rfl,⟨rfl,rfl,rfl,rfl,rfl,rfl,rfl,rfl⟩,rfl,hL.symm,rfl,by unfold gK;rw[if_pos hlv],hq.below hb hq.lt,aj.aq (hX.trans (hb.mono hX.size)) _,hn⟩
theorem vN {w2:World} {k q:Nat} (hm:Mem w2 M) (hp:M p=some n) {L:Nat} (hL:L=n.its.length) (hlv:¬n.level=0) (hk:k<n.its.length)
  (hq:aG w2 q 90 [.int .i64 n.level,.slice (some ⟨n.rg,n.ro+k*3,none⟩) (L-k) (n.cap-k),.int .i64 (-1),.string ⟨#[]⟩,.string ⟨#[]⟩,.int .i64 0,.int .i64 0,.bool true])
  (hX:Below X.heap.size X w2) (hn:¬MB M q):
  gL X M p n k L q (w2.setCell ⟨n.rg,n.ro+k*3,none⟩ (.string ⟨#[]⟩)) (upd M p {n with its:=n.its.set k {n.its[k] with key:=[]}}) {n with its:=n.its.set k {n.its[k] with key:=[]}}:=by
 have hm':=hm.item hp k 0 hk (by decide) {n.its[k] with key:=[]} (.string ⟨#[]⟩) rfl ⟨Nat.zero_le _,((hm.nd p n hp).small.each _ (List.getElem_mem hk)).2⟩
 rw[Nat.add_zero] at hm'
 refine⟨hm',aM _ _ _,fun x hx=>aA hx,⟨rfl,rfl,rfl,rfl,rfl,rfl,rfl,rfl⟩,rfl,by rw[hL];exact List.length_set,List.take_set_of_le (Nat.le_refl _), ?_,hq.other _ _ fun e=>hn ⟨p,n,hp,.inr e⟩,(aj.aq hX _).setCell _ _ fun _=>.inr rfl, ?_⟩
 ·unfold gK
  simp only[]
  rw[if_neg hlv,List.drop_eq_getElem_cons (show k<(n.its.set k _).length by rw[List.length_set];exact hk),List.getElem_set_self,List.drop_set_of_lt (Nat.lt_succ_self k),List.drop_eq_getElem_cons hk]
  rfl
 ·rintro⟨x,m,hx,he⟩
  rcases ak hx with⟨rfl,rfl⟩|⟨_,h2⟩
  ·exact hn ⟨x,n,hp,he⟩
  ·exact hn ⟨x,m,h2,he⟩
theorem gL.done {w3:World} {M3:Nat→Option NV} {n3:NV} {k L q:Nat} (h:gL X M p n k L q w3 M3 n3) (hp:M p=some n) (hk:k≤n.its.length) (hL:L=n.its.length) (hq:X.heap.size≤q):
  C3 X M p n k (.returned (.tuple #[ptr q,.string (bs (between n k))]))
   (((((w3.setCell ⟨q,3,none⟩ (.string (bs (between n k)))).setCell ⟨q,4,none⟩ (.string (bs n.hi))).setCell ⟨p,1,none⟩ (.slice (some ⟨n.rg,n.ro,none⟩) k k)).setCell ⟨p,4,none⟩ (.string (bs (between n k)))).setCell ⟨p,7,none⟩ (.bool true)):=by
 obtain⟨hN,hQ⟩:=h.keys hp (bs (between n k))
 obtain⟨s1,s2,s3,s4,s5,s6,s7,s8⟩:=h.same
 have tl:(n.its.take k).length=k:=by rw[List.length_take];omega
 have hb:aj (fun j=>j=p∨j=q) w3 (((((w3.setCell ⟨q,3,none⟩ (.string (bs (between n k)))).setCell ⟨q,4,none⟩ (.string (bs n.hi))).setCell ⟨p,1,none⟩ (.slice (some ⟨n.rg,n.ro,none⟩) k k)).setCell ⟨p,4,none⟩ (.string (bs (between n k)))).setCell ⟨p,7,none⟩ (.bool true)):=
  (((((aj.refl (fun j=>j=p∨j=q) w3).setCell _ _ fun _=>Or.inr rfl).setCell _ _ fun _=>Or.inr rfl).setCell _ _ fun _=>Or.inl rfl).setCell _ _ fun _=>Or.inl rfl).setCell _ _ fun _=>Or.inl rfl
 have hm:=h.mem.part h.SK h.not k (by rw[h.len,hL];exact hk) (low:=ec n k) (up:=gK n k)
  ⟨h.take.symm,s2.symm,s3.symm,rfl,rfl⟩ ⟨h.drop.symm,s2.symm,by rw[s3];rfl,by rw[s4];rfl,rfl⟩ hb
  (by
   have e:((n3.cells.set 1 (.slice (some ⟨n.rg,n.ro,none⟩) k k)).set 4 (.string (bs (between n k)))).set 7 (.bool true)=(ec n k).cells:=by
    unfold NV.cells
    rw[s1,s5,s6,s7,s8]
    show _=[_,Value.slice _ (n.its.take k).length k,_,_,_,_,_,_]
    rw[tl];rfl
   rw[←e]
   exact ((hN.blk.set 1 _).set 4 _).set 7 _)
  (by
   have ul:(gK n k).its.length=L-k:=by rw[←h.drop,List.length_drop,h.len]
   have e:(gK n k).cells=[.int .i64 n.level,.slice (some ⟨n.rg,n.ro+k*3,none⟩) (L-k) (n.cap-k),.int .i64 (-1),.string (bs (between n k)),.string (bs n.hi),.int .i64 0,.int .i64 0,.bool true]:=by
    unfold NV.cells
    rw[ul];rfl
   rw[e]
   exact ((hQ.other _ _ h.pq.symm).other _ _ h.pq.symm).other _ _ h.pq.symm)
 refine⟨q,rfl, ?_,hq, ?_⟩
 ·have e:upd (upd M3 p (ec n k)) q (gK n k)=upd (upd M p (ec n k)) q (gK n k):=by
   funext x
   unfold upd
   by_cases e1:x=q
   ·rw[if_pos e1,if_pos e1]
   ·rw[if_neg e1,if_neg e1]
    by_cases e2:x=p
    ·rw[if_pos e2,if_pos e2]
    ·rw[if_neg e2,if_neg e2];exact h.other x e2
  rw[←e];exact hm
 ·exact h.but.trans (hb.mono fun i _ hi=>hi) fun i hi e=>e.elim .inl fun e=>absurd hi (by omega)
theorem nw (h:Mem X M) (hp:M p=some n) (H:Nat) (hH:H=dm (bz n.its) 0 n.its) (h0:0<H) (hk:n.level=0→Tr.lt ((n.its.map It.key).getD (H-1) []) ((n.its.map It.key).getD H [])=true):
  Calls Tryz.prog 102 #[ptr p] X fun e X'=>C3 X M p n H e X':=by
 have hnd:=h.nd p n hp
 have c1:=hnd.c1
 have bY:=hnd.blk.lt
 have hl:=hnd.small.len
 have gz:(n.its.length:Int)≤400:=by omega
 have hne:n.its≠[]:=by rintro e;rw[e] at hH;rw[hH] at h0;exact absurd h0 (by decide)
 have XO:H<n.its.length:=by rw[hH];exact l9 _ _ _ hne
 have hts:=hnd.small.size
 have HI:=aa (And.intro h (And.intro hp (And.intro hH (And.intro h0 (And.intro hk XO)))))
 have HS:=aa (fun (W:World) (hb:Below X.heap.size X W)=>eM (hnd.still hb))
 obtain⟨T,hT⟩:∃T,T=bz n.its:=⟨_,rfl⟩
 obtain⟨L,hL⟩:∃L,L=n.its.length:=⟨_,rfl⟩
 rw[←hT] at HS hts
 rw[←hL] at c1 gz
 have HT:=aa (And.intro hT hL)
 clear h hp hH h0 hk hl hne hT hL XO
 go_enter Tryz.func102,Tryz.ntmps102
 unfold ptr
 go_wp2
 go_loopw [4,5] (fun hv sv wr=>∃k s:Nat,hv=.int .i64 k∧sv=.int .i64 s∧Hid (k<L∧s=bz (n.its.take k)∧s≤160800∧k+dm T s (n.its.drop k)=H)∧Hid (Below X.heap.size X wr)) (fun hv _ _=>L-(RowKit.intOf hv).toNat)
 case atStart=>exact⟨0,0,rfl,rfl,aa ⟨by have:=HI.out;have:=HT.out;omega,rfl,Nat.zero_le _,by rw[HI.out.2.2.1,HT.out.1,List.drop_zero,Nat.zero_add]⟩,aa (Below.refl _ _)⟩
 case round=>
  obtain⟨k,s,rfl,rfl,hK,hB⟩:=hrel
  have d1:=(hB.out.cell (p:=⟨p,1,none⟩) bY).trans c1
  have hw:Nd wr p n:=hnd.still hB.out
  have pH:(k:Int)<L:=by have:=hK.out.1;omega
  have FR:(s:Int)≤160800:=by have:=hK.out.2.2.1;omega
  by_cases hk1:k+1<L
  ·have Ns:(k:Int)<(L:Int)-1:=by omega
   have Qd:decide ((k:Int)<(L:Int)-1)=true:=decide_eq_true Ns
   have hsT:(T:Int)≤160800:=by omega
   unfold ptr at HS
   go_wp2_with fail
   refine (HS.out wr hB.out).mono ?_
   rintro e w1 ⟨rfl,aQ⟩
   have iI:=aa (hB.out.trans (aQ.mono hB.out.size))
   have d2:=(iI.out.cell (p:=⟨p,1,none⟩) bY).trans c1
   clear aQ
   by_cases iU:2*s<T
   ·have Nt:2*(s:Int)<T:=by omega
    have hsd:decide (2*(s:Int)<T)=true:=decide_eq_true Nt
    have gH:k<n.its.length:=by have:=HT.out;omega
    obtain⟨a0,a1,a2⟩:=aH (cN hnd.row iI.out) k gH
    have he:=hnd.small.each _ (List.getElem_mem gH)
    have HC:=aa (fun W=>vm W n.its[k] ⟨by omega,by omega⟩)
    have HK:=aa (show k+1<L∧s+gh n.its[k]=bz (n.its.take (k+1))∧k+1+dm T (s+gh n.its[k]) (n.its.drop (k+1))=H from⟨hk1,by rw[vq _ _ gH,hK.out.2.1],by rw[←hK.out.2.2.2];exact (zo (by have:=HT.out;omega) iU).symm⟩)
    have hle:=hnd.small.part (k+1)
    rw[←HK.out.2.1] at hle
    generalize n.its[k]=it at*
    clear hk1 iU gH he
    go_wp2_with fail
    refine (HC.out _).mono ?_
    rintro e w2 ⟨rfl,aC⟩
    have kf:=aa (iI.out.trans (aC.mono iI.out.size))
    clear aC
    generalize gh it=z at*
    have hz:(s:Int)+z≤160800:=by omega
    go_wp2
    go_roundw
    case rel=>exact⟨k+1,s+z,by go_num,by go_num,aa ⟨HK.out.1,HK.out.2.1,hle,HK.out.2.2⟩,kf⟩
    case measure=>have:=HK.out.1;simp[RowKit.intOf];omega
   ·have Nt:¬2*(s:Int)<T:=by omega
    have hsd:decide (2*(s:Int)<T)=false:=decide_eq_false Nt
    have Qe:=aa (show k=H by
     have:=hK.out.2.2.2
     rw[qH (.inr iU)] at this
     omega)
    clear hk1 iU
    have hkh:=Qe.out
    subst hkh
    have HM:=aa (HI.out.1.still iI.out)
    have hw0:Nd w1 p n:=hnd.still iI.out
    have e0:=hw0.c0
    have e1:=hw0.c1
    rw[←HT.out.2] at e1
    have gH:k<n.its.length:=HI.out.2.2.2.2.2
    have mK:=HI.out.2.2.2.1
    have Qf:L≤n.cap:=by have:=hnd.small.cap.1;have:=HT.out;omega
    have hcm:(n.cap:Int)≤9223372036854775807:=by have:=hnd.small.cap.2;unfold maxLen at this;omega
    have hck:¬n.cap=k:=by have:=HT.out;omega
    have Ua:(0:Int)<(L:Int)-k:=by have:=HT.out;omega
    have Ub:(k:Int)≤L:=by omega
    have hkm:k-1<n.its.length:=Nat.lt_of_le_of_lt (Nat.sub_le _ _) gH
    have BQ:=hw0.blk.lt
    have y8:(n.level:Int)≥0:=by omega
    clear hB hw pH hK Qe
    obtain⟨w2,gy⟩:∃w2,w2=(w1.alloc (.cells #[.int .i64 n.level,.slice (some ⟨n.rg,n.ro+k*3,none⟩) (L-k) (n.cap-k),.int .i64 (-1),.string ⟨#[]⟩,.string ⟨#[]⟩,.int .i64 0,.int .i64 0,.bool true] 90)).drew:=⟨_,rfl⟩
    obtain⟨q,hq⟩:∃q,q=w1.heap.size:=⟨_,rfl⟩
    have HN:=aa (show Below X.heap.size X w2∧aG w2 q 90 [.int .i64 n.level,.slice (some ⟨n.rg,n.ro+k*3,none⟩) (L-k) (n.cap-k),.int .i64 (-1),.string ⟨#[]⟩,.string ⟨#[]⟩,.int .i64 0,.int .i64 0,.bool true]∧X.heap.size≤q∧Mem w2 M∧w1.heap.size≤w2.heap.size∧w1.heap.size≤q from by
     have b2:Below w1.heap.size w1 w2:=by rw[gy];exact ((Below.refl _ w1).alloc (Nat.le_refl _) _).drew
     exact⟨iI.out.trans (b2.mono iI.out.size),by rw[gy,hq];exact aG.drew (aG.new w1 _ _),by rw[hq];exact iI.out.size,HM.out.still b2,b2.size,Nat.le_of_eq hq.symm⟩)
    go_wp2_with fail
    go_region
    rw[←gy,←hq]
    have ld:Nd w2 p n:=hnd.still HN.out.1
    clear gy hq e0 e1 hw0 BQ
    have x1:=HN.out.2.1.cell (j:=1) rfl
    have e0:=ld.c0
    have i0:=(aH ld.row k gH).1
    have i1:=(aH ld.row (k-1) hkm).1
    have hrl:=rz ld.row gH
    have BQ:=ld.blk.lt
    have jq:(n.its.map It.key).getD k []=n.its[k].key:=by rw[List.getD_eq_getElem?_getD,List.getElem?_map,List.getElem?_eq_getElem gH];rfl
    have KD:(n.its.map It.key).getD (k-1) []=n.its[k-1].key:=by rw[List.getD_eq_getElem?_getD,List.getElem?_map,List.getElem?_eq_getElem hkm];rfl
    by_cases hlv:n.level=0
    ·have sR:¬(n.level:Int)>0:=by omega
     have Qg:decide ((n.level:Int)>0)=false:=decide_eq_false sR
     have e1:=ld.c1
     rw[←HT.out.2] at e1
     have hkb:=HI.out.2.2.2.2.1 hlv
     rw[jq,KD] at hkb
     have cC:between n k=Tr.bG n.its[k-1].key n.its[k].key:=by unfold between;rw[if_pos hlv,jq,KD]
     have hs1:=hnd.small.each _ (List.getElem_mem gH)
     have iU:=hnd.small.each _ (List.getElem_mem hkm)
     have HC:=aa (fun W=>oz W _ _ hkb (by omega) (by omega))
     rw[←cC] at HC
     have Uc:(0:Int)≤(k:Int)-1:=by omega
     clear jq KD hkb cC hs1 iU
     go_wp2_with fail
     refine (HC.out w2).mono ?_
     rintro e w3 ⟨rfl,cC⟩
     have H3:=aa (sQ HN.out.2.2.2.1 HI.out.2.1 HT.out.2 hlv cC HN.out.2.1 HN.out.1 (fun h=>absurd (HM.out.iN h) (Nat.not_lt.2 HN.out.2.2.2.2.2)))
     clear x1 e0 i0 i1 hrl BQ ld e1 HC cC
     obtain⟨w4,uz⟩:∃w4,w4=(w3.setCell ⟨q,3,none⟩ (.string (bs (between n k)))).setCell ⟨q,4,none⟩ (.string (bs n.hi)):=⟨_,rfl⟩
     have lU:=H3.out.nd
     have e4:w3.cell? ⟨p,4,none⟩=some (.string (bs n.hi)):=H3.out.hi▸lU.c4
     have e1:w3.cell? ⟨p,1,none⟩=some (.slice (some ⟨n.rg,n.ro,none⟩) L n.cap):=by
      have:=lU.c1
      rw[H3.out.len,H3.out.same.2.1,H3.out.same.2.2.1,H3.out.same.2.2.2.1] at this
      exact this
     have q3:=H3.out.blk.frozen 3
     have q4:=H3.out.blk.frozen 4
     have x3:=H3.out.blk.cell (j:=3) rfl
     have x4:=H3.out.blk.cell (j:=4) rfl
     have H4:=aa (H3.out.keys HI.out.2.1 (bs (between n k)))
     rw[←uz] at H4
     have g1:=H4.out.1.c1
     have g4:=H4.out.1.c4
     have g7:=H4.out.1.c7
     rw[H3.out.len,H3.out.same.2.1,H3.out.same.2.2.1,H3.out.same.2.2.2.1] at g1
     have k1:=H4.out.1.blk.frozen 1
     have k4:=H4.out.1.blk.frozen 4
     have k7:=H4.out.1.blk.frozen 7
     have kT:=aa (oN w4 (some ⟨n.rg,n.ro,none⟩) k n.cap (by have:=HT.out;omega) (by have:=HT.out;omega) hcm)
     have HE:=aa (H3.out.done HI.out.2.1 (Nat.le_of_lt gH) HT.out.2 HN.out.2.2.1)
     rw[←uz] at HE
     have Nu:(k:Int)≤n.cap:=by omega
     generalize bs (between n k)=bw at*
     clear lU
     go_wp2_with fail
     rw[←uz]
     refine kT.out.mono ?_
     rintro e w5 ⟨rfl,rfl⟩
     clear uz e4 e1 q3 q4 x3 x4 kT
     go_wp2_with fail
     refine bodyPost_ret (results_tmp2 rfl _ _ _) rfl ?_
     exact HE.out
    ·have sR:(n.level:Int)>0:=by omega
     have Qg:decide ((n.level:Int)>0)=true:=decide_eq_true sR
     have i0f:w2.frozen? ⟨n.rg,n.ro+k*3,none⟩=false:=by
      obtain⟨cur,hc⟩:=HN.out.2.2.2.1.ty p n HI.out.2.1
      simp[World.frozen?,hc]
     have f3:=HN.out.2.1.frozen 3
     have f4:=HN.out.2.1.frozen 4
     have cC:between n k=n.its[k].key:=by unfold between;rw[if_neg hlv,jq]
     rw[←cC] at i0
     obtain⟨w3,G2⟩:∃w3,w3=w2.setCell ⟨n.rg,n.ro+k*3,none⟩ (.string ⟨#[]⟩):=⟨_,rfl⟩
     have H3:=aa (vN HN.out.2.2.2.1 HI.out.2.1 HT.out.2 hlv gH HN.out.2.1 HN.out.1 (fun h=>absurd (HM.out.iN h) (Nat.not_lt.2 HN.out.2.2.2.2.2)))
     rw[←G2] at H3
     clear jq KD cC i1 ld
     obtain⟨w4,uz⟩:∃w4,w4=(w3.setCell ⟨q,3,none⟩ (.string (bs (between n k)))).setCell ⟨q,4,none⟩ (.string (bs n.hi)):=⟨_,rfl⟩
     have lU:=H3.out.nd
     have e4:w3.cell? ⟨p,4,none⟩=some (.string (bs n.hi)):=H3.out.hi▸lU.c4
     have e1:w3.cell? ⟨p,1,none⟩=some (.slice (some ⟨n.rg,n.ro,none⟩) L n.cap):=by
      have:=lU.c1
      rw[H3.out.len,H3.out.same.2.1,H3.out.same.2.2.1,H3.out.same.2.2.2.1] at this
      exact this
     have q3:=H3.out.blk.frozen 3
     have q4:=H3.out.blk.frozen 4
     have x3:=H3.out.blk.cell (j:=3) rfl
     have x4:=H3.out.blk.cell (j:=4) rfl
     have H4:=aa (H3.out.keys HI.out.2.1 (bs (between n k)))
     rw[←uz] at H4
     have g1:=H4.out.1.c1
     have g4:=H4.out.1.c4
     have g7:=H4.out.1.c7
     rw[H3.out.len,H3.out.same.2.1,H3.out.same.2.2.1,H3.out.same.2.2.2.1] at g1
     have k1:=H4.out.1.blk.frozen 1
     have k4:=H4.out.1.blk.frozen 4
     have k7:=H4.out.1.blk.frozen 7
     have kT:=aa (oN w4 (some ⟨n.rg,n.ro,none⟩) k n.cap (by have:=HT.out;omega) (by have:=HT.out;omega) hcm)
     have HE:=aa (H3.out.done HI.out.2.1 (Nat.le_of_lt gH) HT.out.2 HN.out.2.2.1)
     rw[←uz] at HE
     have Nu:(k:Int)≤n.cap:=by omega
     generalize bs (between n k)=bw at*
     clear lU
     subst G2
     go_wp2_with fail
     rw[←uz]
     refine kT.out.mono ?_
     rintro e w5 ⟨rfl,rfl⟩
     clear uz e4 e1 q3 q4 x3 x4 kT
     go_wp2_with fail
     refine bodyPost_ret (results_tmp2 rfl _ _ _) rfl ?_
     exact HE.out
  ·have Ns:¬(k:Int)<(L:Int)-1:=by omega
   have Qd:decide ((k:Int)<(L:Int)-1)=false:=decide_eq_false Ns
   have Qe:=aa (show k=H by
    have:=hK.out.2.2.2
    rw[qH (.inl (by have:=HT.out;omega))] at this
    omega)
   clear hk1
   have iI:=aa hB.out
   rename World=>w1
   have hkh:=Qe.out
   subst hkh
   have HM:=aa (HI.out.1.still iI.out)
   have hw0:Nd w1 p n:=hnd.still iI.out
   have e0:=hw0.c0
   have e1:=hw0.c1
   rw[←HT.out.2] at e1
   have gH:k<n.its.length:=HI.out.2.2.2.2.2
   have mK:=HI.out.2.2.2.1
   have Qf:L≤n.cap:=by have:=hnd.small.cap.1;have:=HT.out;omega
   have hcm:(n.cap:Int)≤9223372036854775807:=by have:=hnd.small.cap.2;unfold maxLen at this;omega
   have hck:¬n.cap=k:=by have:=HT.out;omega
   have Ua:(0:Int)<(L:Int)-k:=by have:=HT.out;omega
   have Ub:(k:Int)≤L:=by omega
   have hkm:k-1<n.its.length:=Nat.lt_of_le_of_lt (Nat.sub_le _ _) gH
   have BQ:=hw0.blk.lt
   have y8:(n.level:Int)≥0:=by omega
   clear hB hw pH hK Qe
   obtain⟨w2,gy⟩:∃w2,w2=(w1.alloc (.cells #[.int .i64 n.level,.slice (some ⟨n.rg,n.ro+k*3,none⟩) (L-k) (n.cap-k),.int .i64 (-1),.string ⟨#[]⟩,.string ⟨#[]⟩,.int .i64 0,.int .i64 0,.bool true] 90)).drew:=⟨_,rfl⟩
   obtain⟨q,hq⟩:∃q,q=w1.heap.size:=⟨_,rfl⟩
   have HN:=aa (show Below X.heap.size X w2∧aG w2 q 90 [.int .i64 n.level,.slice (some ⟨n.rg,n.ro+k*3,none⟩) (L-k) (n.cap-k),.int .i64 (-1),.string ⟨#[]⟩,.string ⟨#[]⟩,.int .i64 0,.int .i64 0,.bool true]∧X.heap.size≤q∧Mem w2 M∧w1.heap.size≤w2.heap.size∧w1.heap.size≤q from by
    have b2:Below w1.heap.size w1 w2:=by rw[gy];exact ((Below.refl _ w1).alloc (Nat.le_refl _) _).drew
    exact⟨iI.out.trans (b2.mono iI.out.size),by rw[gy,hq];exact aG.drew (aG.new w1 _ _),by rw[hq];exact iI.out.size,HM.out.still b2,b2.size,Nat.le_of_eq hq.symm⟩)
   go_wp2_with fail
   go_region
   rw[←gy,←hq]
   have ld:Nd w2 p n:=hnd.still HN.out.1
   clear gy hq e0 e1 hw0 BQ
   have x1:=HN.out.2.1.cell (j:=1) rfl
   have e0:=ld.c0
   have i0:=(aH ld.row k gH).1
   have i1:=(aH ld.row (k-1) hkm).1
   have hrl:=rz ld.row gH
   have BQ:=ld.blk.lt
   have jq:(n.its.map It.key).getD k []=n.its[k].key:=by rw[List.getD_eq_getElem?_getD,List.getElem?_map,List.getElem?_eq_getElem gH];rfl
   have KD:(n.its.map It.key).getD (k-1) []=n.its[k-1].key:=by rw[List.getD_eq_getElem?_getD,List.getElem?_map,List.getElem?_eq_getElem hkm];rfl
   by_cases hlv:n.level=0
   ·have sR:¬(n.level:Int)>0:=by omega
    have Qg:decide ((n.level:Int)>0)=false:=decide_eq_false sR
    have e1:=ld.c1
    rw[←HT.out.2] at e1
    have hkb:=HI.out.2.2.2.2.1 hlv
    rw[jq,KD] at hkb
    have cC:between n k=Tr.bG n.its[k-1].key n.its[k].key:=by unfold between;rw[if_pos hlv,jq,KD]
    have hs1:=hnd.small.each _ (List.getElem_mem gH)
    have iU:=hnd.small.each _ (List.getElem_mem hkm)
    have HC:=aa (fun W=>oz W _ _ hkb (by omega) (by omega))
    rw[←cC] at HC
    have Uc:(0:Int)≤(k:Int)-1:=by omega
    clear jq KD hkb cC hs1 iU
    go_wp2_with fail
    refine (HC.out w2).mono ?_
    rintro e w3 ⟨rfl,cC⟩
    have H3:=aa (sQ HN.out.2.2.2.1 HI.out.2.1 HT.out.2 hlv cC HN.out.2.1 HN.out.1 (fun h=>absurd (HM.out.iN h) (Nat.not_lt.2 HN.out.2.2.2.2.2)))
    clear x1 e0 i0 i1 hrl BQ ld e1 HC cC
    obtain⟨w4,uz⟩:∃w4,w4=(w3.setCell ⟨q,3,none⟩ (.string (bs (between n k)))).setCell ⟨q,4,none⟩ (.string (bs n.hi)):=⟨_,rfl⟩
    have lU:=H3.out.nd
    have e4:w3.cell? ⟨p,4,none⟩=some (.string (bs n.hi)):=H3.out.hi▸lU.c4
    have e1:w3.cell? ⟨p,1,none⟩=some (.slice (some ⟨n.rg,n.ro,none⟩) L n.cap):=by
     have:=lU.c1
     rw[H3.out.len,H3.out.same.2.1,H3.out.same.2.2.1,H3.out.same.2.2.2.1] at this
     exact this
    have q3:=H3.out.blk.frozen 3
    have q4:=H3.out.blk.frozen 4
    have x3:=H3.out.blk.cell (j:=3) rfl
    have x4:=H3.out.blk.cell (j:=4) rfl
    have H4:=aa (H3.out.keys HI.out.2.1 (bs (between n k)))
    rw[←uz] at H4
    have g1:=H4.out.1.c1
    have g4:=H4.out.1.c4
    have g7:=H4.out.1.c7
    rw[H3.out.len,H3.out.same.2.1,H3.out.same.2.2.1,H3.out.same.2.2.2.1] at g1
    have k1:=H4.out.1.blk.frozen 1
    have k4:=H4.out.1.blk.frozen 4
    have k7:=H4.out.1.blk.frozen 7
    have kT:=aa (oN w4 (some ⟨n.rg,n.ro,none⟩) k n.cap (by have:=HT.out;omega) (by have:=HT.out;omega) hcm)
    have HE:=aa (H3.out.done HI.out.2.1 (Nat.le_of_lt gH) HT.out.2 HN.out.2.2.1)
    rw[←uz] at HE
    have Nu:(k:Int)≤n.cap:=by omega
    generalize bs (between n k)=bw at*
    clear lU
    go_wp2_with fail
    rw[←uz]
    refine kT.out.mono ?_
    rintro e w5 ⟨rfl,rfl⟩
    clear uz e4 e1 q3 q4 x3 x4 kT
    go_wp2_with fail
    refine bodyPost_ret (results_tmp2 rfl _ _ _) rfl ?_
    exact HE.out
   ·have sR:(n.level:Int)>0:=by omega
    have Qg:decide ((n.level:Int)>0)=true:=decide_eq_true sR
    have i0f:w2.frozen? ⟨n.rg,n.ro+k*3,none⟩=false:=by
     obtain⟨cur,hc⟩:=HN.out.2.2.2.1.ty p n HI.out.2.1
     simp[World.frozen?,hc]
    have f3:=HN.out.2.1.frozen 3
    have f4:=HN.out.2.1.frozen 4
    have cC:between n k=n.its[k].key:=by unfold between;rw[if_neg hlv,jq]
    rw[←cC] at i0
    obtain⟨w3,G2⟩:∃w3,w3=w2.setCell ⟨n.rg,n.ro+k*3,none⟩ (.string ⟨#[]⟩):=⟨_,rfl⟩
    have H3:=aa (vN HN.out.2.2.2.1 HI.out.2.1 HT.out.2 hlv gH HN.out.2.1 HN.out.1 (fun h=>absurd (HM.out.iN h) (Nat.not_lt.2 HN.out.2.2.2.2.2)))
    rw[←G2] at H3
    clear jq KD cC i1 ld
    obtain⟨w4,uz⟩:∃w4,w4=(w3.setCell ⟨q,3,none⟩ (.string (bs (between n k)))).setCell ⟨q,4,none⟩ (.string (bs n.hi)):=⟨_,rfl⟩
    have lU:=H3.out.nd
    have e4:w3.cell? ⟨p,4,none⟩=some (.string (bs n.hi)):=H3.out.hi▸lU.c4
    have e1:w3.cell? ⟨p,1,none⟩=some (.slice (some ⟨n.rg,n.ro,none⟩) L n.cap):=by
     have:=lU.c1
     rw[H3.out.len,H3.out.same.2.1,H3.out.same.2.2.1,H3.out.same.2.2.2.1] at this
     exact this
    have q3:=H3.out.blk.frozen 3
    have q4:=H3.out.blk.frozen 4
    have x3:=H3.out.blk.cell (j:=3) rfl
    have x4:=H3.out.blk.cell (j:=4) rfl
    have H4:=aa (H3.out.keys HI.out.2.1 (bs (between n k)))
    rw[←uz] at H4
    have g1:=H4.out.1.c1
    have g4:=H4.out.1.c4
    have g7:=H4.out.1.c7
    rw[H3.out.len,H3.out.same.2.1,H3.out.same.2.2.1,H3.out.same.2.2.2.1] at g1
    have k1:=H4.out.1.blk.frozen 1
    have k4:=H4.out.1.blk.frozen 4
    have k7:=H4.out.1.blk.frozen 7
    have kT:=aa (oN w4 (some ⟨n.rg,n.ro,none⟩) k n.cap (by have:=HT.out;omega) (by have:=HT.out;omega) hcm)
    have HE:=aa (H3.out.done HI.out.2.1 (Nat.le_of_lt gH) HT.out.2 HN.out.2.2.1)
    rw[←uz] at HE
    have Nu:(k:Int)≤n.cap:=by omega
    generalize bs (between n k)=bw at*
    clear lU
    subst G2
    go_wp2_with fail
    rw[←uz]
    refine kT.out.mono ?_
    rintro e w5 ⟨rfl,rfl⟩
    clear uz e4 e1 q3 q4 x3 x4 kT
    go_wp2_with fail
    refine bodyPost_ret (results_tmp2 rfl _ _ _) rfl ?_
    exact HE.out
end
theorem h_.back {w w1 w':World} {sb tb:Nat} {sv:Value} {l:List Int} {e:Ending} (hb:Below w.heap.size w w1) (h:h_ w1 sb tb sv l e w'):h_ w sb tb sv l e w':=by
 obtain⟨he,cM,h1,h2,h3,h4⟩:=h
 exact⟨he,cM,h1,h2,(aj.aq hb _).trans h3 (fun _ _ h=>h),h4.imp_right fun h k hk=>Nat.le_trans hb.size (h k hk)⟩
section
variable {w X:World} {M:Nat→Option NV} {p sb tb:Nat} {n:NV} {sv:Value} {l:List Int} {it:It}
def Nv (w:World) (sb tb:Nat) (sv:Value) (l:List Int) (e:Ending) (w':World):Prop:=e=.returned (.slice none 0 0)∧h_ w sb tb sv l (.returned (.tuple #[])) w'
theorem BR (hs:aG w sb 132 [ptr tb,sv]) (ho:eo 0 w sv l) (h:Nd w p n) (hl:l.length≤1000000) (hn:n.its=[]):
  Calls Tryz.prog 97 #[ptr sb,ptr p,.agg #[.string (bs it.key),.string (bs it.val),.pointer (pa it.node)]] w fun e w'=>Nv w sb tb sv (l++[n.page]) e w':=by
 obtain⟨w1,hw1⟩:∃w1,w1=w.alloc (.cells #[.string (bs it.key),.string (bs it.val),.pointer (pa it.node)] 95):=⟨_,rfl⟩
 have aQ:Below w.heap.size w w1:=by rw[hw1];exact (Below.refl _ w).alloc (Nat.le_refl _) _
 have h1:=h.still aQ
 have c1:=h.c1
 rw[hn] at c1
 have c1':w.cell? ⟨p,1,none⟩=some (.slice (some ⟨n.rg,n.ro,none⟩) 0 n.cap):=c1
 have bY:=h.blk.lt
 clear c1
 have HC:=aa (fun e w' (h:h_ w1 sb tb sv (l++[n.page]) e w')=>h.back aQ)
 have HL:=aa (fU w1 sb tb p sv l n (hs.below aQ hs.lt) (Own.below ho aQ (Nat.le_refl _)) h1 hl)
 clear h1 aQ h hs ho
 go_enter Tryz.func97,Tryz.ntmps97
 unfold ptr
 go_wp2_with fail
 rw[←hw1]
 refine HL.out.mono ?_
 intro e w2 h2
 have H2:=aa (HC.out _ _ h2)
 obtain⟨rfl,-⟩:=h2
 clear hw1 HL HC
 go_wp2_with fail
 go_ret
 exact⟨rfl,H2.out⟩
theorem p6 (w:World) (l:List It) (c:List Value) (hc:c=ah.cells l) (hl:l.length≤400) {L:Nat} (hL:L=l.length):aD w.heap.size (w.alloc (.cells c.toArray 95)) (.slice (some ⟨w.heap.size,0,none⟩) L L) l:=by
 subst hc
 exact dy (R:=[]) (by rw[List.append_nil];exact aG.new w _ _) (by rw[List.append_nil,ah.a_,hL];rfl) hL (Nat.le_refl _) (by unfold maxLen;omega) (Nat.le_refl _)
def Qh (w:World) (l:List It) (e:Ending) (w':World):Prop:=∃v,e=.returned v∧aD w.heap.size w' v l∧Below w.heap.size w w'
theorem Ej (h:Nd w p n) (hn:n.its≠[]) (hz:bz n.its≤510):
  Calls Tryz.prog 97 #[ptr sb,ptr p,.agg #[.string (bs it.key),.string (bs it.val),.pointer (pa it.node)]] w fun e w'=>Qh w [it] e w':=by
 obtain⟨w1,hw1⟩:∃w1,w1=w.alloc (.cells #[.string (bs it.key),.string (bs it.val),.pointer (pa it.node)] 95):=⟨_,rfl⟩
 have aQ:Below w.heap.size w w1:=by rw[hw1];exact (Below.refl _ w).alloc (Nat.le_refl _) _
 have h1:=h.still aQ
 have c1:=h.c1
 have bY:=h.blk.lt
 obtain⟨L,hL⟩:∃L,L=n.its.length:=⟨_,rfl⟩
 rw[←hL] at c1
 have G3:((L:Int)==0)=false:=by rw[beq_eq_false_iff_ne];intro e;exact hn (List.length_eq_zero_iff.1 (by omega))
 have HF:=aa (fR h1)
 obtain⟨g,hg⟩:∃g,g=w.heap.size:=⟨_,rfl⟩
 have HK:=aa (show aG w1 g 95 [.string (bs it.key),.string (bs it.val),.pointer (pa it.node)]∧Below w.heap.size w w1 from⟨by rw[hw1,hg];exact aG.new w _ _,aQ⟩)
 clear h1 aQ h hL
 go_enter Tryz.func97,Tryz.ntmps97
 unfold ptr
 go_wp2_with fail
 rw[←hw1,←hg]
 refine HF.out.mono ?_
 rintro e w2 ⟨rfl,aC⟩
 rw[decide_eq_true hz]
 have H2:=aa (show aG w2 g 95 [.string (bs it.key),.string (bs it.val),.pointer (pa it.node)]∧Below w.heap.size w w2 from⟨HK.out.1.below aC HK.out.1.lt,HK.out.2.trans (aC.mono HK.out.2.size)⟩)
 have k0:=H2.out.1.cell (j:=0) rfl
 have k1:=H2.out.1.cell (j:=1) rfl
 have k2:=H2.out.1.cell (j:=2) rfl
 have HE:=aa (p6 w2 [it] [.string (bs it.key),.string (bs it.val),.pointer (pa it.node)] rfl (show 1≤400 by decide) (L:=1) rfl)
 clear HF aC hw1 hg
 go_wp2_with fail
 go_ret
 exact⟨_,rfl,Own.mono HE.out H2.out.2.size,H2.out.2.alloc H2.out.2.size _⟩
def Qi (X:World) (M:Nat→Option NV) (p:Nat) (n:NV) (h:Nat) (it:It) (e:Ending) (X':World):Prop:=
 ∃v q,e=.returned v∧aD X.heap.size X' v [it,⟨between n h,pv 0,some q⟩]∧Mem X' (upd (upd M p (ec n h)) q (gK n h))∧X.heap.size≤q∧aj (fun k=>k=p∨k=n.rg) X X'
theorem Ek (h:Mem X M) (hp:M p=some n) (H:Nat) (hH:H=dm (bz n.its) 0 n.its) (h0:0<H) (hk:n.level=0→Tr.lt ((n.its.map It.key).getD (H-1) []) ((n.its.map It.key).getD H [])=true) (hz:¬bz n.its≤510):
  Calls Tryz.prog 97 #[ptr sb,ptr p,.agg #[.string (bs it.key),.string (bs it.val),.pointer (pa it.node)]] X fun e X'=>Qi X M p n H it e X':=by
 have hn:n.its≠[]:=by rintro e;rw[e] at hz;exact hz (by decide)
 have hnd:=h.nd p n hp
 obtain⟨w1,hw1⟩:∃w1,w1=X.alloc (.cells #[.string (bs it.key),.string (bs it.val),.pointer (pa it.node)] 95):=⟨_,rfl⟩
 have aQ:Below X.heap.size X w1:=by rw[hw1];exact (Below.refl _ X).alloc (Nat.le_refl _) _
 have h1:=hnd.still aQ
 have c1:=hnd.c1
 have bY:=hnd.blk.lt
 obtain⟨L,hL⟩:∃L,L=n.its.length:=⟨_,rfl⟩
 rw[←hL] at c1
 have G3:((L:Int)==0)=false:=by rw[beq_eq_false_iff_ne];intro e;exact hn (List.length_eq_zero_iff.1 (by omega))
 have HF:=aa (fR h1)
 obtain⟨g,hg⟩:∃g,g=X.heap.size:=⟨_,rfl⟩
 have HK:=aa (show aG w1 g 95 [.string (bs it.key),.string (bs it.val),.pointer (pa it.node)]∧Below X.heap.size X w1 from⟨by rw[hw1,hg];exact aG.new X _ _,aQ⟩)
 have HI:=aa (And.intro h (And.intro hp (And.intro hH (And.intro h0 (And.intro hk hz)))))
 have HG:=aa hg
 clear h1 aQ h hL hp hH h0 hk hz hn hnd
 go_enter Tryz.func97,Tryz.ntmps97
 unfold ptr
 go_wp2_with fail
 rw[←hw1,←hg]
 refine HF.out.mono ?_
 rintro e w2 ⟨rfl,aC⟩
 rw[decide_eq_false HI.out.2.2.2.2.2]
 have H2:=aa (show aG w2 g 95 [.string (bs it.key),.string (bs it.val),.pointer (pa it.node)]∧Below X.heap.size X w2 from⟨HK.out.1.below aC HK.out.1.lt,HK.out.2.trans (aC.mono HK.out.2.size)⟩)
 have HS:=aa (nw (HI.out.1.still H2.out.2) HI.out.2.1 H HI.out.2.2.1 HI.out.2.2.2.1 HI.out.2.2.2.2.1)
 clear HF aC hw1 hg HK c1 G3 bY
 go_wp2_with fail
 refine HS.out.mono ?_
 rintro e w3 ⟨q,rfl,AQ,Mh,cC⟩
 have JB:¬(g=p∨g=n.rg):=by
  have:=HI.out.1.lt HI.out.2.1
  have:=HG.out
  rintro (e|e)<;>omega
 have H3:=aa (show aG w3 g 95 [.string (bs it.key),.string (bs it.val),.pointer (pa it.node)]∧Mem w3 (upd (upd M p (ec n H)) q (gK n H))∧X.heap.size≤q∧aj (fun k=>k=p∨k=n.rg) X w3 from⟨H2.out.1.but cC JB,AQ,Nat.le_trans H2.out.2.size Mh,(aj.aq H2.out.2 _).trans cC fun _ _ h=>h⟩)
 have k0:=H3.out.1.cell (j:=0) rfl
 have k1:=H3.out.1.cell (j:=1) rfl
 have k2:=H3.out.1.cell (j:=2) rfl
 clear HS cC AQ Mh JB
 have HC:=aa (fun W=>ia W (bs (between n H)) q)
 go_wp2_with fail
 go_wp2_with (refine wp_region_any (by kernel_rfl) ?_;refine Hid.out ?_)
 refine aa ?_
 try (change wpAny _ _ _ _ _ _ _ (World.drew _))
 refine tk 1 ?_
 refine tk 2 ?_
 try simp only[Act.put,List.setIfInBounds_toArray,List.set_cons_succ,List.set_cons_zero]
 refine rd [0,3] (AllReady.cons rfl (fun K hK=> ?_) (rn fun K hK=> ?_))
 focus
  go_simp
  refine hK _ _ ?_;clear hK K
  refine rd [3] (rn fun K hK=> ?_)
  go_simp
  refine (HC.out _).mono ?_
  rintro e w4 ⟨rfl,hb4⟩
  have xy:Below w3.heap.size w3 w4:=((Below.refl _ w3).drew).trans hb4
  have H4:=aa (And.intro (H3.out.1.below xy H3.out.1.lt) (And.intro (H3.out.2.1.still xy) (aj.trans H3.out.2.2.2 (aj.aq xy (fun _=>False)) fun _ _ h=>h.elim)))
  have y0:=H4.out.1.cell (j:=0) rfl
  have y1:=H4.out.1.cell (j:=1) rfl
  have y2:=H4.out.1.cell (j:=2) rfl
  refine hK _ _ ?_;clear hK K hb4 xy
 rotate_left
 focus
  go_simp
  refine (HC.out _).mono ?_
  rintro e w4 ⟨rfl,hb4⟩
  have xy:Below w3.heap.size w3 w4:=((Below.refl _ w3).drew).trans hb4
  have H4:=aa (And.intro (H3.out.1.below xy H3.out.1.lt) (And.intro (H3.out.2.1.still xy) (aj.trans H3.out.2.2.2 (aj.aq xy (fun _=>False)) fun _ _ h=>h.elim)))
  have y0:=H4.out.1.cell (j:=0) rfl
  have y1:=H4.out.1.cell (j:=1) rfl
  have y2:=H4.out.1.cell (j:=2) rfl
  refine hK _ _ ?_;clear hK K hb4 xy
  refine rd [0] (rn fun K hK=> ?_)
  go_simp
  refine hK _ _ ?_;clear hK K
 all_goals
  try simp only[Act.put,List.setIfInBounds_toArray,List.set_cons_succ,List.set_cons_zero]
  have HE:=aa (p6 w4 [it,⟨between n H,pv 0,some q⟩] [.string (bs it.key),.string (bs it.val),.pointer (pa it.node),.string (bs (between n H)),.string (bs (pv 0)),ptr q] rfl (show 2≤400 by decide) (L:=2) rfl)
  refine rd [4] (rn fun K hK=> ?_)
  go_simp
  refine hK _ _ ?_;clear hK K
  refine tk 5 ?_
  refine wpAny_done (by kernel_rfl) ?_ _
  go_wp2
  go_ret
  exact⟨_,q,rfl,Own.mono HE.out H4.out.2.2.size,H4.out.2.1.still ((Below.refl _ w4).alloc (Nat.le_refl _) _),H3.out.2.2.1,H4.out.2.2.alloc _⟩
end
def ed (B:Nat) (w:World) (v:Value) (l:List It) (e:Ending) (w':World):Prop:=
 ∃v',e=.returned v'∧aD B w' v' l∧aj (fun k=>v.ownBlock=some k) w w'∧(v'.ownBlock=v.ownBlock∨∀k,v'.ownBlock=some k→w.heap.size≤k)∧(v.ownBlock.isSome=true→v'.ownBlock.isSome=true)
section
variable {w:World} {B:Nat} {v:Value} {l:List It} {it:It} {vr vo:Nat}
theorem BS (h:aD B w v l) (hB:B≤w.heap.size) (hl:l.length≤400) (hv:aJ ah w vr vo [it]):
  Calls Tryz.prog 34 #[v,.int .i64 l.length,.slice (some ⟨vr,vo,none⟩) 1 1] w fun e w'=>ed B w v (l++[it]) e w':=by
 obtain⟨a,cap,rfl,hc⟩:=Own.slice h
 have HO:=aa (And.intro h (And.intro hB hv))
 have XP:=aa hl
 obtain⟨L,hL⟩:∃L,L=l.length:=⟨_,rfl⟩
 rw[←hL] at HO hl hc ⊢
 have HL:=aa hL
 have gz:(L:Int)≤400:=by omega
 have Ud:((L:Int)==L)=true:=by simp
 have h0:(0:Int)≤L:=by omega
 clear h hB hv hL
 by_cases hcL:cap=L
 ·subst hcL
  go_enter Tryz.func34,Tryz.ntmps34
  go_wp2_with (at_builtin;refine Hid.out ?_)
  refine aa ?_
  refine bB (K:=ah) sq rfl _ _ rfl rfl HO.out.1 HO.out.2.1 vr vo 1 1 [it] rfl rfl HO.out.2.2 (show l.length+1≤1000000000 by have:=XP.out;omega) ?_
  intro v2 w2 cR cP gy
  have HE:=aa (show ed B w _ (l++[it]) (.returned v2) w2 from⟨v2,rfl,cR,(aj.refl _ w).grown cP (fun k e _=>e),gy,fun _=>by obtain⟨_,_,rfl,_⟩:=Own.form cR (by simp);rfl⟩)
  clear cR cP gy
  go_wp2
  go_ret
  exact HE.out
 ·skip
  go_enter Tryz.func34,Tryz.ntmps34
  go_wp2_with (at_builtin;refine Hid.out ?_)
  refine aa ?_
  refine bB (K:=ah) sq rfl _ _ rfl rfl HO.out.1 HO.out.2.1 vr vo 1 1 [it] rfl rfl HO.out.2.2 (show l.length+1≤1000000000 by have:=XP.out;omega) ?_
  intro v2 w2 cR cP gy
  have HE:=aa (show ed B w _ (l++[it]) (.returned v2) w2 from⟨v2,rfl,cR,(aj.refl _ w).grown cP (fun k e _=>e),gy,fun _=>by obtain⟨_,_,rfl,_⟩:=Own.form cR (by simp);rfl⟩)
  clear cR cP gy
  go_wp2
  go_ret
  exact HE.out
theorem lg (w:World) (a oa la ca b ob lb cb:Nat) (hne:a≠b) (ha:∃cur,w.heap[a]?=some (.cells cur 95 (0,0))) (hb:∃cur,w.heap[b]?=some (.cells cur 95 (0,0))∧cur.size≠0):
  (callFunc 63 #[.slice (some ⟨a,oa,none⟩) la ca,.slice (some ⟨b,ob,none⟩) lb cb]).run Tryz.prog w=.ok (.value (.bool false)) w:=by
 obtain⟨ca',hca⟩:=ha
 obtain⟨cb',hcb,hz⟩:=hb
 rw[run_callFunc_extern Tryz.func63 (by kernel_rfl) (by kernel_rfl) (by kernel_rfl) (e:=Extern.SlicesOverlaps.overlaps #[86,86] #[4]) (by kernel_rfl)]
 rw[Lib.run_overlaps_apart w 86 4 95 Tryz.underlying86 3 (fun w=>by kernel_rfl) ⟨a,oa,none⟩ ⟨b,ob,none⟩ la ca lb cb hne 95 95 ca'.size cb'.size (by simp[World.shape?,hca]) (by simp[World.shape?,hcb]) hz (by simp[World.frozen?,hca]) (by simp[World.frozen?,hca])]
 rfl
theorem aU (l:List It):(ah.cells l).length=l.length*3:=ah.a_ l
theorem cz (l:List It) (i:Nat):ah.cells l=ah.cells (l.take i)++ah.cells (l.drop i):=by rw[←ah.bh,List.take_append_drop]
theorem zq {g cap i:Nat} (h:aD B w (.slice (some ⟨g,0,none⟩) l.length cap) l) (hl:l.length≤400) (hv:aJ ah w vr vo [it]) (hi:i<l.length) (hc:l.length+1≤cap) (SL:vr≠g) (BJ:∃cur,w.heap[vr]?=some (.cells cur 95 (0,0))):
  Calls Tryz.prog 34 #[.slice (some ⟨g,0,none⟩) l.length cap,.int .i64 i,.slice (some ⟨vr,vo,none⟩) 1 1] w fun e w'=>ed B w (.slice (some ⟨g,0,none⟩) l.length cap) (l.take i++it::l.drop i) e w':=by
 obtain⟨R,hg,yF,-,-,hcm,hBg⟩:=gT h
 have hlR:(ah.cells l++R).length=l.length*3+R.length:=by rw[List.length_append,aU]
 have hX:(ah.cells (l.take i)).length=i*3:=by rw[aU,List.length_take,Nat.min_eq_left (by omega)]
 have hD:(ah.cells (l.drop i)).length=(l.length-i)*3:=by rw[aU,List.length_drop]
 have HH:=aa (show w.heap[g]?=some (.cells (ah.cells (l.take i)++(ah.cells (l.drop i)++R)).toArray 95 (0,0)) from by rw[←List.append_assoc,←cz];exact hg)
 have hfr:w.frozen? ⟨vr,vo,none⟩=false:=by
  obtain⟨cur,jH⟩:=BJ
  simp[World.frozen?,jH]
 have HV:=aa (And.intro hv (And.intro BJ SL))
 have HN:=aa (show i<l.length∧l.length+1≤cap∧cap≤maxLen∧B≤g∧(ah.cells l++R).length=cap*3 from⟨hi,hc,hcm,hBg,yF⟩)
 obtain⟨L,hL⟩:∃L,L=l.length:=⟨_,rfl⟩
 rw[←hL] at hl hc ⊢
 have HL:=aa hL
 have gz:(L:Int)≤400:=by omega
 have Gi:(i:Int)<L:=by rw[hL];omega
 have Qj:(i:Int)≤L:=by omega
 have hne:((i:Int)==L)=false:=by rw[beq_eq_false_iff_ne];omega
 have vB:(L:Int)+1≤cap:=by omega
 have Ue:¬(cap:Int)<L+1:=by omega
 have KE:¬cap=i:=by omega
 have Uf:¬cap=i+1:=by omega
 clear h hv hi hc hg yF hcm hBg hlR BJ hL
 go_enter Tryz.func34,Tryz.ntmps34
 go_wp2
 rw[lg w vr vo 1 1 g ((i+1)*3) (L-i) (cap-(i+1)) HV.out.2.2 HV.out.2.1 ⟨_,HH.out,by rw[List.size_toArray,←List.append_assoc,←cz,HN.out.2.2.2.2];have:=HN.out;omega⟩]
 rw[Oper.upon_value]
 obtain⟨a,ha⟩:∃a,l.drop i=a::l.drop (i+1):=⟨_,List.drop_eq_getElem_cons HN.out.1⟩
 have jH:ah.cells (l.take i)++(ah.cells (l.drop i)++R)=(ah.cells (l.take i)++ah.enc a)++(ah.cells (l.drop (i+1))++R):=by rw[ha,Elem.cF];simp only[List.append_assoc]
 have Ug:(ah.enc a).length=3:=ah.len a
 have XQ:(ah.cells (l.take i)++ah.enc a).length=(i+1)*3:=by rw[List.length_append,hX,Ug];omega
 have XR:(ah.cells (l.drop (i+1))).length=(l.length-(i+1))*3:=by rw[aU,List.length_drop]
 have Mj:(ah.cells (l.take i)++(ah.cells (l.drop i)++R)).length=cap*3:=by rw[←List.append_assoc,←cz];exact HN.out.2.2.2.2
 have HK:=aa (And.intro jH (And.intro Ug (And.intro XQ (And.intro XR Mj))))
 have Mk:=aa (And.intro hX hD)
 clear jH Ug XQ XR Mj hX hD ha
 have iw:IntKind.i64.wrap ((i:Int)+1)=(i:Int)+1:=by
  have:=bQ (i+1) (by omega)
  rwa [show ((i+1:Nat):Int)=(i:Int)+1 by omega] at this
 have Qk:((i:Int)+1).toNat=i+1:=by omega
 have il1:(i:Int)+1≤L+1:=by omega
 have il2:(i:Int)≤L+1:=by omega
 have SM:(0:Int)≤(i:Int)+1:=by omega
 go_wp2_with (refine wp_region_any (by kernel_rfl) ?_;refine Hid.out ?_)
 refine aa ?_
 try (change wpAny _ _ _ _ _ _ _ (World.drew _))
 refine tk 0 ?_
 refine tk 1 ?_
 refine tk 2 ?_
 refine tk 3 ?_
 refine tk 4 ?_
 refine tk 5 ?_
 refine tk 6 ?_
 refine tk 7 ?_
 try simp only[Act.put,List.setIfInBounds_toArray,List.set_cons_succ,List.set_cons_zero]
 refine rd [8] (rn fun K hK=> ?_)
 refine dF _ _ rfl _ _ _ _ _ _ rfl rfl g ((i+1)*3) _ HH.out (l.drop i) (by rw[List.length_drop,←HL.out];exact (Nat.min_eq_right (by omega)).symm) (fun _=>⟨rfl,g,i*3,rfl,by have:=iX HH.out;rw[Mk.out.1] at this;exact this⟩) (by rw[HK.out.2.2.2.2,List.length_drop];have:=HN.out;omega) ?_;intro w1 rE aQ
 refine hK _ _ ?_;clear hK K
 refine wpAny_done (by kernel_rfl) ?_ _
 have aQ:=(aj.refl (fun k=>k=g) w).drew.trans aQ (fun _ _ h=>h)
 rw[HK.out.1,←HK.out.2.2.1,dG rfl] at rE
 have SN:=aa (show aJ ah w1 vr vo [it] from HV.out.1.but (S:=fun k=>k=g) aQ HV.out.2.2)
 obtain⟨R1,OY⟩:∃R1,R1=(ah.cells (l.drop (i+1))++R).drop (ah.cells (l.drop i)).length:=⟨_,rfl⟩
 rw[←OY] at rE
 have HG1:=aa (show w1.heap[g]?=some (.cells (ah.cells (l.take i)++(ah.enc a++(ah.cells (l.drop i)++R1))).toArray 95 (0,0)) from by rw[←List.append_assoc];exact rE)
 have iI:=aa (show aj (fun k=>k=g) w w1 from aQ)
 have HR1:=aa (show i*3+3+(L-i)*3+R1.length=cap*3 by
  rw[OY,List.length_drop,List.length_append,Mk.out.2,HK.out.2.2.2.1]
  have h1:=HK.out.2.2.2.2
  rw[List.length_append,List.length_append,Mk.out.1,Mk.out.2] at h1
  have:=HN.out
  have:=HL.out
  omega)
 clear rE aQ OY
 go_wp2_with (refine cW rfl _ _ rfl _ _ _ _ _ _ rfl rfl g (i*3) _ HG1.out [it] (Nat.min_eq_left (show 1≤L+1-i by omega)).symm (fun _=>⟨rfl,vr,vo,rfl,SN.out⟩) (by rw[List.length_append,Mk.out.1,List.length_append,HK.out.2.1];show i*3+1*3≤_;omega) ?_;intro w2 cP aC;refine Hid.out ?_)
 refine aa ?_
 rw[←Mk.out.1,dG rfl] at cP
 have hI:(ah.cells [it]).length=(ah.enc a).length:=by rw[aU,HK.out.2.1];rfl
 rw[hI,List.drop_left] at cP
 have HE:=aa (show ed B w (.slice (some ⟨g,0,none⟩) L cap) (l.take i++it::l.drop i) (.returned (.slice (some ⟨g,0,none⟩) (L+1) cap)) w2 from by
  have hcs:ah.cells (l.take i++it::l.drop i)++R1=ah.cells (l.take i)++(ah.cells [it]++(ah.cells (l.drop i)++R1)):=by
   rw[Elem.bh,Elem.cF,Elem.cF,Elem.u_,List.append_nil]
   simp only[List.append_assoc]
  refine⟨_,rfl,dy (R:=R1) (by rw[hcs];exact cP) ?_ ?_ (by have:=HN.out;have:=HL.out;omega) HN.out.2.2.1 HN.out.2.2.2.1, ?_,.inl rfl,fun _=>rfl⟩
  ·rw[hcs,List.length_append,List.length_append,List.length_append,Mk.out.1,Mk.out.2,hI,HK.out.2.1]
   have:=HR1.out
   have:=HL.out
   omega
  ·rw[List.length_append,List.length_cons,List.length_take,List.length_drop]
   have:=HN.out
   have:=HL.out
   omega
  ·have e:(fun k=>(Value.slice (some ⟨g,0,none⟩) L cap).ownBlock=some k)=fun k=>k=g:=by
    funext k
    exact propext ⟨fun h=>by have h2:some g=some k:=h;injection h2 with h2;exact h2.symm,fun h=>by rw[h];rfl⟩
   rw[e]
   exact iI.out.trans aC (fun _ _ h=>h))
 clear cP aC hI
 go_wp2
 go_ret
 exact HE.out
theorem fy (z:Array Value) (n:Nat):(Builtin.zeroCells z n).size=n*z.size:=by simp[Builtin.zeroCells]
theorem oO (w:World) (g i cap k:Nat) (X:List Value) (hX:X.length=i*3) (hx:∀j u,X[j]?=some u→w.cell? ⟨g,j,none⟩=some u) (h0:0<k) (hg:cap<i+k) (h:i+k≤1000000) (ty:TypeId):
  ∃(c:Nat) (Z:List Value),(Builtin.append_ #[86,3] ty #[.slice (some ⟨g,0,none⟩) i cap,.int .i64 k]).run Tryz.prog w=.ok (.slice (some ⟨w.heap.size,0,none⟩) (i+k) c) (w.drew.alloc (.cells (X++Z).toArray 95))∧i+k≤c∧c≤maxLen∧(X++Z).length=c*3:=by
 obtain⟨inf,hi,hz,hsz,hby⟩:=lN (P:=Tryz.prog) (E:=95) (size:=3) (bytes:=40) (z:=.agg #[.string .empty,.string .empty,.pointer none]) (by kernel_rfl)
 have hold:(Builtin.firstCells inf.size i (.slice (some ⟨g,0,none⟩) i cap)).run Tryz.prog w.drew=.ok X.toArray w.drew:=by
  rw[hsz]
  refine run_firstCells_some (P:=Tryz.prog) w.drew 3 i ⟨g,0,none⟩ i cap X (by omega) fun j u hu=> ?_
  have e:(⟨g,0,none⟩:Addr).add j=⟨g,j,none⟩:=by unfold Addr.add;split<;>simp_all
  rw[e]
  exact hx j u hu
 have hrun:=Lib.run_append_grow_zeros (P:=Tryz.prog) w 86 3 ty 95 inf _ .i64 .i64 Tryz.underlying86 (by kernel_rfl) hi hz (some ⟨g,0,none⟩) i cap X hold k h0 (by omega) hg (by omega) (by rw[hby];omega) (growslice_fits hg (by rw[hby];omega))
 have hge:=grownCap_ge w (i+k) cap 95
 have h3:(Value.agg #[.string .empty,.string .empty,.pointer none]).cells.size=3:=rfl
 have hA:=fy (Value.agg #[.string .empty,.string .empty,.pointer none]).cells k
 have hB:=fy (Value.agg #[.string .empty,.string .empty,.pointer none]).cells (grownCap w (i+k) cap 95-(i+k))
 generalize Builtin.zeroCells (Value.agg #[.string .empty,.string .empty,.pointer none]).cells k=A at*
 generalize Builtin.zeroCells (Value.agg #[.string .empty,.string .empty,.pointer none]).cells (grownCap w (i+k) cap 95-(i+k))=Bz at*
 have e:X.toArray++A++Bz=(X++(A++Bz).toList).toArray:=by
  apply Array.ext'
  simp only[Array.toList_append,List.append_assoc]
 rw[e] at hrun
 refine⟨_,(A++Bz).toList,hrun,hge,grownCap_le_maxLen _ _ _ _ (by unfold maxLen;omega), ?_⟩
 rw[List.length_append,hX,Array.length_toList,Array.size_append,hA,hB,h3]
 omega
theorem zu {g i:Nat} (h:aD B w (.slice (some ⟨g,0,none⟩) l.length l.length) l) (hB:B≤w.heap.size) (hl:l.length≤400) (hv:aJ ah w vr vo [it]) (hi:i<l.length) (SL:vr<w.heap.size):
  Calls Tryz.prog 34 #[.slice (some ⟨g,0,none⟩) l.length l.length,.int .i64 i,.slice (some ⟨vr,vo,none⟩) 1 1] w fun e w'=>ed B w (.slice (some ⟨g,0,none⟩) l.length l.length) (l.take i++it::l.drop i) e w':=by
 obtain⟨R,hg,yF,-,-,hcm,hBg⟩:=gT h
 have rF:g<w.heap.size:=(Array.getElem?_eq_some_iff.1 hg).1
 have hX:(ah.cells (l.take i)).length=i*3:=by rw[aU,List.length_take,Nat.min_eq_left (by omega)]
 have hD:(ah.cells (l.drop i)).length=(l.length-i)*3:=by rw[aU,List.length_drop]
 have hlies:=Own.lies h
 have hx:∀j u,(ah.cells (l.take i))[j]?=some u→w.cell? ⟨g,j,none⟩=some u:=by
  intro j u hu
  have:=hlies j u (by rw[cz l i,List.getElem?_append_left (List.getElem?_eq_some_iff.1 hu).1];exact hu)
  rwa [Nat.zero_add] at this
 have KF:aJ ah w g (i*3) (l.drop i):=by
  have:=hlies.part i (l.length-i) (by omega)
  rw[Nat.zero_add,List.take_of_length_le (by rw[List.length_drop];exact Nat.le_refl _)] at this
  exact this
 obtain⟨L,hL⟩:∃L,L=l.length:=⟨_,rfl⟩
 obtain⟨c,Z,hrun,hc1,vg,JD⟩:=oO w g i l.length (l.length+1-i) _ hX hx (by omega) (by omega) (by omega) 86
 rw[show i+(l.length+1-i)=L+1 by omega,←hL] at hrun
 rw[show i+(l.length+1-i)=L+1 by omega] at hc1
 have pH:((L+1-i:Nat):Int)=(L:Int)+1-i:=by omega
 rw[pH] at hrun
 have HR:=aa hrun
 have HH:=aa (show g<w.heap.size∧B≤w.heap.size∧aJ ah w vr vo [it]∧vr<w.heap.size∧aJ ah w g (i*3) (l.drop i)∧i<L∧L=l.length from⟨rF,hB,hv,SL,KF,by omega,hL⟩)
 have HC:=aa (show L+1≤c∧c≤maxLen∧(ah.cells (l.take i)++Z).length=c*3∧(ah.cells (l.take i)).length=i*3∧(ah.cells (l.drop i)).length=(L-i)*3 from⟨hc1,vg,JD,hX,by rw[hL];exact hD⟩)
 rw[←hL] at hl ⊢
 have gz:(L:Int)≤400:=by omega
 have Gi:(i:Int)<L:=by rw[hL];omega
 have Qj:(i:Int)≤L:=by omega
 have hne:((i:Int)==L)=false:=by rw[beq_eq_false_iff_ne];omega
 have Ue:(L:Int)<L+1:=by omega
 have hLi:¬L=i:=by omega
 clear h hB hv hi SL hg yF hcm hBg rF hX hD hlies hx KF hL hrun hc1 vg JD pH
 go_enter Tryz.func34,Tryz.ntmps34
 go_wp2_with (at_builtin;refine Hid.out ?_)
 refine aa ?_
 refine Lib.wpList_append_run _ rfl _ _ _ _ rfl _ _ rfl rfl _ _ HR.out ?_
 obtain⟨w1,hw1⟩:∃w1,w1=w.drew.alloc (.cells (ah.cells (l.take i)++Z).toArray 95):=⟨_,rfl⟩
 obtain⟨g2,cP⟩:∃g2,g2=w.heap.size:=⟨_,rfl⟩
 have aQ:Below w.heap.size w w1:=by rw[hw1];exact (Below.refl _ w).drew.alloc (Nat.le_refl _) _
 have hc1:w1.heap[g2]?=some (.cells (ah.cells (l.take i)++Z).toArray 95 (0,0)):=by rw[hw1,cP];exact heap_alloc_new w.drew _
 have sC:=aa (show Below w.heap.size w w1∧w1.heap[g2]?=some (.cells (ah.cells (l.take i)++Z).toArray 95 (0,0))∧aJ ah w1 vr vo [it]∧aJ ah w1 g (i*3) (l.drop i)∧g2=w.heap.size from⟨aQ,hc1,HH.out.2.2.1.below aQ HH.out.2.2.2.1,HH.out.2.2.2.2.1.below aQ HH.out.1,cP⟩)
 rw[←hw1,←cP]
 clear hw1 cP aQ hc1
 have KE:¬c=i:=by have:=HC.out.1;have:=HH.out;omega
 have Uf:¬c=i+1:=by have:=HC.out.1;have:=HH.out;omega
 have il2:(i:Int)≤L+1:=by omega
 have il1:(i:Int)+1≤L+1:=by omega
 have SM:(0:Int)≤(i:Int)+1:=by omega
 have iw:IntKind.i64.wrap ((i:Int)+1)=(i:Int)+1:=by
  have:=bQ (i+1) (by omega)
  rwa [show ((i+1:Nat):Int)=(i:Int)+1 by omega] at this
 have Qk:((i:Int)+1).toNat=i+1:=by omega
 go_wp2_with (refine cW rfl _ _ rfl _ _ _ _ _ _ rfl rfl g2 (i*3) _ sC.out.2.1 [it] (Nat.min_eq_left (show 1≤L+1-i by omega)).symm (fun _=>⟨rfl,vr,vo,rfl,sC.out.2.2.1⟩) (by rw[HC.out.2.2.1];show i*3+1*3≤_;have:=HC.out.1;have:=HH.out;omega) ?_;intro w2 cP aC;refine Hid.out ?_)
 refine aa ?_
 rw[←HC.out.2.2.2.1,dG rfl] at cP
 have Ql:(ah.cells [it]).length=3:=by rw[aU];rfl
 obtain⟨Z1,Nw⟩:∃Z1,Z1=Z.drop (ah.cells [it]).length:=⟨_,rfl⟩
 rw[←Nw,←List.append_assoc] at cP
 have Qm:Z1.length+3+i*3=c*3:=by
  rw[Nw,List.length_drop,Ql]
  have:=HC.out.2.2.1
  rw[List.length_append,HC.out.2.2.2.1] at this
  have:=HC.out.1
  have:=HH.out
  omega
 have Uh:=aa (show (ah.cells (l.take i)++ah.cells [it]).length=(i+1)*3 by rw[List.length_append,HC.out.2.2.2.1,Ql];omega)
 have hgn:g≠g2:=by have:=HH.out.1;have:=sC.out.2.2.2.2;omega
 have FA:=aa (show w2.heap[g2]?=some (.cells ((ah.cells (l.take i)++ah.cells [it])++Z1).toArray 95 (0,0))∧Below w.heap.size w w2∧aJ ah w2 g (i*3) (l.drop i)∧Z1.length+3+i*3=c*3 from⟨cP,sC.out.1.trans ⟨aC.os,aC.tape,aC.output,aC.size,fun k hk=>aC.block k (by have:=sC.out.1.size;omega) (by have:=sC.out.2.2.2.2;omega)⟩,sC.out.2.2.2.1.but aC hgn,Qm⟩)
 clear cP aC Ql Nw Qm
 go_wp2_with (refine wp_region_any (by kernel_rfl) ?_;refine Hid.out ?_)
 refine aa ?_
 try (change wpAny _ _ _ _ _ _ _ (World.drew _))
 refine tk 0 ?_
 refine tk 1 ?_
 refine tk 2 ?_
 refine tk 3 ?_
 refine tk 4 ?_
 refine tk 5 ?_
 refine tk 6 ?_
 refine tk 7 ?_
 try simp only[Act.put,List.setIfInBounds_toArray,List.set_cons_succ,List.set_cons_zero]
 refine rd [8] (rn fun K hK=> ?_)
 refine dF _ _ rfl _ _ _ _ _ _ rfl rfl g2 ((i+1)*3) _ FA.out.1 (l.drop i) (by rw[List.length_drop,←HH.out.2.2.2.2.2.2];exact (Nat.min_eq_right (by omega)).symm) (fun _=>⟨rfl,g,i*3,rfl,FA.out.2.2.1⟩) (by rw[List.length_append,Uh.out,List.length_drop];have:=FA.out.2.2.2;have:=HC.out.1;have:=HH.out;omega) ?_;intro w3 yE cC
 refine hK _ _ ?_;clear hK K
 refine wpAny_done (by kernel_rfl) ?_ _
 have cC:=(aj.refl (fun k=>k=g2) w2).drew.trans cC (fun _ _ h=>h)
 rw[←Uh.out,dG rfl] at yE
 have HE:=aa (show ed B w (.slice (some ⟨g,0,none⟩) L L) (l.take i++it::l.drop i) (.returned (.slice (some ⟨g2,0,none⟩) (L+1) c)) w3 from by
  have hcs:ah.cells (l.take i++it::l.drop i)++Z1.drop (ah.cells (l.drop i)).length=(ah.cells (l.take i)++ah.cells [it])++(ah.cells (l.drop i)++Z1.drop (ah.cells (l.drop i)).length):=by
   rw[Elem.bh,Elem.cF,Elem.cF,Elem.u_,List.append_nil]
   simp only[List.append_assoc]
  have L9:Below w.heap.size w w3:=FA.out.2.1.trans ⟨cC.os,cC.tape,cC.output,cC.size,fun k hk=>cC.block k (by have:=FA.out.2.1.size;omega) (by have:=sC.out.2.2.2.2;omega)⟩
  refine⟨_,rfl,dy (R:=Z1.drop (ah.cells (l.drop i)).length) (by rw[hcs];exact yE) ?_ ?_ HC.out.1 HC.out.2.1 (by have:=sC.out.2.2.2.2;have:=HH.out;omega),aj.aq L9 _,.inr fun k hk=> ?_,fun _=>rfl⟩
  ·rw[hcs,List.length_append,Uh.out,List.length_append,List.length_drop,HC.out.2.2.2.2]
   have:=FA.out.2.2.2
   have:=HC.out.1
   have:=HH.out
   omega
  ·rw[List.length_append,List.length_cons,List.length_take,List.length_drop]
   have:=HH.out
   omega
  ·have e:some g2=some k:=hk
   injection e with e
   have:=sC.out.2.2.2.2
   omega)
 clear yE cC
 go_wp2
 go_ret
 exact HE.out
end
section
variable {w:World} {B sb:Nat} {lv:Value} {ms:List It} {it:It}
def vO (B:Nat) (w:World) (v:Value) (l:List It) (e:Ending) (w':World):Prop:=
 ∃v',e=.returned (.tuple #[v',.int .i64 0])∧aD B w' v' l∧aj (fun k=>v.ownBlock=some k) w w'∧(v'.ownBlock=v.ownBlock∨∀k,v'.ownBlock=some k→w.heap.size≤k)
theorem xz (ho:aD B w lv []) (hB:B≤w.heap.size):
  Calls Tryz.prog 98 #[ptr sb,lv,.agg #[.string (bs it.key),.string (bs it.val),.pointer (pa it.node)]] w fun e w'=>vO B w lv [it] e w':=by
 obtain⟨a,c,rfl,-⟩:=Own.slice ho
 obtain⟨w1,hw1⟩:∃w1,w1=w.alloc (.cells #[.string (bs it.key),.string (bs it.val),.pointer (pa it.node)] 95):=⟨_,rfl⟩
 obtain⟨w2,gy⟩:∃w2,w2=w1.alloc (.cells #[.string (bs it.key),.string (bs it.val),.pointer (pa it.node)] 95):=⟨_,rfl⟩
 have aC:Below w.heap.size w w2:=by rw[gy,hw1];exact ((Below.refl _ w).alloc (Nat.le_refl _) _).alloc (by rw[World.size_alloc];omega) _
 have jG:aJ ah w2 w1.heap.size 0 [it]:=by rw[gy];exact aJ.dI (aG.new w1 _ _) rfl
 have cR:aD B w2 (.slice a 0 c) []:=Own.below ho aC (Nat.le_refl _)
 have HH:=aa (And.intro aC (And.intro jG (And.intro cR hB)))
 have HW:=aa (And.intro hw1 gy)
 clear ho hB aC jG cR hw1 gy
 go_enter Tryz.func98,Tryz.ntmps98
 unfold ptr
 go_wp2_with (at_builtin;refine Hid.out ?_)
 refine aa ?_
 rw[←HW.out.1,←HW.out.2]
 refine bB (K:=ah) sq rfl _ _ rfl rfl HH.out.2.2.1 (Nat.le_trans HH.out.2.2.2 HH.out.1.size) (w.heap.size+1) 0 1 1 [it] rfl rfl (by have:=HH.out.2.1;rw[HW.out.1,World.size_alloc] at this;exact this) (show ([]:List It).length+1≤1000000000 by decide) ?_
 intro v3 w3 L4 yE lU
 have HE:=aa (show vO B w (.slice a 0 c) [it] (.returned (.tuple #[v3,.int .i64 0])) w3 from
  ⟨v3,rfl,L4,(aj.aq HH.out.1 _).grown yE (fun k e _=>e),lU.imp_right fun h k hk=>Nat.le_trans HH.out.1.size (h k hk)⟩)
 clear L4 yE lU
 go_wp2_with fail
 go_ret2
 exact HE.out
theorem xA {p q:Nat} {n m:NV} {l:List It} {last:It} (ho:aD B w lv (l++[last])) (hB:B≤w.heap.size) (hl:l.length≤400) (hp:last.node=some p) (hq:it.node=some q) (hn:Nd w p n) (hm:Nd w q m) (hk:it.key.length≤1000000)
  (hf:¬bz n.its+bz m.its+(if n.level=0 then 0 else it.key.length)≤510):
  Calls Tryz.prog 98 #[ptr sb,lv,.agg #[.string (bs it.key),.string (bs it.val),.pointer (pa it.node)]] w fun e w'=>vO B w lv (l++[last]++[it]) e w':=by
 obtain⟨g,c,rfl,hBg,rF,hlc⟩:=Own.form ho (by rw[List.length_append];exact Nat.succ_pos _)
 obtain⟨w1,hw1⟩:∃w1,w1=w.alloc (.cells #[.string (bs it.key),.string (bs it.val),.pointer (pa it.node)] 95):=⟨_,rfl⟩
 obtain⟨g1,rE⟩:∃g1,g1=w.heap.size:=⟨_,rfl⟩
 have aQ:Below w.heap.size w w1:=by rw[hw1];exact (Below.refl _ w).alloc (Nat.le_refl _) _
 have hk1:aG w1 g1 95 [.string (bs it.key),.string (bs it.val),.pointer (pa it.node)]:=by rw[hw1,rE];exact aG.new w _ _
 have HF:=aa (iV (hn.still aQ) (hm.still aQ) it.key hk)
 rw[decide_eq_false hf] at HF
 have h0:=(aH (Own.lies ho) l.length (by rw[List.length_append];exact Nat.lt_succ_self _)).2.2
 rw[List.getElem_append_right (Nat.le_refl _)] at h0
 simp only[Nat.sub_self,List.getElem_cons_zero,hp,Nat.zero_add] at h0
 have hlen:(l++[last]).length=l.length+1:=by rw[List.length_append];rfl
 have HO:=aa (show aD B w (.slice (some ⟨g,0,none⟩) (l.length+1) c) (l++[last]) from by rw[←hlen];exact ho)
 rw[hlen]
 obtain⟨L,hL⟩:∃L,L=l.length:=⟨_,rfl⟩
 rw[←hL] at h0 HO hl ⊢
 have gz:(L:Int)≤400:=by omega
 have Ui:(L:Int)+1>0:=by omega
 have HH:=aa (And.intro aQ (And.intro hk1 (And.intro hB (And.intro hL (And.intro rE hlen)))))
 have h0':w.cell? ⟨g,L*3+2,none⟩=some (.pointer (some ⟨p,0,none⟩)):=h0
 rw[hq] at hw1
 have G4:w1=w.alloc (.cells #[.string (bs it.key),.string (bs it.val),.pointer (some ⟨q,0,none⟩)] 95):=hw1
 rw[hq] at hk1
 have HK:=aa (show aG w1 g1 95 [.string (bs it.key),.string (bs it.val),.pointer (some ⟨q,0,none⟩)] from hk1)
 have HQ:=aa (show pa it.node=some ⟨q,0,none⟩ by rw[hq];rfl)
 rw[hq]
 show Calls _ _ #[_,_,.agg #[.string (bs it.key),.string (bs it.val),.pointer (some ⟨q,0,none⟩)]] w _
 clear ho hB hp hq hn hm hk hf hlen hL aQ hk1 hw1 h0 hBg hlc hl
 go_enter Tryz.func98,Tryz.ntmps98
 unfold ptr at HF ⊢
 go_wp2_with fail
 rw[←G4,←rE]
 refine HF.out.mono ?_
 rintro e w2 ⟨rfl,aC⟩
 have Bv:Below w.heap.size w w2:=HH.out.1.trans (aC.mono HH.out.1.size)
 have hk2:=HK.out.below aC HK.out.lt
 have k0:=hk2.cell (j:=0) rfl
 have k1:=hk2.cell (j:=1) rfl
 have k2:=hk2.cell (j:=2) rfl
 obtain⟨w3,lU⟩:∃w3,w3=w2.alloc (.cells #[.string (bs it.key),.string (bs it.val),.pointer (some ⟨q,0,none⟩)] 95):=⟨_,rfl⟩
 obtain⟨g3,yE⟩:∃g3,g3=w2.heap.size:=⟨_,rfl⟩
 have L9:Below w.heap.size w w3:=by rw[lU];exact Bv.alloc Bv.size _
 have G5:aJ ah w3 g3 0 [it]:=by rw[lU,yE];exact aJ.dI (aG.new w2 _ _) (by show _=[Value.string (bs it.key),.string (bs it.val),.pointer (pa it.node)];rw[HQ.out])
 have H3:=aa (And.intro L9 (And.intro G5 (Own.below HO.out L9 (Nat.le_refl _))))
 clear aC Bv hk2 L9 G5 G4 rE HF HK h0'
 go_wp2_with (at_builtin;refine Hid.out ?_)
 refine aa ?_
 rw[←lU,←yE]
 refine bB (K:=ah) sq rfl _ _ rfl rfl H3.out.2.2 (Nat.le_trans HH.out.2.2.1 H3.out.1.size) g3 0 1 1 [it] rfl rfl H3.out.2.1 (show (l++[last]).length+1≤1000000000 by rw[HH.out.2.2.2.2.2];have:=HH.out.2.2.2.1;omega) ?_
 intro v4 w4 Bt nV uz
 have HE:=aa (show vO B w (.slice (some ⟨g,0,none⟩) (L+1) c) (l++[last]++[it]) (.returned (.tuple #[v4,.int .i64 0])) w4 from
  ⟨v4,rfl,Bt,(aj.aq H3.out.1 _).grown nV (fun k e _=>e),uz.imp_right fun h k hk=>Nat.le_trans H3.out.1.size (h k hk)⟩)
 clear Bt nV uz lU yE
 go_wp2_with fail
 go_ret2
 exact HE.out
theorem xB {Q:Int→World→Prop} {p q:Nat} {n m:NV} {l:List It} {last:It} (ho:aD B w lv (l++[last])) (hl:l.length≤400) (hp:last.node=some p) (hq:it.node=some q) (hn:Nd w p n) (hm:Nd w q m) (hk:it.key.length≤1000000)
  (hf:bz n.its+bz m.its+(if n.level=0 then 0 else it.key.length)≤510)
  (hj:∀w1,Below w.heap.size w w1→Calls Tryz.prog 145 #[ptr sb,ptr p,ptr q,.string (bs it.key)] w1 fun e w'=>∃x:Int,e=.returned (.int .i64 x)∧Q x w'):
  Calls Tryz.prog 98 #[ptr sb,lv,.agg #[.string (bs it.key),.string (bs it.val),.pointer (pa it.node)]] w fun e w'=>∃x:Int,e=.returned (.tuple #[lv,.int .i64 x])∧Q x w':=by
 obtain⟨g,c,rfl,hBg,rF,hlc⟩:=Own.form ho (by rw[List.length_append];exact Nat.succ_pos _)
 obtain⟨w1,hw1⟩:∃w1,w1=w.alloc (.cells #[.string (bs it.key),.string (bs it.val),.pointer (pa it.node)] 95):=⟨_,rfl⟩
 obtain⟨g1,rE⟩:∃g1,g1=w.heap.size:=⟨_,rfl⟩
 have aQ:Below w.heap.size w w1:=by rw[hw1];exact (Below.refl _ w).alloc (Nat.le_refl _) _
 have hk1:aG w1 g1 95 [.string (bs it.key),.string (bs it.val),.pointer (pa it.node)]:=by rw[hw1,rE];exact aG.new w _ _
 have HF:=aa (iV (hn.still aQ) (hm.still aQ) it.key hk)
 rw[decide_eq_true hf] at HF
 have HJ:=aa hj
 have h0:=(aH (Own.lies ho) l.length (by rw[List.length_append];exact Nat.lt_succ_self _)).2.2
 rw[List.getElem_append_right (Nat.le_refl _)] at h0
 simp only[Nat.sub_self,List.getElem_cons_zero,hp,Nat.zero_add] at h0
 have hlen:(l++[last]).length=l.length+1:=by rw[List.length_append];rfl
 have HO:=aa (show aD B w (.slice (some ⟨g,0,none⟩) (l.length+1) c) (l++[last]) from by rw[←hlen];exact ho)
 rw[hlen]
 obtain⟨L,hL⟩:∃L,L=l.length:=⟨_,rfl⟩
 rw[←hL] at h0 HO hl ⊢
 have gz:(L:Int)≤400:=by omega
 have Ui:(L:Int)+1>0:=by omega
 have HH:=aa (And.intro aQ (And.intro hk1 (And.intro hL (And.intro rE hlen))))
 have h0':w.cell? ⟨g,L*3+2,none⟩=some (.pointer (some ⟨p,0,none⟩)):=h0
 rw[hq] at hw1
 have G4:w1=w.alloc (.cells #[.string (bs it.key),.string (bs it.val),.pointer (some ⟨q,0,none⟩)] 95):=hw1
 rw[hq] at hk1
 have HK:=aa (show aG w1 g1 95 [.string (bs it.key),.string (bs it.val),.pointer (some ⟨q,0,none⟩)] from hk1)
 have HQ:=aa (show pa it.node=some ⟨q,0,none⟩ by rw[hq];rfl)
 rw[hq]
 show Calls _ _ #[_,_,.agg #[.string (bs it.key),.string (bs it.val),.pointer (some ⟨q,0,none⟩)]] w _
 clear hj ho hp hq hn hm hk hf hlen hL aQ hk1 hw1 h0 hBg hlc hl
 go_enter Tryz.func98,Tryz.ntmps98
 unfold ptr at HF ⊢
 go_wp2_with fail
 rw[←G4,←rE]
 refine HF.out.mono ?_
 rintro e w2 ⟨rfl,aC⟩
 have Bv:Below w.heap.size w w2:=HH.out.1.trans (aC.mono HH.out.1.size)
 have hk2:=HK.out.below aC HK.out.lt
 have k0:=hk2.cell (j:=0) rfl
 have k1:=hk2.cell (j:=1) rfl
 have k2:=hk2.cell (j:=2) rfl
 have H2:=aa (HJ.out w2 Bv)
 clear aC Bv hk2 G4 rE HF HK h0' HJ
 unfold ptr at H2
 go_wp2_with fail
 refine H2.out.mono ?_
 rintro e w3 ⟨x,rfl,hQ⟩
 have H3:=aa hQ
 clear hQ
 go_wp2_with fail
 go_ret2
 exact⟨x,rfl,H3.out⟩
end
structure sS (X:World) (g o j:Nat) (i:It):Prop where
 key:X.cell? ⟨g,o+j*3,none⟩=some (.string (bs i.key))
 val:X.cell? ⟨g,o+j*3+1,none⟩=some (.string (bs i.val))
 node:X.cell? ⟨g,o+j*3+2,none⟩=some (.pointer (pa i.node))
 lt:g<X.heap.size
theorem sS.of {X:World} {g o j:Nat} {l:List It} (h:aJ ah X g o l) (hj:j<l.length):sS X g o j l[j]:=⟨(aH h j hj).1,(aH h j hj).2.1,(aH h j hj).2.2,rz h hj⟩
structure Steps (p q sb tb:Nat) (fr to rg ro NL cap:Nat) (P:Nat→Value→World→Prop) (PB:Nat→Value→Nat→World→Prop) (Q:Nat→Nat→Option Addr→Nat→Value→World→Prop):Prop where
 cells:∀a lv X,P a lv X→X.cell? ⟨sb,0,none⟩=some (ptr tb)∧X.cell? ⟨p,1,none⟩=some (.slice (some ⟨rg,ro,none⟩) NL cap)
 still:∀a lv X V,P a lv X→Below X.heap.size X V→P a lv V
 below:∀a lv X,P a lv X→fr≤a→a<to→Calls Tryz.prog 59 #[ptr tb,ptr p,.int .i64 a] X fun e X'=>∃n,e=.returned (.tuple #[ptr n,.int .i64 0])∧PB a lv n X'
 Uj:∀a lv n X V,PB a lv n X→Below X.heap.size X V→PB a lv n V
 G6:∀a lv n X,PB a lv n X→X.cell? ⟨p,1,none⟩=some (.slice (some ⟨rg,ro,none⟩) NL cap)∧∃i,sS X rg ro a i∧
  Calls Tryz.prog 97 #[ptr sb,ptr n,.agg #[.string (bs i.key),.string (bs i.val),.pointer (pa i.node)]] X fun e X'=>∃L ra rc,e=.returned (.slice ra L rc)∧L≤1000∧Q a L ra 0 lv X'
 Uk:∀a L ra j lv X V,Q a L ra j lv X→Below X.heap.size X V→Q a L ra j lv V
 step:∀a L ra j lv X,Q a L ra j lv X→j<L→∃g i,ra=some ⟨g,0,none⟩∧sS X g 0 j i∧∀V,Below X.heap.size X V→Calls Tryz.prog 98 #[ptr sb,lv,.agg #[.string (bs i.key),.string (bs i.val),.pointer (pa i.node)]] V fun e X'=>∃jr,e=.returned (.tuple #[jr,.int .i64 0])∧Q a L ra (j+1) jr X'
 done:∀a L ra lv X,Q a L ra L lv X→P (a+1) lv X
structure Ends (p:Nat) (fr to rg ro NL cap:Nat) (P:Nat→Value→World→Prop) (G:World→Prop) (PF PG:Option Addr→Nat→Nat→World→Prop):Prop where
 eq:∀lv X,P to lv X→∃la ln lc,lv=.slice la ln lc∧ln≤1000∧Calls Tryz.prog 99 #[.slice la ln lc,.slice (some ⟨rg,ro+fr*3,none⟩) (to-fr) (cap-fr)] X fun e X'=>∃b,e=.returned (.bool b)∧(b=true→G X')∧(b=false→PF la ln lc X')
 empty:∀la lc X,PF la 0 lc X→PG la 0 lc X
 first:∀la ln lc X,PF la ln lc X→0<ln→X.cell? ⟨p,1,none⟩=some (.slice (some ⟨rg,ro,none⟩) NL cap)∧∃g kb k0,la=some ⟨g,0,none⟩∧X.cell? ⟨rg,ro+fr*3,none⟩=some (.string kb)∧X.cell? ⟨g,0,none⟩=some (.string k0)∧X.frozen? ⟨g,0,none⟩=false∧PG la ln lc (X.setCell ⟨g,0,none⟩ (.string kb))
 new:∀la ln lc X,PG la ln lc X→X.cell? ⟨p,1,none⟩=some (.slice (some ⟨rg,ro,none⟩) NL cap)∧Calls Tryz.prog 100 #[.slice (some ⟨rg,ro,none⟩) NL cap,.int .i64 fr,.int .i64 to,.slice la ln lc] X fun e X'=>∃a n c,e=.returned (.slice a n c)∧(∃v,X'.cell? ⟨p,1,none⟩=some v)∧(∃v,X'.cell? ⟨p,7,none⟩=some v)∧X'.frozen? ⟨p,1,none⟩=false∧X'.frozen? ⟨p,7,none⟩=false∧G ((X'.setCell ⟨p,1,none⟩ (.slice a n c)).setCell ⟨p,7,none⟩ (.bool true))
section
variable {w:World} {p q sb tb:Nat} {m:NV}
theorem zv {P:Nat→Value→World→Prop} {PB:Nat→Value→Nat→World→Prop} {Q:Nat→Nat→Option Addr→Nat→Value→World→Prop} {at_ fr to rg ro NL cap:Nat} (h:Nd w q m) (hf:¬bz m.its≤510)
  (c6:w.cell? ⟨p,6,none⟩=some (.int .i64 at_)) (c1:w.cell? ⟨p,1,none⟩=some (.slice (some ⟨rg,ro,none⟩) NL cap)) (hp:p<w.heap.size)
  (hfr:fr=at_-1) (hto:to=min (at_+2) NL) (hN:NL≤400) (hat:at_<NL) (Ml:∀V,Below w.heap.size w V→P fr (.slice none 0 0) V) (hS:Steps p q sb tb fr to rg ro NL cap P PB Q)
  {G:World→Prop} {PF PG:Option Addr→Nat→Nat→World→Prop} (hE:Ends p fr to rg ro NL cap P G PF PG) (GI:NL≤cap):
  Calls Tryz.prog 65 #[ptr sb,ptr p,ptr q] w fun e w'=>e=.returned (.int .i64 0)∧G w':=by
 have HF:=aa (fun V (hV:Below w.heap.size w V)=>fR (h.still hV))
 rw[decide_eq_false hf] at HF
 have HB:=aa (Below.refl w.heap.size w)
 have HC:=aa (fun V (hV:Below w.heap.size w V)=>And.intro ((hV.cell (p:=⟨p,6,none⟩) hp).trans c6) ((hV.cell (p:=⟨p,1,none⟩) hp).trans c1))
 have HP:=aa Ml
 have nU:=aa hS
 have G7:=aa hE
 have vB:(NL:Int)≤cap:=by omega
 have Qn:fr<to∧to≤NL:=by omega
 have HA:=aa (And.intro hfr (And.intro hto (And.intro hN (And.intro hat Qn))))
 unfold ptr at HF
 have G8:(NL:Int)≤400:=by omega
 have Jt:(at_:Int)<NL:=by omega
 have q1:IntKind.i64.wrap ((at_:Int)-1)=(at_:Int)-1:=by rw[IntKind.wrap_i64];omega
 have q2:IntKind.i64.wrap ((at_:Int)+2)=(at_:Int)+2:=by rw[IntKind.wrap_i64];omega
 have e1:max ((at_:Int)-1) 0=(fr:Int):=by omega
 have e2:min ((at_:Int)+2) (NL:Int)=(to:Int):=by omega
 clear h hf c6 c1 Ml hfr hto hN hat hS Qn hE GI
 go_enter Tryz.func65,Tryz.ntmps65
 unfold ptr
 go_wp2_with (refine wp_region_any (by kernel_rfl) ?_;refine Hid.out ?_)
 refine aa ?_
 try (change wpAny _ _ _ _ _ _ _ (World.drew _))
 refine tk 0 ?_
 refine rd [1] (rn fun K hK=> ?_)
 go_simp
 refine (HF.out _ ((Below.refl _ w).drew)).mono ?_;rintro e w1 ⟨rfl,aQ⟩
 refine hK _ _ ?_;clear hK K
 have HB:=aa (((Below.refl w.heap.size w).drew).trans aQ)
 have c6:=(HC.out _ HB.out).1
 have c1:=(HC.out _ HB.out).2
 clear aQ
 refine tk 2 ?_
 try simp only[Act.put,List.setIfInBounds_toArray,List.set_cons_succ,List.set_cons_zero]
 refine sk 3 ?_
 refine sk 4 ?_
 refine sk 5 ?_
 refine sk 6 ?_
 refine sk 7 ?_
 refine sk 8 ?_
 refine sk 9 ?_
 try simp only[Act.put,List.setIfInBounds_toArray,List.set_cons_succ,List.set_cons_zero]
 refine tk 10 ?_
 refine wpAny_done (by kernel_rfl) ?_ _
 go_wp2_with (refine wp_region_held_drew (S:=(fun X=>X.cell? ⟨p,6,none⟩=some (.int .i64 at_)∧X.cell? ⟨p,1,none⟩=some (.slice (some ⟨rg,ro,none⟩) NL cap))) (by kernel_rfl) ?_ (fun hS=> ?_);focus skip;rotate_left;refine Hid.out ?_)
 refine aa ?_
 ·exact⟨c6,c1⟩
 refine aF 0 hS ?_
 refine aF 1 hS ?_
 refine aF 2 hS ?_
 refine aF 3 hS ?_
 refine aF 4 hS ?_
 refine aF 5 hS ?_
 refine aF 6 hS ?_
 refine aF 7 hS ?_
 refine aF 8 hS ?_
 refine aF 9 hS ?_
 refine aF 10 hS ?_
 refine aF 11 hS ?_
 refine aF 12 hS ?_
 refine aF 13 hS ?_
 refine aF 14 hS ?_
 refine aF 15 hS ?_
 refine aF 16 hS ?_
 refine aF 17 hS ?_
 refine aF 18 hS ?_
 refine wpAnyH_done (by kernel_rfl) ?_ _
 try simp only[Act.put,List.setIfInBounds_toArray,List.set_cons_succ,List.set_cons_zero]
 have HB:=aa (HB.out.drew)
 clear c6 c1
 go_wp2_with fail
 go_loopw [9,10,11,12,14] (fun lv av _ _ _ wr=>∃a:Nat,fr≤a∧a≤to∧av=.int .i64 a∧Hid (P a lv wr)) (fun _ av _ _ _ _=>to-(RowKit.intOf av).toNat)
 case atStart=>exact⟨fr,Nat.le_refl _,by have:=HA.out;omega,rfl,aa (HP.out _ HB.out)⟩
 case round=>
  obtain⟨a,hfa,hat,rfl,hP⟩:=hrel
  obtain⟨c0,c1⟩:=nU.out.cells a _ _ hP.out
  unfold ptr at c0
  by_cases hlt:a<to
  ·have hI:(a:Int)<to:=by omega
   have SP:(a:Int)<NL:=by have:=HA.out;omega
   go_wp2_with fail
   refine (nU.out.below a _ _ hP.out hfa hlt).mono ?_
   rintro e w2 ⟨nq,rfl,Ul⟩
   unfold ptr
   obtain⟨d1,it,hit,bJ⟩:=nU.out.G6 a _ _ _ Ul
   have a0:=hit.key
   have a1:=hit.val
   have a2:=hit.node
   clear c0 c1
   have kT:=aa bJ
   clear bJ
   go_wp2_with fail
   refine kT.out.mono ?_
   rintro e w3 ⟨L,ra,rc,rfl,hL,hQ⟩
   have C4:(L:Int)≤1000:=by omega
   have Um:=aa hQ
   clear hQ d1 a0 a1 a2 hit
   go_wp2_with fail
   go_loopw [9,12,14,73] (fun lv _ _ jv wq=>∃j:Nat,j≤L∧jv=.int .i64 j∧Hid (Q a L ra j lv wq)) (fun _ _ _ jv _=>L-(RowKit.intOf jv).toNat)
   case atStart=>exact⟨0,Nat.zero_le _,rfl,Um⟩
   case round=>
    obtain⟨j,hj,rfl,hQ⟩:=hrel
    by_cases El:j<L
    ·have Kj:(j:Int)<L:=by omega
     obtain⟨g,i,rfl,hit,bJ⟩:=nU.out.step a L _ j _ _ hQ.out El
     have a0:=hit.key
     have a1:=hit.val
     have a2:=hit.node
     have kT:=aa bJ
     clear bJ
     rw[Nat.zero_add] at a0 a1 a2
     obtain⟨W1,gP⟩:∃W1,W1=wr.alloc (.cells #[.string (bs i.key),.string (bs i.val),.pointer (pa i.node)] 95):=⟨_,rfl⟩
     obtain⟨ib,hib⟩:∃ib,ib=wr.heap.size:=⟨_,rfl⟩
     have k0:W1.cell? ⟨ib,0,none⟩=some (.string (bs i.key)):=by rw[gP,hib];exact (aG.new wr _ _).cell rfl
     have k1:W1.cell? ⟨ib,1,none⟩=some (.string (bs i.val)):=by rw[gP,hib];exact (aG.new wr _ _).cell rfl
     have k2:W1.cell? ⟨ib,2,none⟩=some (.pointer (pa i.node)):=by rw[gP,hib];exact (aG.new wr _ _).cell rfl
     have hbW:Below wr.heap.size wr W1:=by rw[gP];exact (Below.refl _ wr).alloc (Nat.le_refl _) _
     have Mm:=aa hbW
     clear hbW
     generalize pa i.node=nd at*
     generalize bs i.key=kb at*
     generalize bs i.val=vb at*
     go_wp2_with fail
     rw[←gP,←hib]
     clear gP hib a0 a1 a2 hit
     go_wp2_with fail
     refine (kT.out _ Mm.out).mono ?_
     rintro e w4 ⟨jr,rfl,Qo⟩
     have Un:=aa Qo
     clear Qo k0 k1 k2
     go_wp2_with fail
     go_roundw
     case rel=>exact⟨j+1,El,by go_num,Un⟩
     case measure=>simp[RowKit.intOf];omega
    ·obtain rfl:j=L:=by omega
     have Kj:¬(j:Int)<j:=by omega
     have HD:=aa (nU.out.done a j ra _ _ hQ.out)
     go_wp2_with fail
     go_roundw
     case rel=>exact⟨a+1,by omega,hlt,by go_num,HD⟩
     case measure=>simp[RowKit.intOf];omega
  ·obtain rfl:a=to:=by omega
   have hI:¬(a:Int)<a:=by omega
   have Ql:(a:Int)≤cap:=by have:=HA.out;omega
   have hI4:(fr:Int)≤a:=by omega
   obtain⟨la,ln,lc,rfl,Qp,bJ⟩:=G7.out.eq _ _ hP.out
   have kT:=aa bJ
   have Uo:(ln:Int)≤1000:=by omega
   clear bJ
   go_wp2_with fail
   refine kT.out.mono ?_
   rintro e w5 ⟨b,rfl,aQ,aC⟩
   cases b with
   |true=>
    have HG:=aa (aQ rfl)
    clear aQ aC
    go_wp2_with fail
    go_ret
    exact⟨rfl,HG.out⟩
   |false=>
    have Qq:=aa (aC rfl)
    clear aQ aC c0 c1
    by_cases h0:ln=0
    ·subst h0
     have hz:¬((0:Nat):Int)>0:=by decide
     obtain⟨c1,bJ⟩:=G7.out.new _ _ _ _ (G7.out.empty _ _ _ Qq.out)
     have DZ:=aa bJ
     clear bJ
     go_wp2_with fail
     refine DZ.out.mono ?_
     rintro e w6 ⟨va,vn,vc,rfl,⟨v1,k1⟩,⟨v7,k7⟩,f1,f7,hG⟩
     have HG:=aa hG
     clear hG
     go_wp2_with fail
     go_ret
     exact⟨rfl,HG.out⟩
    ·have hpos:0<ln:=by omega
     have hz:(ln:Int)>0:=by omega
     obtain⟨c1,g,kb,k0,rfl,r0,g0,fz,Nx⟩:=G7.out.first _ _ _ _ Qq.out hpos
     obtain⟨X1,Em⟩:∃X1,X1=w5.setCell ⟨g,0,none⟩ (.string kb):=⟨_,rfl⟩
     rw[←Em] at Nx
     have Eb:=aa Em
     clear Em
     have hI5:(fr:Int)<NL:=by have:=HA.out;omega
     go_wp2_with fail
     rw[←Eb.out]
     obtain⟨c1,bJ⟩:=G7.out.new _ _ _ _ Nx
     have DZ:=aa bJ
     clear bJ Nx r0 g0 fz
     go_wp2_with fail
     refine DZ.out.mono ?_
     rintro e w6 ⟨va,vn,vc,rfl,⟨v1,k1⟩,⟨v7,k7⟩,f1,f7,hG⟩
     have HG:=aa hG
     clear hG
     go_wp2_with fail
     go_ret
     exact⟨rfl,HG.out⟩
end
end Go.Proofs.YtloekpcncjocaaaGreatDoor
