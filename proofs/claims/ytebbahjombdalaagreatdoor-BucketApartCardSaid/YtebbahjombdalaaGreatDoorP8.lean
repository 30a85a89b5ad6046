/- Elder texts, cut down and merged (8). -/
import Derived.Test.YtebbahjombdalaaGreatDoorP7
import Derived.Test.YtebbahjombdalaaGreatDoorP1
import Derived.Test.YtebbahjombdalaaGreatDoorP4
import Derived.BigRegion
import Derived.Lib.MinMax
import Derived.Test.YtebbahjombdalaaGreatDoorPTk
set_option maxRecDepth 100000
set_option maxHeartbeats 8000000
namespace Go.Proofs.YtebbahjombdalaaGreatDoor
open Nat renaming le_refl→af,lt_or_ge→dw,zero_le→aC,add_zero→dN,lt_succ_self→jF,zero_add→bV,le_trans→aG,min_eq_left→b_
open List renaming drop_eq_getElem_cons→cm,length_cons→aW,take_of_length_le→bZ,length_drop→aT,length_take→aN,getElem_mem→bB,length_set→bP,getD_eq_getElem?_getD→bT,getElem?_map→cJ,getElem?_eq_getElem→aJ,append_nil→bh,length_eq_zero_iff→ef,setIfInBounds_toArray→az,set_cons_succ→ay,set_cons_zero→au,take_append_drop→cL,length_append→aq,append_assoc→aB
open World renaming drew→bD,size_alloc→bk
open _root_.Array renaming length_toList→aZ,getElem?_eq_some_iff→iA
section
open Go.RowKit Lib
theorem JV {fn:Func} {p:Tmp} (h:fn.results=#[.cell p 122]) (tmps:Array Value) (w:World) (g:Nat) (x y z:Value) (fr:Nat×Nat)
  (hp:tmps.getD p undef=.pointer (some ⟨g,0,none⟩)) (hg:w.heap[g]?=some (.cells #[x,y,z] 122 fr)):
  (results fn tmps).run Tryz.prog w=.ok (.agg #[x,y,z]) w:=
 results_cell_row h tmps w g _ _ fr _ hp hg Tryz.underlying122 rfl (by kernel_rfl)
theorem jE (w:World) (key:ByteArray) (q:Nat):
  Calls Tryz.prog 137 #[.string key,ptr q] w fun e w'=>e=.returned (.agg #[.string key,.string (bs (pv 0)),ptr q])∧Below w.heap.size w w':=by
 obtain⟨w1,hw1⟩:∃w1,w1=w.alloc (.cells #[.string ⟨#[]⟩,.string ⟨#[]⟩,.pointer none] 122):=⟨_,rfl⟩
 obtain⟨g,hg⟩:∃g,g=w.heap.size:=⟨_,rfl⟩
 have H1:=aa (show aS w1 g 122 [.string ⟨#[]⟩,.string ⟨#[]⟩,.pointer none]∧Below w.heap.size w w1∧g=w.heap.size from⟨by rw[hw1,hg];exact aS.new w _ _,by rw[hw1];exact (Below.refl _ w).alloc (af _) _,hg⟩)
 have HC:=aa (fJ w1 0 (by decide))
 generalize bs (pv 0)=pb at*
 go_enter Tryz.func137,Tryz.ntmps137
 unfold ptr
 go_wp2_with fail
 rw[←hw1,←hg]
 refine HC.o.mono ?_
 rintro e w2 ⟨rfl,aP⟩
 have H2:=aa (show aS w2 g 122 [.string ⟨#[]⟩,.string ⟨#[]⟩,.pointer none]∧Below w.heap.size w w2 from⟨H1.o.1.below aP H1.o.1.lt,H1.o.2.1.trans (aP.mono H1.o.2.1.size)⟩)
 have d0:=H2.o.1.cell (j:=0) rfl
 have d1:=H2.o.1.cell (j:=1) rfl
 have d2:=H2.o.1.cell (j:=2) rfl
 have f0:=H2.o.1.frozen 0
 have f1:=H2.o.1.frozen 1
 have f2:=H2.o.1.frozen 2
 clear hw1 hg aP
 go_wp2
 refine bodyPost_ret (JV rfl _ _ g _ _ _ (0,0) rfl (((H2.o.1.set 0 _).set 1 _).set 2 _)) rfl ?_
 have WL:w.heap.size≤g:=Nat.le_of_eq H1.o.2.2.symm
 exact⟨rfl,((H2.o.2.setCell WL _).setCell WL _).setCell WL _⟩
def eL (tot:Nat):Nat→List It→Nat
 |_,[]=>0
 |_,[_]=>0
 |s,i::j::r=>if 2*s<tot then eL tot (s+iQ i) (j::r)+1 else 0
theorem qm (w:World) (a:Option Addr) (n c:Nat) (h:n≤c) (hn:n≤1000000) (_:(c:Int)≤9223372036854775807):Calls Tryz.prog 178 #[.slice a n c] w fun e w'=>e=.returned (.slice a n n)∧w'=w:=by
 have h1:(n:Int)≤c:=by omega
 have h2:(0:Int)≤n:=by omega
 go_enter Tryz.func178,Tryz.ntmps178
 go_wp2
 go_ret
 exact⟨rfl,rfl⟩
theorem sE (tot s:Nat) (i j:It) (r:List It):eL tot s (i::j::r)=if 2*s<tot then eL tot (s+iQ i) (j::r)+1 else 0:=rfl
theorem AP {tot s h:Nat} {l:List It} (hh:h+1<l.length) (hs:2*s<tot):h+eL tot s (l.drop h)=h+1+eL tot (s+iQ l[h]) (l.drop (h+1)):=by
 rw[cm (show h<l.length by omega),cm hh,sE,if_pos hs]
 omega
theorem sF {tot s h:Nat} {l:List It} (hh:¬h+1<l.length∨¬2*s<tot):eL tot s (l.drop h)=0:=by
 grind [dw,cm,eL,List.drop_eq_nil_of_le]
theorem nO (tot:Nat):∀(l:List It) (s:Nat),l≠[]→eL tot s l<l.length
 |[],_,h=>absurd rfl h
 |[_],_,_=>by simp[eL]
 |i::j::r,s,_=>by
  unfold eL
  split
  ·have:=nO tot (j::r) (s+iQ i) (by simp)
   simp only[aW] at this ⊢
   omega
  ·grind
theorem a_.parts {g o:Nat} {its:List It} {X:World} (h:a_ aj X g o its) (k:Nat) (hk:k≤its.length):a_ aj X g o (its.take k)∧a_ aj X g (o+k*3) (its.drop k):=by
 constructor
 ·have:=a_.part h 0 k (aC _)
  rw[Nat.zero_mul,dN,List.drop_zero] at this
  exact this
 ·have:=a_.part h k (its.length-k) hk
  rw[bZ (by rw[aT];exact af _)] at this
  exact this
theorem Mem.part {X X':World} {M:Nat→Option NV} {p q:Nat} {n low up:NV} (h:Mem X M) (hp:M p=some n) (hq:¬MB M q) (k:Nat) (hk:k≤n.its.length)
  (hl:low.its=n.its.take k∧low.rg=n.rg∧low.ro=n.ro∧low.cap=k∧low.own=false)
  (hu:up.its=n.its.drop k∧up.rg=n.rg∧up.ro=n.ro+k*3∧up.cap=n.cap-k∧up.own=false)
  (hb:aE (fun j=>j=p∨j=q) X X') (hP:aS X' p 127 low.cells) (hQ:aS X' q 127 up.cells):
  Mem X' (upd (upd M p low) q up):=by
 obtain⟨l1,l2,l3,l4,l5⟩:=hl
 obtain⟨u1,u2,u3,u4,u5⟩:=hu
 have hn:=h.nd p n hp
 have hpq:p≠q:=fun e=>hq ⟨p,n,hp,.inl e.symm⟩
 have xJ:∀x m,M x=some m→¬(m.rg=p∨m.rg=q):=by
  rintro x m hx (e|e)
  ·exact h.Dg hx hp e
  ·exact hq ⟨x,m,hx,.inr e.symm⟩
 have hrow:=hn.row.but hb (xJ p n hp)
 obtain⟨rl,ru⟩:=hrow.parts k hk
 have ll:low.its.length=k:=by rw[l1,aN];omega
 have lu:up.its.length=n.its.length-k:=by rw[u1,aT]
 have sm:=hn.small
 have old:∀x m,upd (upd M p low) q up x=some m→(x=q∧m=up)∨(x=p∧m=low)∨(x≠q∧x≠p∧M x=some m):=by
  grind [aI]
 have ZQ:∃cur,X'.heap[n.rg]?=some (.cells cur 122 (0,0)):=by
  obtain⟨cur,hc⟩:=h.ty p n hp
  exact⟨cur,by rw[hb.block n.rg (h.lt hp).2 (xJ p n hp)];exact hc⟩
 have ap:∀x m,M x=some m→x≠p→n.rg≠m.rg∨(m.own=false∧(n.ro+3*n.its.length≤m.ro∨m.ro+3*m.its.length≤n.ro)):=by
  intro x m hx hne
  rcases h.apart p x n m hp hx (fun e=>hne e.symm) with e|⟨_,e1,e2⟩
  ·exact .inl e
  ·exact .inr ⟨e1,e2⟩
 refine⟨fun x m hx=> ?_,fun x m hx=> ?_,fun x y m m' hx hy hne=> ?_,fun x m hx hown=> ?_⟩
 ·rcases old x m hx with⟨rfl,rfl⟩|⟨rfl,rfl⟩|⟨h1,h2,h3⟩
  ·exact⟨hQ,by rw[u2,u3,u1];exact ru,⟨by rw[lu];have:=sm.len;omega,fun i hi=>sm.each i (by rw[u1] at hi;exact List.mem_of_mem_drop hi),by rw[lu,u4];have:=sm.cap;omega⟩⟩
  ·exact⟨hP,by rw[l2,l3,l1];exact rl,⟨by rw[ll];have:=sm.len;omega,fun i hi=>sm.each i (by rw[l1] at hi;exact List.mem_of_mem_take hi),by rw[ll,l4];have:=sm.cap;omega⟩⟩
  ·exact (h.nd x m h3).but hb (fun e=>e.elim h2 h1) (xJ x m h3)
 ·rcases old x m hx with⟨rfl,rfl⟩|⟨rfl,rfl⟩|⟨h1,h2,h3⟩
  ·rw[u2];exact ZQ
  ·rw[l2];exact ZQ
  ·obtain⟨cur,hc⟩:=h.ty x m h3
   exact⟨cur,by rw[hb.block m.rg (h.lt h3).2 (xJ x m h3)];exact hc⟩
 ·rcases old x m hx with⟨rfl,rfl⟩|⟨rfl,rfl⟩|⟨h1,h2,h3⟩<;>rcases old y m' hy with⟨rfl,rfl⟩|⟨rfl,rfl⟩|⟨g1,g2,g3⟩
  ·exact absurd rfl hne
  ·grind
  ·grind
  ·grind
  ·exact absurd rfl hne
  ·grind
  ·grind
  ·grind
  ·exact h.apart x y m m' h3 g3 hne
 ·rcases old x m hx with⟨rfl,rfl⟩|⟨rfl,rfl⟩|⟨h1,h2,h3⟩
  ·grind
  ·grind
  ·obtain⟨o1,o2⟩:=h.own x m h3 hown
   exact⟨o1,Own.but o2 hb fun k hk=>by have e:some m.rg=some k:=hk;injection e with e;rw[←e];exact xJ x m h3⟩
section
variable {E:Ev} {X0 X X':World} {R0 R R' S:Nat→Prop} {ps ps':List (Nat×List UInt8)} {pg cP:List (Option Wl.Text)} {rt rt':List Nat} {M M':Nat→Option NV} {p q:Nat} {n m:NV}
def tv:List It→List It
 |[]=>[]
 |i::l=>{i with key:=[]}::l
def between (n:NV) (h:Nat):List UInt8:=if n.level=0 then Tr.cA ((n.its.map It.key).getD (h-1) []) ((n.its.map It.key).getD h []) else (n.its.map It.key).getD h []
def fZ (n:NV) (h:Nat):NV:={n with its:=n.its.take h,cap:=h,hi:=between n h,fresh:=true,own:=false}
def jd (n:NV) (h:Nat):NV:=⟨n.level,if n.level=0 then n.its.drop h else tv (n.its.drop h),n.rg,n.ro+h*3,n.cap-h,-1,between n h,n.hi,0,0,true,false⟩
def EP (X:World) (M:Nat→Option NV) (p:Nat) (n:NV) (h:Nat) (e:Ending) (X':World):Prop:=
 ∃q,e=.returned (.tuple #[ptr q,.string (bs (between n h))])∧Mem X' (upd (upd M p (fZ n h)) q (jd n h))∧X.heap.size≤q∧aE (fun k=>k=p∨k=n.rg) X X'
end
section
variable {X:World} {M:Nat→Option NV} {p:Nat} {n:NV}
structure je (X:World) (M:Nat→Option NV) (p:Nat) (n:NV) (k L q:Nat) (w3:World) (M3:Nat→Option NV) (n3:NV):Prop where
 mem:Mem w3 M3
 Vn:M3 p=some n3
 other:∀x,x≠p→M3 x=M x
 same:n3.level=n.level∧n3.rg=n.rg∧n3.ro=n.ro∧n3.cap=n.cap∧n3.page=n.page∧n3.lo=n.lo∧n3.was=n.was∧n3.at_=n.at_
 hi:n3.hi=n.hi
 len:n3.its.length=L
 take:n3.its.take k=n.its.take k
 drop:n3.its.drop k=(jd n k).its
 blk:aS w3 q 127 [.int .i64 n.level,.slice (some ⟨n.rg,n.ro+k*3,none⟩) (L-k) (n.cap-k),.int .i64 (-1),.string ⟨#[]⟩,.string ⟨#[]⟩,.int .i64 0,.int .i64 0,.bool true]
 but:aE (fun k=>k=p∨k=n.rg) X w3
 not:¬MB M3 q
theorem je.nd {w3:World} {M3:Nat→Option NV} {n3:NV} {k L q:Nat} (h:je X M p n k L q w3 M3 n3):Nd w3 p n3:=h.mem.nd p n3 h.Vn
theorem je.pq {w3:World} {M3:Nat→Option NV} {n3:NV} {k L q:Nat} (h:je X M p n k L q w3 M3 n3):p≠q:=fun e=>h.not ⟨p,n3,h.Vn,.inl e.symm⟩
theorem je.rq {w3:World} {M3:Nat→Option NV} {n3:NV} {k L q:Nat} (h:je X M p n k L q w3 M3 n3):n3.rg≠q:=fun e=>h.not ⟨p,n3,h.Vn,.inr e.symm⟩
theorem je.keys {w3:World} {M3:Nat→Option NV} {n3:NV} {k L q:Nat} (h:je X M p n k L q w3 M3 n3) (_:M p=some n) (b:ByteArray):
  Nd ((w3.setCell ⟨q,3,none⟩ (.string b)).setCell ⟨q,4,none⟩ (.string (bs n.hi))) p n3∧
  aS ((w3.setCell ⟨q,3,none⟩ (.string b)).setCell ⟨q,4,none⟩ (.string (bs n.hi))) q 127 [.int .i64 n.level,.slice (some ⟨n.rg,n.ro+k*3,none⟩) (L-k) (n.cap-k),.int .i64 (-1),.string b,.string (bs n.hi),.int .i64 0,.int .i64 0,.bool true]:=by
 refine⟨?_,(h.blk.set 3 _).set 4 _⟩
 have hb:aE (fun j=>j=q) w3 ((w3.setCell ⟨q,3,none⟩ (.string b)).setCell ⟨q,4,none⟩ (.string (bs n.hi))):=((aE.refl (fun j=>j=q) w3).setCell _ _ fun _=>rfl).setCell _ _ fun _=>rfl
 exact h.nd.but hb h.pq h.rq
theorem uI {w2 w3:World} {k q:Nat} (hm:Mem w2 M) (hp:M p=some n) {L:Nat} (hL:L=n.its.length) (hlv:n.level=0) (hb:Below w2.heap.size w2 w3)
  (hq:aS w2 q 127 [.int .i64 n.level,.slice (some ⟨n.rg,n.ro+k*3,none⟩) (L-k) (n.cap-k),.int .i64 (-1),.string ⟨#[]⟩,.string ⟨#[]⟩,.int .i64 0,.int .i64 0,.bool true])
  (hX:Below X.heap.size X w2) (hn:¬MB M q):je X M p n k L q w3 M n:=
 ⟨hm.still hb,hp,fun _ _=>rfl,⟨rfl,rfl,rfl,rfl,rfl,rfl,rfl,rfl⟩,rfl,hL.symm,rfl,by unfold jd;rw[if_pos hlv],hq.below hb hq.lt,aE.aH (hX.trans (hb.mono hX.size)) _,hn⟩
theorem xK {w2:World} {k q:Nat} (hm:Mem w2 M) (hp:M p=some n) {L:Nat} (hL:L=n.its.length) (hlv:¬n.level=0) (hk:k<n.its.length)
  (hq:aS w2 q 127 [.int .i64 n.level,.slice (some ⟨n.rg,n.ro+k*3,none⟩) (L-k) (n.cap-k),.int .i64 (-1),.string ⟨#[]⟩,.string ⟨#[]⟩,.int .i64 0,.int .i64 0,.bool true])
  (hX:Below X.heap.size X w2) (hn:¬MB M q):
  je X M p n k L q (w2.setCell ⟨n.rg,n.ro+k*3,none⟩ (.string ⟨#[]⟩)) (upd M p {n with its:=n.its.set k {n.its[k] with key:=[]}}) {n with its:=n.its.set k {n.its[k] with key:=[]}}:=by
 have hm':=hm.item hp k 0 hk (by decide) {n.its[k] with key:=[]} (.string ⟨#[]⟩) rfl ⟨aC _,((hm.nd p n hp).small.each _ (bB hk)).2⟩
 rw[dN] at hm'
 refine⟨hm',bz _ _ _,fun x hx=>aO hx,⟨rfl,rfl,rfl,rfl,rfl,rfl,rfl,rfl⟩,rfl,by rw[hL];exact bP,List.take_set_of_le (af _), ?_,hq.other _ _ fun e=>hn ⟨p,n,hp,.inr e⟩,(aE.aH hX _).setCell _ _ fun _=>.inr rfl, ?_⟩
 ·unfold jd
  simp only[]
  rw[if_neg hlv,cm (show k<(n.its.set k _).length by rw[bP];exact hk),List.getElem_set_self,List.drop_set_of_lt (jF k),cm hk]
  rfl
 ·rintro⟨x,m,hx,he⟩
  rcases aI hx with⟨rfl,rfl⟩|⟨_,h2⟩
  ·exact hn ⟨x,n,hp,he⟩
  ·exact hn ⟨x,m,h2,he⟩
theorem je.done {w3:World} {M3:Nat→Option NV} {n3:NV} {k L q:Nat} (h:je X M p n k L q w3 M3 n3) (hp:M p=some n) (hk:k≤n.its.length) (hL:L=n.its.length) (hq:X.heap.size≤q):
  EP X M p n k (.returned (.tuple #[ptr q,.string (bs (between n k))]))
   (((((w3.setCell ⟨q,3,none⟩ (.string (bs (between n k)))).setCell ⟨q,4,none⟩ (.string (bs n.hi))).setCell ⟨p,1,none⟩ (.slice (some ⟨n.rg,n.ro,none⟩) k k)).setCell ⟨p,4,none⟩ (.string (bs (between n k)))).setCell ⟨p,7,none⟩ (.bool true)):=by
 obtain⟨hN,hQ⟩:=h.keys hp (bs (between n k))
 obtain⟨s1,s2,s3,s4,s5,s6,s7,s8⟩:=h.same
 have tl:(n.its.take k).length=k:=by rw[aN];omega
 have hb:aE (fun j=>j=p∨j=q) w3 (((((w3.setCell ⟨q,3,none⟩ (.string (bs (between n k)))).setCell ⟨q,4,none⟩ (.string (bs n.hi))).setCell ⟨p,1,none⟩ (.slice (some ⟨n.rg,n.ro,none⟩) k k)).setCell ⟨p,4,none⟩ (.string (bs (between n k)))).setCell ⟨p,7,none⟩ (.bool true)):=
  (((((aE.refl (fun j=>j=p∨j=q) w3).setCell _ _ fun _=>Or.inr rfl).setCell _ _ fun _=>Or.inr rfl).setCell _ _ fun _=>Or.inl rfl).setCell _ _ fun _=>Or.inl rfl).setCell _ _ fun _=>Or.inl rfl
 have hm:=h.mem.part h.Vn h.not k (by rw[h.len,hL];exact hk) (low:=fZ n k) (up:=jd n k)
  ⟨h.take.symm,s2.symm,s3.symm,rfl,rfl⟩ ⟨h.drop.symm,s2.symm,by rw[s3];rfl,by rw[s4];rfl,rfl⟩ hb
  (by
   have e:((n3.cells.set 1 (.slice (some ⟨n.rg,n.ro,none⟩) k k)).set 4 (.string (bs (between n k)))).set 7 (.bool true)=(fZ n k).cells:=by
    unfold NV.cells
    rw[s1,s5,s6,s7,s8]
    show _=[_,Value.slice _ (n.its.take k).length k,_,_,_,_,_,_]
    rw[tl];rfl
   rw[←e]
   exact ((hN.blk.set 1 _).set 4 _).set 7 _)
  (by
   have ul:(jd n k).its.length=L-k:=by rw[←h.drop,aT,h.len]
   have e:(jd n k).cells=[.int .i64 n.level,.slice (some ⟨n.rg,n.ro+k*3,none⟩) (L-k) (n.cap-k),.int .i64 (-1),.string (bs (between n k)),.string (bs n.hi),.int .i64 0,.int .i64 0,.bool true]:=by
    unfold NV.cells
    rw[ul];rfl
   rw[e]
   exact ((hQ.other _ _ h.pq.symm).other _ _ h.pq.symm).other _ _ h.pq.symm)
 refine⟨q,rfl, ?_,hq, ?_⟩
 ·have e:upd (upd M3 p (fZ n k)) q (jd n k)=upd (upd M p (fZ n k)) q (jd n k):=by
   funext x
   unfold upd
   by_cases e1:x=q
   ·rw[if_pos e1,if_pos e1]
   ·rw[if_neg e1,if_neg e1]
    by_cases e2:x=p
    ·rw[if_pos e2,if_pos e2]
    ·rw[if_neg e2,if_neg e2];exact h.other x e2
  rw[←e];exact hm
 ·exact h.but.trans (hb.mono fun i _ hi=>hi) fun i hi e=>e.elim .inl fun e=>absurd hi (by omega)
theorem oX (h:Mem X M) (hp:M p=some n) (H:Nat) (hH:H=eL (cj n.its) 0 n.its) (h0:0<H) (hk:n.level=0→Tr.lt ((n.its.map It.key).getD (H-1) []) ((n.its.map It.key).getD H [])=true):
  Calls Tryz.prog 136 #[ptr p] X fun e X'=>EP X M p n H e X':=by
 have hnd:=h.nd p n hp
 have c1:=hnd.c1
 have dH:=hnd.blk.lt
 have hl:=hnd.small.len
 have iY:(n.its.length:Int)≤400:=by omega
 have hne:n.its≠[]:=by rintro e;rw[e] at hH;rw[hH] at h0;exact absurd h0 (by decide)
 have ZR:H<n.its.length:=by rw[hH];exact nO _ _ _ hne
 have hts:=hnd.small.size
 have HI:=aa (And.intro h (And.intro hp (And.intro hH (And.intro h0 (And.intro hk ZR)))))
 have HS:=aa (fun (W:World) (hb:Below X.heap.size X W)=>gJ (hnd.still hb))
 obtain⟨T,hT⟩:∃T,T=cj n.its:=⟨_,rfl⟩
 obtain⟨L,hL⟩:∃L,L=n.its.length:=⟨_,rfl⟩
 rw[←hT] at HS hts
 rw[←hL] at c1 iY
 have HT:=aa (And.intro hT hL)
 clear h hp hH h0 hk hl hne hT hL ZR
 go_enter Tryz.func136,Tryz.ntmps136
 unfold ptr
 go_wp2
 go_loopw [4,5] (fun hv sv wr=>∃k s:Nat,hv=.int .i64 k∧sv=.int .i64 s∧Hid (k<L∧s=cj (n.its.take k)∧s≤160800∧k+eL T s (n.its.drop k)=H)∧Hid (Below X.heap.size X wr)) (fun hv _ _=>L-(RowKit.intOf hv).toNat)
 case atStart=>exact⟨0,0,rfl,rfl,aa ⟨by have:=HI.o;have:=HT.o;omega,rfl,aC _,by rw[HI.o.2.2.1,HT.o.1,List.drop_zero,bV]⟩,aa (Below.refl _ _)⟩
 case round=>
  obtain⟨k,s,rfl,rfl,hK,hB⟩:=hrel
  have d1:=(hB.o.cell (p:=⟨p,1,none⟩) dH).trans c1
  have hw:Nd wr p n:=hnd.still hB.o
  have s9:(k:Int)<L:=by have:=hK.out.1;omega
  have xk:(s:Int)≤160800:=by have:=hK.out.2.2.1;omega
  by_cases hk1:k+1<L
  ·have PW:(k:Int)<(L:Int)-1:=by omega
   have S5:decide ((k:Int)<(L:Int)-1)=true:=decide_eq_true PW
   have hsT:(T:Int)≤160800:=by omega
   unfold ptr at HS
   go_wp2_with fail
   refine (HS.o wr hB.o).mono ?_
   rintro e w1 ⟨rfl,bF⟩
   have fY:=aa (hB.o.trans (bF.mono hB.o.size))
   have d2:=(fY.o.cell (p:=⟨p,1,none⟩) dH).trans c1
   clear bF
   by_cases kN:2*s<T
   ·have PX:2*(s:Int)<T:=by omega
    have hsd:decide (2*(s:Int)<T)=true:=decide_eq_true PX
    have lM:k<n.its.length:=by have:=HT.o;omega
    obtain⟨a0,a1,a2⟩:=aV (dZ hnd.row fY.o) k lM
    have he:=hnd.small.each _ (bB lM)
    have HC:=aa (fun W=>xq W n.its[k] ⟨by omega,by omega⟩)
    have HK:=aa (show k+1<L∧s+iQ n.its[k]=cj (n.its.take (k+1))∧k+1+eL T (s+iQ n.its[k]) (n.its.drop (k+1))=H from⟨hk1,by rw[xu _ _ lM,hK.out.2.1],by rw[←hK.out.2.2.2];exact (AP (by have:=HT.o;omega) kN).symm⟩)
    have hle:=hnd.small.part (k+1)
    rw[←HK.o.2.1] at hle
    generalize n.its[k]=it at*
    clear hk1 kN lM he
    go_wp2_with fail
    refine (HC.o _).mono ?_
    rintro e w2 ⟨rfl,aP⟩
    have fC:=aa (fY.o.trans (aP.mono fY.o.size))
    clear aP
    generalize iQ it=z at*
    have hz:(s:Int)+z≤160800:=by omega
    go_wp2
    go_roundw
    case rel=>exact⟨k+1,s+z,by go_num,by go_num,aa ⟨HK.o.1,HK.o.2.1,hle,HK.o.2.2⟩,fC⟩
    case measure=>have:=HK.o.1;simp[RowKit.intOf];omega
   ·have PX:¬2*(s:Int)<T:=by omega
    have hsd:decide (2*(s:Int)<T)=false:=decide_eq_false PX
    have S6:=aa (show k=H by
     have:=hK.out.2.2.2
     rw[sF (.inr kN)] at this
     omega)
    clear hk1 kN
    have hkh:=S6.o
    subst hkh
    have HM:=aa (HI.o.1.still fY.o)
    have hw0:Nd w1 p n:=hnd.still fY.o
    have e0:=hw0.c0
    have e1:=hw0.c1
    rw[←HT.o.2] at e1
    have lM:k<n.its.length:=HI.o.2.2.2.2.2
    have oh:=HI.o.2.2.2.1
    have S7:L≤n.cap:=by have:=hnd.small.cap.1;have:=HT.o;omega
    have hcm:(n.cap:Int)≤9223372036854775807:=by have:=hnd.small.cap.2;unfold maxLen at this;omega
    have hck:¬n.cap=k:=by have:=HT.o;omega
    have WM:(0:Int)<(L:Int)-k:=by have:=HT.o;omega
    have WN:(k:Int)≤L:=by omega
    have hkm:k-1<n.its.length:=Nat.lt_of_le_of_lt (Nat.sub_le _ _) lM
    have Dh:=hw0.blk.lt
    have Av:(n.level:Int)≥0:=by omega
    clear hB hw s9 hK S6
    obtain⟨w2,jT⟩:∃w2,w2=(w1.alloc (.cells #[.int .i64 n.level,.slice (some ⟨n.rg,n.ro+k*3,none⟩) (L-k) (n.cap-k),.int .i64 (-1),.string ⟨#[]⟩,.string ⟨#[]⟩,.int .i64 0,.int .i64 0,.bool true] 127)).drew:=⟨_,rfl⟩
    obtain⟨q,hq⟩:∃q,q=w1.heap.size:=⟨_,rfl⟩
    have HN:=aa (show Below X.heap.size X w2∧aS w2 q 127 [.int .i64 n.level,.slice (some ⟨n.rg,n.ro+k*3,none⟩) (L-k) (n.cap-k),.int .i64 (-1),.string ⟨#[]⟩,.string ⟨#[]⟩,.int .i64 0,.int .i64 0,.bool true]∧X.heap.size≤q∧Mem w2 M∧w1.heap.size≤w2.heap.size∧w1.heap.size≤q from by
     have b2:Below w1.heap.size w1 w2:=by rw[jT];exact ((Below.refl _ w1).alloc (af _) _).drew
     exact⟨fY.o.trans (b2.mono fY.o.size),by rw[jT,hq];exact aS.drew (aS.new w1 _ _),by rw[hq];exact fY.o.size,HM.o.still b2,b2.size,Nat.le_of_eq hq.symm⟩)
    go_wp2_with fail
    go_region
    rw[←jT,←hq]
    have m9:Nd w2 p n:=hnd.still HN.o.1
    clear jT hq e0 e1 hw0 Dh
    have x1:=HN.o.2.1.cell (j:=1) rfl
    have e0:=m9.c0
    have i0:=(aV m9.row k lM).1
    have i1:=(aV m9.row (k-1) hkm).1
    have hrl:=th m9.row lM
    have Dh:=m9.blk.lt
    have Cr:(n.its.map It.key).getD k []=n.its[k].key:=by rw[bT,cJ,aJ lM];rfl
    have M7:(n.its.map It.key).getD (k-1) []=n.its[k-1].key:=by rw[bT,cJ,aJ hkm];rfl
    by_cases hlv:n.level=0
    ·have uJ:¬(n.level:Int)>0:=by omega
     have S8:decide ((n.level:Int)>0)=false:=decide_eq_false uJ
     have e1:=m9.c1
     rw[←HT.o.2] at e1
     have hkb:=HI.o.2.2.2.2.1 hlv
     rw[Cr,M7] at hkb
     have bY:between n k=Tr.cA n.its[k-1].key n.its[k].key:=by unfold between;rw[if_pos hlv,Cr,M7]
     have hs1:=hnd.small.each _ (bB lM)
     have kN:=hnd.small.each _ (bB hkm)
     have HC:=aa (fun W=>p7 W _ _ hkb (by omega) (by omega))
     rw[←bY] at HC
     have WO:(0:Int)≤(k:Int)-1:=by omega
     clear Cr M7 hkb bY hs1 kN
     go_wp2_with fail
     refine (HC.o w2).mono ?_
     rintro e w3 ⟨rfl,bY⟩
     have H3:=aa (uI HN.o.2.2.2.1 HI.o.2.1 HT.o.2 hlv bY HN.o.2.1 HN.o.1 (fun h=>absurd (HM.o.lg h) (Nat.not_lt.2 HN.o.2.2.2.2.2)))
     clear x1 e0 i0 i1 hrl Dh m9 e1 HC bY
     obtain⟨w4,sV⟩:∃w4,w4=(w3.setCell ⟨q,3,none⟩ (.string (bs (between n k)))).setCell ⟨q,4,none⟩ (.string (bs n.hi)):=⟨_,rfl⟩
     have kO:=H3.o.nd
     have e4:w3.cell? ⟨p,4,none⟩=some (.string (bs n.hi)):=H3.o.hi▸kO.c4
     have e1:w3.cell? ⟨p,1,none⟩=some (.slice (some ⟨n.rg,n.ro,none⟩) L n.cap):=by
      have:=kO.c1
      rw[H3.o.len,H3.o.same.2.1,H3.o.same.2.2.1,H3.o.same.2.2.2.1] at this
      exact this
     have q3:=H3.o.blk.frozen 3
     have q4:=H3.o.blk.frozen 4
     have x3:=H3.o.blk.cell (j:=3) rfl
     have x4:=H3.o.blk.cell (j:=4) rfl
     have H4:=aa (H3.o.keys HI.o.2.1 (bs (between n k)))
     rw[←sV] at H4
     have g1:=H4.o.1.c1
     have g4:=H4.o.1.c4
     have g7:=H4.o.1.c7
     rw[H3.o.len,H3.o.same.2.1,H3.o.same.2.2.1,H3.o.same.2.2.2.1] at g1
     have k1:=H4.o.1.blk.frozen 1
     have k4:=H4.o.1.blk.frozen 4
     have k7:=H4.o.1.blk.frozen 7
     have mN:=aa (qm w4 (some ⟨n.rg,n.ro,none⟩) k n.cap (by have:=HT.o;omega) (by have:=HT.o;omega) hcm)
     have HE:=aa (H3.o.done HI.o.2.1 (Nat.le_of_lt lM) HT.o.2 HN.o.2.2.1)
     rw[←sV] at HE
     have PY:(k:Int)≤n.cap:=by omega
     generalize bs (between n k)=bw at*
     clear kO
     go_wp2_with fail
     rw[←sV]
     refine mN.o.mono ?_
     rintro e w5 ⟨rfl,rfl⟩
     clear sV e4 e1 q3 q4 x3 x4 mN
     go_wp2_with fail
     refine bodyPost_ret (results_tmp2 rfl _ _ _) rfl ?_
     exact HE.o
    ·have uJ:(n.level:Int)>0:=by omega
     have S8:decide ((n.level:Int)>0)=true:=decide_eq_true uJ
     have i0f:w2.frozen? ⟨n.rg,n.ro+k*3,none⟩=false:=by
      obtain⟨cur,hc⟩:=HN.o.2.2.2.1.ty p n HI.o.2.1
      simp[World.frozen?,hc]
     have f3:=HN.o.2.1.frozen 3
     have f4:=HN.o.2.1.frozen 4
     have bY:between n k=n.its[k].key:=by unfold between;rw[if_neg hlv,Cr]
     rw[←bY] at i0
     obtain⟨w3,JW⟩:∃w3,w3=w2.setCell ⟨n.rg,n.ro+k*3,none⟩ (.string ⟨#[]⟩):=⟨_,rfl⟩
     have H3:=aa (xK HN.o.2.2.2.1 HI.o.2.1 HT.o.2 hlv lM HN.o.2.1 HN.o.1 (fun h=>absurd (HM.o.lg h) (Nat.not_lt.2 HN.o.2.2.2.2.2)))
     rw[←JW] at H3
     clear Cr M7 bY i1 m9
     obtain⟨w4,sV⟩:∃w4,w4=(w3.setCell ⟨q,3,none⟩ (.string (bs (between n k)))).setCell ⟨q,4,none⟩ (.string (bs n.hi)):=⟨_,rfl⟩
     have kO:=H3.o.nd
     have e4:w3.cell? ⟨p,4,none⟩=some (.string (bs n.hi)):=H3.o.hi▸kO.c4
     have e1:w3.cell? ⟨p,1,none⟩=some (.slice (some ⟨n.rg,n.ro,none⟩) L n.cap):=by
      have:=kO.c1
      rw[H3.o.len,H3.o.same.2.1,H3.o.same.2.2.1,H3.o.same.2.2.2.1] at this
      exact this
     have q3:=H3.o.blk.frozen 3
     have q4:=H3.o.blk.frozen 4
     have x3:=H3.o.blk.cell (j:=3) rfl
     have x4:=H3.o.blk.cell (j:=4) rfl
     have H4:=aa (H3.o.keys HI.o.2.1 (bs (between n k)))
     rw[←sV] at H4
     have g1:=H4.o.1.c1
     have g4:=H4.o.1.c4
     have g7:=H4.o.1.c7
     rw[H3.o.len,H3.o.same.2.1,H3.o.same.2.2.1,H3.o.same.2.2.2.1] at g1
     have k1:=H4.o.1.blk.frozen 1
     have k4:=H4.o.1.blk.frozen 4
     have k7:=H4.o.1.blk.frozen 7
     have mN:=aa (qm w4 (some ⟨n.rg,n.ro,none⟩) k n.cap (by have:=HT.o;omega) (by have:=HT.o;omega) hcm)
     have HE:=aa (H3.o.done HI.o.2.1 (Nat.le_of_lt lM) HT.o.2 HN.o.2.2.1)
     rw[←sV] at HE
     have PY:(k:Int)≤n.cap:=by omega
     generalize bs (between n k)=bw at*
     clear kO
     subst JW
     go_wp2_with fail
     rw[←sV]
     refine mN.o.mono ?_
     rintro e w5 ⟨rfl,rfl⟩
     clear sV e4 e1 q3 q4 x3 x4 mN
     go_wp2_with fail
     refine bodyPost_ret (results_tmp2 rfl _ _ _) rfl ?_
     exact HE.o
  ·have PW:¬(k:Int)<(L:Int)-1:=by omega
   have S5:decide ((k:Int)<(L:Int)-1)=false:=decide_eq_false PW
   have S6:=aa (show k=H by
    have:=hK.out.2.2.2
    rw[sF (.inl (by have:=HT.o;omega))] at this
    omega)
   clear hk1
   have fY:=aa hB.o
   rename World=>w1
   have hkh:=S6.o
   subst hkh
   have HM:=aa (HI.o.1.still fY.o)
   have hw0:Nd w1 p n:=hnd.still fY.o
   have e0:=hw0.c0
   have e1:=hw0.c1
   rw[←HT.o.2] at e1
   have lM:k<n.its.length:=HI.o.2.2.2.2.2
   have oh:=HI.o.2.2.2.1
   have S7:L≤n.cap:=by have:=hnd.small.cap.1;have:=HT.o;omega
   have hcm:(n.cap:Int)≤9223372036854775807:=by have:=hnd.small.cap.2;unfold maxLen at this;omega
   have hck:¬n.cap=k:=by have:=HT.o;omega
   have WM:(0:Int)<(L:Int)-k:=by have:=HT.o;omega
   have WN:(k:Int)≤L:=by omega
   have hkm:k-1<n.its.length:=Nat.lt_of_le_of_lt (Nat.sub_le _ _) lM
   have Dh:=hw0.blk.lt
   have Av:(n.level:Int)≥0:=by omega
   clear hB hw s9 hK S6
   obtain⟨w2,jT⟩:∃w2,w2=(w1.alloc (.cells #[.int .i64 n.level,.slice (some ⟨n.rg,n.ro+k*3,none⟩) (L-k) (n.cap-k),.int .i64 (-1),.string ⟨#[]⟩,.string ⟨#[]⟩,.int .i64 0,.int .i64 0,.bool true] 127)).drew:=⟨_,rfl⟩
   obtain⟨q,hq⟩:∃q,q=w1.heap.size:=⟨_,rfl⟩
   have HN:=aa (show Below X.heap.size X w2∧aS w2 q 127 [.int .i64 n.level,.slice (some ⟨n.rg,n.ro+k*3,none⟩) (L-k) (n.cap-k),.int .i64 (-1),.string ⟨#[]⟩,.string ⟨#[]⟩,.int .i64 0,.int .i64 0,.bool true]∧X.heap.size≤q∧Mem w2 M∧w1.heap.size≤w2.heap.size∧w1.heap.size≤q from by
    have b2:Below w1.heap.size w1 w2:=by rw[jT];exact ((Below.refl _ w1).alloc (af _) _).drew
    exact⟨fY.o.trans (b2.mono fY.o.size),by rw[jT,hq];exact aS.drew (aS.new w1 _ _),by rw[hq];exact fY.o.size,HM.o.still b2,b2.size,Nat.le_of_eq hq.symm⟩)
   go_wp2_with fail
   go_region
   rw[←jT,←hq]
   have m9:Nd w2 p n:=hnd.still HN.o.1
   clear jT hq e0 e1 hw0 Dh
   have x1:=HN.o.2.1.cell (j:=1) rfl
   have e0:=m9.c0
   have i0:=(aV m9.row k lM).1
   have i1:=(aV m9.row (k-1) hkm).1
   have hrl:=th m9.row lM
   have Dh:=m9.blk.lt
   have Cr:(n.its.map It.key).getD k []=n.its[k].key:=by rw[bT,cJ,aJ lM];rfl
   have M7:(n.its.map It.key).getD (k-1) []=n.its[k-1].key:=by rw[bT,cJ,aJ hkm];rfl
   by_cases hlv:n.level=0
   ·have uJ:¬(n.level:Int)>0:=by omega
    have S8:decide ((n.level:Int)>0)=false:=decide_eq_false uJ
    have e1:=m9.c1
    rw[←HT.o.2] at e1
    have hkb:=HI.o.2.2.2.2.1 hlv
    rw[Cr,M7] at hkb
    have bY:between n k=Tr.cA n.its[k-1].key n.its[k].key:=by unfold between;rw[if_pos hlv,Cr,M7]
    have hs1:=hnd.small.each _ (bB lM)
    have kN:=hnd.small.each _ (bB hkm)
    have HC:=aa (fun W=>p7 W _ _ hkb (by omega) (by omega))
    rw[←bY] at HC
    have WO:(0:Int)≤(k:Int)-1:=by omega
    clear Cr M7 hkb bY hs1 kN
    go_wp2_with fail
    refine (HC.o w2).mono ?_
    rintro e w3 ⟨rfl,bY⟩
    have H3:=aa (uI HN.o.2.2.2.1 HI.o.2.1 HT.o.2 hlv bY HN.o.2.1 HN.o.1 (fun h=>absurd (HM.o.lg h) (Nat.not_lt.2 HN.o.2.2.2.2.2)))
    clear x1 e0 i0 i1 hrl Dh m9 e1 HC bY
    obtain⟨w4,sV⟩:∃w4,w4=(w3.setCell ⟨q,3,none⟩ (.string (bs (between n k)))).setCell ⟨q,4,none⟩ (.string (bs n.hi)):=⟨_,rfl⟩
    have kO:=H3.o.nd
    have e4:w3.cell? ⟨p,4,none⟩=some (.string (bs n.hi)):=H3.o.hi▸kO.c4
    have e1:w3.cell? ⟨p,1,none⟩=some (.slice (some ⟨n.rg,n.ro,none⟩) L n.cap):=by
     have:=kO.c1
     rw[H3.o.len,H3.o.same.2.1,H3.o.same.2.2.1,H3.o.same.2.2.2.1] at this
     exact this
    have q3:=H3.o.blk.frozen 3
    have q4:=H3.o.blk.frozen 4
    have x3:=H3.o.blk.cell (j:=3) rfl
    have x4:=H3.o.blk.cell (j:=4) rfl
    have H4:=aa (H3.o.keys HI.o.2.1 (bs (between n k)))
    rw[←sV] at H4
    have g1:=H4.o.1.c1
    have g4:=H4.o.1.c4
    have g7:=H4.o.1.c7
    rw[H3.o.len,H3.o.same.2.1,H3.o.same.2.2.1,H3.o.same.2.2.2.1] at g1
    have k1:=H4.o.1.blk.frozen 1
    have k4:=H4.o.1.blk.frozen 4
    have k7:=H4.o.1.blk.frozen 7
    have mN:=aa (qm w4 (some ⟨n.rg,n.ro,none⟩) k n.cap (by have:=HT.o;omega) (by have:=HT.o;omega) hcm)
    have HE:=aa (H3.o.done HI.o.2.1 (Nat.le_of_lt lM) HT.o.2 HN.o.2.2.1)
    rw[←sV] at HE
    have PY:(k:Int)≤n.cap:=by omega
    generalize bs (between n k)=bw at*
    clear kO
    go_wp2_with fail
    rw[←sV]
    refine mN.o.mono ?_
    rintro e w5 ⟨rfl,rfl⟩
    clear sV e4 e1 q3 q4 x3 x4 mN
    go_wp2_with fail
    refine bodyPost_ret (results_tmp2 rfl _ _ _) rfl ?_
    exact HE.o
   ·have uJ:(n.level:Int)>0:=by omega
    have S8:decide ((n.level:Int)>0)=true:=decide_eq_true uJ
    have i0f:w2.frozen? ⟨n.rg,n.ro+k*3,none⟩=false:=by
     obtain⟨cur,hc⟩:=HN.o.2.2.2.1.ty p n HI.o.2.1
     simp[World.frozen?,hc]
    have f3:=HN.o.2.1.frozen 3
    have f4:=HN.o.2.1.frozen 4
    have bY:between n k=n.its[k].key:=by unfold between;rw[if_neg hlv,Cr]
    rw[←bY] at i0
    obtain⟨w3,JW⟩:∃w3,w3=w2.setCell ⟨n.rg,n.ro+k*3,none⟩ (.string ⟨#[]⟩):=⟨_,rfl⟩
    have H3:=aa (xK HN.o.2.2.2.1 HI.o.2.1 HT.o.2 hlv lM HN.o.2.1 HN.o.1 (fun h=>absurd (HM.o.lg h) (Nat.not_lt.2 HN.o.2.2.2.2.2)))
    rw[←JW] at H3
    clear Cr M7 bY i1 m9
    obtain⟨w4,sV⟩:∃w4,w4=(w3.setCell ⟨q,3,none⟩ (.string (bs (between n k)))).setCell ⟨q,4,none⟩ (.string (bs n.hi)):=⟨_,rfl⟩
    have kO:=H3.o.nd
    have e4:w3.cell? ⟨p,4,none⟩=some (.string (bs n.hi)):=H3.o.hi▸kO.c4
    have e1:w3.cell? ⟨p,1,none⟩=some (.slice (some ⟨n.rg,n.ro,none⟩) L n.cap):=by
     have:=kO.c1
     rw[H3.o.len,H3.o.same.2.1,H3.o.same.2.2.1,H3.o.same.2.2.2.1] at this
     exact this
    have q3:=H3.o.blk.frozen 3
    have q4:=H3.o.blk.frozen 4
    have x3:=H3.o.blk.cell (j:=3) rfl
    have x4:=H3.o.blk.cell (j:=4) rfl
    have H4:=aa (H3.o.keys HI.o.2.1 (bs (between n k)))
    rw[←sV] at H4
    have g1:=H4.o.1.c1
    have g4:=H4.o.1.c4
    have g7:=H4.o.1.c7
    rw[H3.o.len,H3.o.same.2.1,H3.o.same.2.2.1,H3.o.same.2.2.2.1] at g1
    have k1:=H4.o.1.blk.frozen 1
    have k4:=H4.o.1.blk.frozen 4
    have k7:=H4.o.1.blk.frozen 7
    have mN:=aa (qm w4 (some ⟨n.rg,n.ro,none⟩) k n.cap (by have:=HT.o;omega) (by have:=HT.o;omega) hcm)
    have HE:=aa (H3.o.done HI.o.2.1 (Nat.le_of_lt lM) HT.o.2 HN.o.2.2.1)
    rw[←sV] at HE
    have PY:(k:Int)≤n.cap:=by omega
    generalize bs (between n k)=bw at*
    clear kO
    subst JW
    go_wp2_with fail
    rw[←sV]
    refine mN.o.mono ?_
    rintro e w5 ⟨rfl,rfl⟩
    clear sV e4 e1 q3 q4 x3 x4 mN
    go_wp2_with fail
    refine bodyPost_ret (results_tmp2 rfl _ _ _) rfl ?_
    exact HE.o
end
theorem jD.back {w w1 w':World} {sb tb:Nat} {sv:Value} {l:List Int} {e:Ending} (hb:Below w.heap.size w w1) (h:jD w1 sb tb sv l e w'):jD w sb tb sv l e w':=by
 obtain⟨he,eC,h1,h2,h3,h4⟩:=h
 exact⟨he,eC,h1,h2,(aE.aH hb _).trans h3 (fun _ _ h=>h),h4.imp_right fun h k hk=>aG hb.size (h k hk)⟩
section
variable {w X:World} {M:Nat→Option NV} {p sb tb:Nat} {n:NV} {sv:Value} {l:List Int} {it:It}
def PZ (w:World) (sb tb:Nat) (sv:Value) (l:List Int) (e:Ending) (w':World):Prop:=e=.returned (.slice none 0 0)∧jD w sb tb sv l (.returned (.tuple #[])) w'
theorem Di (hs:aS w sb 169 [ptr tb,sv]) (ho:mZ 0 w sv l) (h:Nd w p n) (hl:l.length≤1000000) (hn:n.its=[]):
  Calls Tryz.prog 131 #[ptr sb,ptr p,.agg #[.string (bs it.key),.string (bs it.val),.pointer (pa it.node)]] w fun e w'=>PZ w sb tb sv (l++[n.page]) e w':=by
 obtain⟨w1,hw1⟩:∃w1,w1=w.alloc (.cells #[.string (bs it.key),.string (bs it.val),.pointer (pa it.node)] 122):=⟨_,rfl⟩
 have bF:Below w.heap.size w w1:=by rw[hw1];exact (Below.refl _ w).alloc (af _) _
 have h1:=h.still bF
 have c1:=h.c1
 rw[hn] at c1
 have c1':w.cell? ⟨p,1,none⟩=some (.slice (some ⟨n.rg,n.ro,none⟩) 0 n.cap):=c1
 have dH:=h.blk.lt
 clear c1
 have HC:=aa (fun e w' (h:jD w1 sb tb sv (l++[n.page]) e w')=>h.back bF)
 have HL:=aa (iH w1 sb tb p sv l n (hs.below bF hs.lt) (Own.below ho bF (af _)) h1 hl)
 clear h1 bF h hs ho
 go_enter Tryz.func131,Tryz.ntmps131
 unfold ptr
 go_wp2_with fail
 rw[←hw1]
 refine HL.o.mono ?_
 intro e w2 h2
 have H2:=aa (HC.o _ _ h2)
 obtain⟨rfl,-⟩:=h2
 clear hw1 HL HC
 go_wp2_with fail
 go_ret
 exact⟨rfl,H2.o⟩
theorem rH (w:World) (l:List It) (c:List Value) (hc:c=aj.cells l) (hl:l.length≤400) {L:Nat} (hL:L=l.length):aR w.heap.size (w.alloc (.cells c.toArray 122)) (.slice (some ⟨w.heap.size,0,none⟩) L L) l:=by
 subst hc
 exact eX (R:=[]) (by rw[bh];exact aS.new w _ _) (by rw[bh,aj.bX,hL];rfl) hL (af _) (by unfold maxLen;omega) (af _)
def S9 (w:World) (l:List It) (e:Ending) (w':World):Prop:=∃v,e=.returned v∧aR w.heap.size w' v l∧Below w.heap.size w w'
theorem Gh (h:Nd w p n) (hn:n.its≠[]) (hz:cj n.its≤510):
  Calls Tryz.prog 131 #[ptr sb,ptr p,.agg #[.string (bs it.key),.string (bs it.val),.pointer (pa it.node)]] w fun e w'=>S9 w [it] e w':=by
 obtain⟨w1,hw1⟩:∃w1,w1=w.alloc (.cells #[.string (bs it.key),.string (bs it.val),.pointer (pa it.node)] 122):=⟨_,rfl⟩
 have bF:Below w.heap.size w w1:=by rw[hw1];exact (Below.refl _ w).alloc (af _) _
 have h1:=h.still bF
 have c1:=h.c1
 have dH:=h.blk.lt
 obtain⟨L,hL⟩:∃L,L=n.its.length:=⟨_,rfl⟩
 rw[←hL] at c1
 have JX:((L:Int)==0)=false:=by rw[beq_eq_false_iff_ne];intro e;exact hn (ef.1 (by omega))
 have HF:=aa (iF h1)
 obtain⟨g,hg⟩:∃g,g=w.heap.size:=⟨_,rfl⟩
 have HK:=aa (show aS w1 g 122 [.string (bs it.key),.string (bs it.val),.pointer (pa it.node)]∧Below w.heap.size w w1 from⟨by rw[hw1,hg];exact aS.new w _ _,bF⟩)
 clear h1 bF h hL
 go_enter Tryz.func131,Tryz.ntmps131
 unfold ptr
 go_wp2_with fail
 rw[←hw1,←hg]
 refine HF.o.mono ?_
 rintro e w2 ⟨rfl,aP⟩
 rw[decide_eq_true hz]
 have H2:=aa (show aS w2 g 122 [.string (bs it.key),.string (bs it.val),.pointer (pa it.node)]∧Below w.heap.size w w2 from⟨HK.o.1.below aP HK.o.1.lt,HK.o.2.trans (aP.mono HK.o.2.size)⟩)
 have k0:=H2.o.1.cell (j:=0) rfl
 have k1:=H2.o.1.cell (j:=1) rfl
 have k2:=H2.o.1.cell (j:=2) rfl
 have HE:=aa (rH w2 [it] [.string (bs it.key),.string (bs it.val),.pointer (pa it.node)] rfl (show 1≤400 by decide) (L:=1) rfl)
 clear HF aP hw1 hg
 go_wp2_with fail
 go_ret
 exact⟨_,rfl,Own.mono HE.o H2.o.2.size,H2.o.2.alloc H2.o.2.size _⟩
def S_ (X:World) (M:Nat→Option NV) (p:Nat) (n:NV) (h:Nat) (it:It) (e:Ending) (X':World):Prop:=
 ∃v q,e=.returned v∧aR X.heap.size X' v [it,⟨between n h,pv 0,some q⟩]∧Mem X' (upd (upd M p (fZ n h)) q (jd n h))∧X.heap.size≤q∧aE (fun k=>k=p∨k=n.rg) X X'
theorem Gi (h:Mem X M) (hp:M p=some n) (H:Nat) (hH:H=eL (cj n.its) 0 n.its) (h0:0<H) (hk:n.level=0→Tr.lt ((n.its.map It.key).getD (H-1) []) ((n.its.map It.key).getD H [])=true) (hz:¬cj n.its≤510):
  Calls Tryz.prog 131 #[ptr sb,ptr p,.agg #[.string (bs it.key),.string (bs it.val),.pointer (pa it.node)]] X fun e X'=>S_ X M p n H it e X':=by
 have hn:n.its≠[]:=by rintro e;rw[e] at hz;exact hz (by decide)
 have hnd:=h.nd p n hp
 obtain⟨w1,hw1⟩:∃w1,w1=X.alloc (.cells #[.string (bs it.key),.string (bs it.val),.pointer (pa it.node)] 122):=⟨_,rfl⟩
 have bF:Below X.heap.size X w1:=by rw[hw1];exact (Below.refl _ X).alloc (af _) _
 have h1:=hnd.still bF
 have c1:=hnd.c1
 have dH:=hnd.blk.lt
 obtain⟨L,hL⟩:∃L,L=n.its.length:=⟨_,rfl⟩
 rw[←hL] at c1
 have JX:((L:Int)==0)=false:=by rw[beq_eq_false_iff_ne];intro e;exact hn (ef.1 (by omega))
 have HF:=aa (iF h1)
 obtain⟨g,hg⟩:∃g,g=X.heap.size:=⟨_,rfl⟩
 have HK:=aa (show aS w1 g 122 [.string (bs it.key),.string (bs it.val),.pointer (pa it.node)]∧Below X.heap.size X w1 from⟨by rw[hw1,hg];exact aS.new X _ _,bF⟩)
 have HI:=aa (And.intro h (And.intro hp (And.intro hH (And.intro h0 (And.intro hk hz)))))
 have HG:=aa hg
 clear h1 bF h hL hp hH h0 hk hz hn hnd
 go_enter Tryz.func131,Tryz.ntmps131
 unfold ptr
 go_wp2_with fail
 rw[←hw1,←hg]
 refine HF.o.mono ?_
 rintro e w2 ⟨rfl,aP⟩
 rw[decide_eq_false HI.o.2.2.2.2.2]
 have H2:=aa (show aS w2 g 122 [.string (bs it.key),.string (bs it.val),.pointer (pa it.node)]∧Below X.heap.size X w2 from⟨HK.o.1.below aP HK.o.1.lt,HK.o.2.trans (aP.mono HK.o.2.size)⟩)
 have HS:=aa (oX (HI.o.1.still H2.o.2) HI.o.2.1 H HI.o.2.2.1 HI.o.2.2.2.1 HI.o.2.2.2.2.1)
 clear HF aP hw1 hg HK c1 JX dH
 go_wp2_with fail
 refine HS.o.mono ?_
 rintro e w3 ⟨q,rfl,EC,OT,bY⟩
 have LV:¬(g=p∨g=n.rg):=by
  have:=HI.o.1.lt HI.o.2.1
  have:=HG.o
  rintro (e|e)<;>omega
 have H3:=aa (show aS w3 g 122 [.string (bs it.key),.string (bs it.val),.pointer (pa it.node)]∧Mem w3 (upd (upd M p (fZ n H)) q (jd n H))∧X.heap.size≤q∧aE (fun k=>k=p∨k=n.rg) X w3 from⟨H2.o.1.but bY LV,EC,aG H2.o.2.size OT,(aE.aH H2.o.2 _).trans bY fun _ _ h=>h⟩)
 have k0:=H3.o.1.cell (j:=0) rfl
 have k1:=H3.o.1.cell (j:=1) rfl
 have k2:=H3.o.1.cell (j:=2) rfl
 clear HS bY EC OT LV
 have HC:=aa (fun W=>jE W (bs (between n H)) q)
 go_wp2_with fail
 go_wp2_with (refine wp_region_any (by kernel_rfl) ?_;refine Hid.o ?_)
 refine aa ?_
 try (change wpAny _ _ _ _ _ _ _ (bD _))
 refine tk 1 ?_
 refine tk 2 ?_
 try simp only[Act.put,az,ay,au]
 refine rd [0,3] (AllReady.cons rfl (fun K hK=> ?_) (rn fun K hK=> ?_))
 focus
  go_simp
  refine hK _ _ ?_;clear hK K
  refine rd [3] (rn fun K hK=> ?_)
  go_simp
  refine (HC.o _).mono ?_
  rintro e w4 ⟨rfl,hb4⟩
  have yZ:Below w3.heap.size w3 w4:=((Below.refl _ w3).drew).trans hb4
  have H4:=aa (And.intro (H3.o.1.below yZ H3.o.1.lt) (And.intro (H3.o.2.1.still yZ) (aE.trans H3.o.2.2.2 (aE.aH yZ (fun _=>False)) fun _ _ h=>h.elim)))
  have y0:=H4.o.1.cell (j:=0) rfl
  have y1:=H4.o.1.cell (j:=1) rfl
  have y2:=H4.o.1.cell (j:=2) rfl
  refine hK _ _ ?_;clear hK K hb4 yZ
 rotate_left
 focus
  go_simp
  refine (HC.o _).mono ?_
  rintro e w4 ⟨rfl,hb4⟩
  have yZ:Below w3.heap.size w3 w4:=((Below.refl _ w3).drew).trans hb4
  have H4:=aa (And.intro (H3.o.1.below yZ H3.o.1.lt) (And.intro (H3.o.2.1.still yZ) (aE.trans H3.o.2.2.2 (aE.aH yZ (fun _=>False)) fun _ _ h=>h.elim)))
  have y0:=H4.o.1.cell (j:=0) rfl
  have y1:=H4.o.1.cell (j:=1) rfl
  have y2:=H4.o.1.cell (j:=2) rfl
  refine hK _ _ ?_;clear hK K hb4 yZ
  refine rd [0] (rn fun K hK=> ?_)
  go_simp
  refine hK _ _ ?_;clear hK K
 all_goals
  try simp only[Act.put,az,ay,au]
  have HE:=aa (rH w4 [it,⟨between n H,pv 0,some q⟩] [.string (bs it.key),.string (bs it.val),.pointer (pa it.node),.string (bs (between n H)),.string (bs (pv 0)),ptr q] rfl (show 2≤400 by decide) (L:=2) rfl)
  refine rd [4] (rn fun K hK=> ?_)
  go_simp
  refine hK _ _ ?_;clear hK K
  refine tk 5 ?_
  refine wpAny_done (by kernel_rfl) ?_ _
  go_wp2
  go_ret
  exact⟨_,q,rfl,Own.mono HE.o H4.o.2.2.size,H4.o.2.1.still ((Below.refl _ w4).alloc (af _) _),H3.o.2.2.1,H4.o.2.2.alloc _⟩
end
def f_ (B:Nat) (w:World) (v:Value) (l:List It) (e:Ending) (w':World):Prop:=
 ∃v',e=.returned v'∧aR B w' v' l∧aE (fun k=>v.ownBlock=some k) w w'∧(v'.ownBlock=v.ownBlock∨∀k,v'.ownBlock=some k→w.heap.size≤k)∧(v.ownBlock.isSome=true→v'.ownBlock.isSome=true)
section
variable {w:World} {B:Nat} {v:Value} {l:List It} {it:It} {vr vo:Nat}
theorem Dj (h:aR B w v l) (hB:B≤w.heap.size) (hl:l.length≤400) (hv:a_ aj w vr vo [it]):
  Calls Tryz.prog 70 #[v,.int .i64 l.length,.slice (some ⟨vr,vo,none⟩) 1 1] w fun e w'=>f_ B w v (l++[it]) e w':=by
 obtain⟨a,cap,rfl,hc⟩:=Own.slice h
 have HO:=aa (And.intro h (And.intro hB hv))
 have ZS:=aa hl
 obtain⟨L,hL⟩:∃L,L=l.length:=⟨_,rfl⟩
 rw[←hL] at HO hl hc ⊢
 have HL:=aa hL
 have iY:(L:Int)≤400:=by omega
 have M8:((L:Int)==L)=true:=by simp
 have h0:(0:Int)≤L:=by omega
 clear h hB hv hL
 by_cases hcL:cap=L
 ·subst hcL
  go_enter Tryz.func70,Tryz.ntmps70
  go_wp2_with (at_builtin;refine Hid.o ?_)
  refine aa ?_
  refine eS (K:=aj) uf rfl _ _ rfl rfl HO.o.1 HO.o.2.1 vr vo 1 1 [it] rfl rfl HO.o.2.2 (show l.length+1≤1000000000 by have:=ZS.o;omega) ?_
  intro v2 w2 fD fK jT
  have HE:=aa (show f_ B w _ (l++[it]) (.returned v2) w2 from⟨v2,rfl,fD,(aE.refl _ w).grown fK (fun k e _=>e),jT,fun _=>by obtain⟨_,_,rfl,_⟩:=Own.form fD (by simp);rfl⟩)
  clear fD fK jT
  go_wp2
  go_ret
  exact HE.o
 ·skip
  go_enter Tryz.func70,Tryz.ntmps70
  go_wp2_with (at_builtin;refine Hid.o ?_)
  refine aa ?_
  refine eS (K:=aj) uf rfl _ _ rfl rfl HO.o.1 HO.o.2.1 vr vo 1 1 [it] rfl rfl HO.o.2.2 (show l.length+1≤1000000000 by have:=ZS.o;omega) ?_
  intro v2 w2 fD fK jT
  have HE:=aa (show f_ B w _ (l++[it]) (.returned v2) w2 from⟨v2,rfl,fD,(aE.refl _ w).grown fK (fun k e _=>e),jT,fun _=>by obtain⟨_,_,rfl,_⟩:=Own.form fD (by simp);rfl⟩)
  clear fD fK jT
  go_wp2
  go_ret
  exact HE.o
theorem ng (w:World) (a oa la ca b ob lb cb:Nat) (hne:a≠b) (ha:∃cur,w.heap[a]?=some (.cells cur 122 (0,0))) (hb:∃cur,w.heap[b]?=some (.cells cur 122 (0,0))∧cur.size≠0):
  (callFunc 109 #[.slice (some ⟨a,oa,none⟩) la ca,.slice (some ⟨b,ob,none⟩) lb cb]).run Tryz.prog w=.ok (.value (.bool false)) w:=by
 obtain⟨ca',hca⟩:=ha
 obtain⟨cb',hcb,hz⟩:=hb
 rw[run_callFunc_extern Tryz.func109 (by kernel_rfl) (by kernel_rfl) (by kernel_rfl) (e:=Extern.SlicesOverlaps.overlaps #[123,123] #[4]) (by kernel_rfl)]
 rw[Lib.run_overlaps_apart w 123 4 122 Tryz.underlying123 3 (fun w=>by kernel_rfl) ⟨a,oa,none⟩ ⟨b,ob,none⟩ la ca lb cb hne 122 122 ca'.size cb'.size (by simp[World.shape?,hca]) (by simp[World.shape?,hcb]) hz (by simp[World.frozen?,hca]) (by simp[World.frozen?,hca])]
 rfl
theorem bQ (l:List It):(aj.cells l).length=l.length*3:=aj.bX l
theorem eU (l:List It) (i:Nat):aj.cells l=aj.cells (l.take i)++aj.cells (l.drop i):=by rw[←aj.bW,cL]
theorem AQ {g cap i:Nat} (h:aR B w (.slice (some ⟨g,0,none⟩) l.length cap) l) (hl:l.length≤400) (hv:a_ aj w vr vo [it]) (hi:i<l.length) (hc:l.length+1≤cap) (Vo:vr≠g) (EM:∃cur,w.heap[vr]?=some (.cells cur 122 (0,0))):
  Calls Tryz.prog 70 #[.slice (some ⟨g,0,none⟩) l.length cap,.int .i64 i,.slice (some ⟨vr,vo,none⟩) 1 1] w fun e w'=>f_ B w (.slice (some ⟨g,0,none⟩) l.length cap) (l.take i++it::l.drop i) e w':=by
 obtain⟨R,hg,zX,-,-,hcm,hBg⟩:=jr h
 have hlR:(aj.cells l++R).length=l.length*3+R.length:=by rw[aq,bQ]
 have hX:(aj.cells (l.take i)).length=i*3:=by rw[bQ,aN,b_ (by omega)]
 have hD:(aj.cells (l.drop i)).length=(l.length-i)*3:=by rw[bQ,aT]
 have HH:=aa (show w.heap[g]?=some (.cells (aj.cells (l.take i)++(aj.cells (l.drop i)++R)).toArray 122 (0,0)) from by rw[←aB,←eU];exact hg)
 have hfr:w.frozen? ⟨vr,vo,none⟩=false:=by
  obtain⟨cur,mP⟩:=EM
  simp[World.frozen?,mP]
 have HV:=aa (And.intro hv (And.intro EM Vo))
 have HN:=aa (show i<l.length∧l.length+1≤cap∧cap≤maxLen∧B≤g∧(aj.cells l++R).length=cap*3 from⟨hi,hc,hcm,hBg,zX⟩)
 obtain⟨L,hL⟩:∃L,L=l.length:=⟨_,rfl⟩
 rw[←hL] at hl hc ⊢
 have HL:=aa hL
 have iY:(L:Int)≤400:=by omega
 have Jj:(i:Int)<L:=by rw[hL];omega
 have Ta:(i:Int)≤L:=by omega
 have hne:((i:Int)==L)=false:=by rw[beq_eq_false_iff_ne];omega
 have Cm:(L:Int)+1≤cap:=by omega
 have WQ:¬(cap:Int)<L+1:=by omega
 have M9:¬cap=i:=by omega
 have WR:¬cap=i+1:=by omega
 clear h hv hi hc hg zX hcm hBg hlR EM hL
 go_enter Tryz.func70,Tryz.ntmps70
 go_wp2
 rw[ng w vr vo 1 1 g ((i+1)*3) (L-i) (cap-(i+1)) HV.o.2.2 HV.o.2.1 ⟨_,HH.o,by rw[List.size_toArray,←aB,←eU,HN.o.2.2.2.2];have:=HN.o;omega⟩]
 rw[Oper.upon_value]
 obtain⟨a,ha⟩:∃a,l.drop i=a::l.drop (i+1):=⟨_,cm HN.o.1⟩
 have mP:aj.cells (l.take i)++(aj.cells (l.drop i)++R)=(aj.cells (l.take i)++aj.enc a)++(aj.cells (l.drop (i+1))++R):=by rw[ha,Elem.dL];simp only[aB]
 have WS:(aj.enc a).length=3:=aj.len a
 have ZT:(aj.cells (l.take i)++aj.enc a).length=(i+1)*3:=by rw[aq,hX,WS];omega
 have ZU:(aj.cells (l.drop (i+1))).length=(l.length-(i+1))*3:=by rw[bQ,aT]
 have OU:(aj.cells (l.take i)++(aj.cells (l.drop i)++R)).length=cap*3:=by rw[←aB,←eU];exact HN.o.2.2.2.2
 have HK:=aa (And.intro mP (And.intro WS (And.intro ZT (And.intro ZU OU))))
 have OV:=aa (And.intro hX hD)
 clear mP WS ZT ZU OU hX hD ha
 have iw:IntKind.i64.wrap ((i:Int)+1)=(i:Int)+1:=by
  have:=cN (i+1) (by omega)
  rwa [show ((i+1:Nat):Int)=(i:Int)+1 by omega] at this
 have Tb:((i:Int)+1).toNat=i+1:=by omega
 have il1:(i:Int)+1≤L+1:=by omega
 have il2:(i:Int)≤L+1:=by omega
 have Vp:(0:Int)≤(i:Int)+1:=by omega
 go_wp2_with (refine wp_region_any (by kernel_rfl) ?_;refine Hid.o ?_)
 refine aa ?_
 try (change wpAny _ _ _ _ _ _ _ (bD _))
 refine tk 0 ?_
 refine tk 1 ?_
 refine tk 2 ?_
 refine tk 3 ?_
 refine tk 4 ?_
 refine tk 5 ?_
 refine tk 6 ?_
 refine tk 7 ?_
 try simp only[Act.put,az,ay,au]
 refine rd [8] (rn fun K hK=> ?_)
 refine fk _ _ rfl _ _ _ _ _ _ rfl rfl g ((i+1)*3) _ HH.o (l.drop i) (by rw[aT,←HL.o];exact (Nat.min_eq_right (by omega)).symm) (fun _=>⟨rfl,g,i*3,rfl,by have:=kF HH.o;rw[OV.o.1] at this;exact this⟩) (by rw[HK.o.2.2.2.2,aT];have:=HN.o;omega) ?_;intro w1 rI bF
 refine hK _ _ ?_;clear hK K
 refine wpAny_done (by kernel_rfl) ?_ _
 have bF:=(aE.refl (fun k=>k=g) w).drew.trans bF (fun _ _ h=>h)
 rw[HK.o.1,←HK.o.2.2.1,fo rfl] at rI
 have HV1:=aa (show a_ aj w1 vr vo [it] from HV.o.1.but (S:=fun k=>k=g) bF HV.o.2.2)
 obtain⟨R1,Rn⟩:∃R1,R1=(aj.cells (l.drop (i+1))++R).drop (aj.cells (l.drop i)).length:=⟨_,rfl⟩
 rw[←Rn] at rI
 have HG1:=aa (show w1.heap[g]?=some (.cells (aj.cells (l.take i)++(aj.enc a++(aj.cells (l.drop i)++R1))).toArray 122 (0,0)) from by rw[←aB];exact rI)
 have fY:=aa (show aE (fun k=>k=g) w w1 from bF)
 have HR1:=aa (show i*3+3+(L-i)*3+R1.length=cap*3 by
  rw[Rn,aT,aq,OV.o.2,HK.o.2.2.2.1]
  have h1:=HK.o.2.2.2.2
  rw[aq,aq,OV.o.1,OV.o.2] at h1
  have:=HN.o
  have:=HL.o
  omega)
 clear rI bF Rn
 go_wp2_with (refine ez rfl _ _ rfl _ _ _ _ _ _ rfl rfl g (i*3) _ HG1.o [it] (b_ (show 1≤L+1-i by omega)).symm (fun _=>⟨rfl,vr,vo,rfl,HV1.o⟩) (by rw[aq,OV.o.1,aq,HK.o.2.1];show i*3+1*3≤_;omega) ?_;intro w2 fK aP;refine Hid.o ?_)
 refine aa ?_
 rw[←OV.o.1,fo rfl] at fK
 have hI:(aj.cells [it]).length=(aj.enc a).length:=by rw[bQ,HK.o.2.1];rfl
 rw[hI,List.drop_left] at fK
 have HE:=aa (show f_ B w (.slice (some ⟨g,0,none⟩) L cap) (l.take i++it::l.drop i) (.returned (.slice (some ⟨g,0,none⟩) (L+1) cap)) w2 from by
  have hcs:aj.cells (l.take i++it::l.drop i)++R1=aj.cells (l.take i)++(aj.cells [it]++(aj.cells (l.drop i)++R1)):=by
   rw[Elem.bW,Elem.dL,Elem.dL,Elem.xf,bh]
   simp only[aB]
  refine⟨_,rfl,eX (R:=R1) (by rw[hcs];exact fK) ?_ ?_ (by have:=HN.o;have:=HL.o;omega) HN.o.2.2.1 HN.o.2.2.2.1, ?_,.inl rfl,fun _=>rfl⟩
  ·rw[hcs,aq,aq,aq,OV.o.1,OV.o.2,hI,HK.o.2.1]
   have:=HR1.o
   have:=HL.o
   omega
  ·rw[aq,aW,aN,aT]
   have:=HN.o
   have:=HL.o
   omega
  ·have e:(fun k=>(Value.slice (some ⟨g,0,none⟩) L cap).ownBlock=some k)=fun k=>k=g:=by
    funext k
    exact propext ⟨fun h=>by have h2:some g=some k:=h;injection h2 with h2;exact h2.symm,fun h=>by rw[h];rfl⟩
   rw[e]
   exact fY.o.trans aP (fun _ _ h=>h))
 clear fK aP hI
 go_wp2
 go_ret
 exact HE.o
theorem gV (z:Array Value) (n:Nat):(Builtin.zeroCells z n).size=n*z.size:=by simp[Builtin.zeroCells]
theorem qo (w:World) (g i cap k:Nat) (X:List Value) (hX:X.length=i*3) (hx:∀j u,X[j]?=some u→w.cell? ⟨g,j,none⟩=some u) (h0:0<k) (hg:cap<i+k) (h:i+k≤1000000) (ty:TypeId):
  ∃(c:Nat) (Z:List Value),(Builtin.append_ #[123,3] ty #[.slice (some ⟨g,0,none⟩) i cap,.int .i64 k]).run Tryz.prog w=.ok (.slice (some ⟨w.heap.size,0,none⟩) (i+k) c) (w.drew.alloc (.cells (X++Z).toArray 122))∧i+k≤c∧c≤maxLen∧(X++Z).length=c*3:=by
 obtain⟨inf,hi,hz,hsz,hby⟩:=jZ (P:=Tryz.prog) (E:=122) (size:=3) (bytes:=40) (z:=.agg #[.string .empty,.string .empty,.pointer none]) (by kernel_rfl)
 have hold:(Builtin.firstCells inf.size i (.slice (some ⟨g,0,none⟩) i cap)).run Tryz.prog w.drew=.ok X.toArray w.drew:=by
  rw[hsz]
  refine run_firstCells_some (P:=Tryz.prog) w.drew 3 i ⟨g,0,none⟩ i cap X (by omega) fun j u hu=> ?_
  have e:(⟨g,0,none⟩:Addr).add j=⟨g,j,none⟩:=by unfold Addr.add;split<;>simp_all
  rw[e]
  exact hx j u hu
 have hrun:=Lib.run_append_grow_zeros (P:=Tryz.prog) w 123 3 ty 122 inf _ .i64 .i64 Tryz.underlying123 (by kernel_rfl) hi hz (some ⟨g,0,none⟩) i cap X hold k h0 (by omega) hg (by omega) (by rw[hby];omega) (growslice_fits hg (by rw[hby];omega))
 have hge:=grownCap_ge w (i+k) cap 122
 have h3:(Value.agg #[.string .empty,.string .empty,.pointer none]).cells.size=3:=rfl
 have hA:=gV (Value.agg #[.string .empty,.string .empty,.pointer none]).cells k
 have hB:=gV (Value.agg #[.string .empty,.string .empty,.pointer none]).cells (grownCap w (i+k) cap 122-(i+k))
 generalize Builtin.zeroCells (Value.agg #[.string .empty,.string .empty,.pointer none]).cells k=A at*
 generalize Builtin.zeroCells (Value.agg #[.string .empty,.string .empty,.pointer none]).cells (grownCap w (i+k) cap 122-(i+k))=Bz at*
 have e:X.toArray++A++Bz=(X++(A++Bz).toList).toArray:=by
  apply Array.ext'
  simp only[Array.toList_append,aB]
 rw[e] at hrun
 refine⟨_,(A++Bz).toList,hrun,hge,grownCap_le_maxLen _ _ _ _ (by unfold maxLen;omega), ?_⟩
 rw[aq,hX,aZ,Array.size_append,hA,hB,h3]
 omega
theorem AR {g i:Nat} (h:aR B w (.slice (some ⟨g,0,none⟩) l.length l.length) l) (hB:B≤w.heap.size) (hl:l.length≤400) (hv:a_ aj w vr vo [it]) (hi:i<l.length) (Vo:vr<w.heap.size):
  Calls Tryz.prog 70 #[.slice (some ⟨g,0,none⟩) l.length l.length,.int .i64 i,.slice (some ⟨vr,vo,none⟩) 1 1] w fun e w'=>f_ B w (.slice (some ⟨g,0,none⟩) l.length l.length) (l.take i++it::l.drop i) e w':=by
 obtain⟨R,hg,zX,-,-,hcm,hBg⟩:=jr h
 have ER:g<w.heap.size:=(iA.1 hg).1
 have hX:(aj.cells (l.take i)).length=i*3:=by rw[bQ,aN,b_ (by omega)]
 have hD:(aj.cells (l.drop i)).length=(l.length-i)*3:=by rw[bQ,aT]
 have hlies:=Own.lies h
 have hx:∀j u,(aj.cells (l.take i))[j]?=some u→w.cell? ⟨g,j,none⟩=some u:=by
  intro j u hu
  have:=hlies j u (by rw[eU l i,List.getElem?_append_left (List.getElem?_eq_some_iff.1 hu).1];exact hu)
  rwa [bV] at this
 have M_:a_ aj w g (i*3) (l.drop i):=by
  have:=hlies.part i (l.length-i) (by omega)
  rw[bV,bZ (by rw[aT];exact af _)] at this
  exact this
 obtain⟨L,hL⟩:∃L,L=l.length:=⟨_,rfl⟩
 obtain⟨c,Z,hrun,hc1,hc2,LW⟩:=qo w g i l.length (l.length+1-i) _ hX hx (by omega) (by omega) (by omega) 123
 rw[show i+(l.length+1-i)=L+1 by omega,←hL] at hrun
 rw[show i+(l.length+1-i)=L+1 by omega] at hc1
 have s9:((L+1-i:Nat):Int)=(L:Int)+1-i:=by omega
 rw[s9] at hrun
 have HR:=aa hrun
 have HH:=aa (show g<w.heap.size∧B≤w.heap.size∧a_ aj w vr vo [it]∧vr<w.heap.size∧a_ aj w g (i*3) (l.drop i)∧i<L∧L=l.length from⟨ER,hB,hv,Vo,M_,by omega,hL⟩)
 have HC:=aa (show L+1≤c∧c≤maxLen∧(aj.cells (l.take i)++Z).length=c*3∧(aj.cells (l.take i)).length=i*3∧(aj.cells (l.drop i)).length=(L-i)*3 from⟨hc1,hc2,LW,hX,by rw[hL];exact hD⟩)
 rw[←hL] at hl ⊢
 have iY:(L:Int)≤400:=by omega
 have Jj:(i:Int)<L:=by rw[hL];omega
 have Ta:(i:Int)≤L:=by omega
 have hne:((i:Int)==L)=false:=by rw[beq_eq_false_iff_ne];omega
 have WQ:(L:Int)<L+1:=by omega
 have hLi:¬L=i:=by omega
 clear h hB hv hi Vo hg zX hcm hBg ER hX hD hlies hx M_ hL hrun hc1 hc2 LW s9
 go_enter Tryz.func70,Tryz.ntmps70
 go_wp2_with (at_builtin;refine Hid.o ?_)
 refine aa ?_
 refine Lib.wpList_append_run _ rfl _ _ _ _ rfl _ _ rfl rfl _ _ HR.o ?_
 obtain⟨w1,hw1⟩:∃w1,w1=w.drew.alloc (.cells (aj.cells (l.take i)++Z).toArray 122):=⟨_,rfl⟩
 obtain⟨g2,fK⟩:∃g2,g2=w.heap.size:=⟨_,rfl⟩
 have bF:Below w.heap.size w w1:=by rw[hw1];exact (Below.refl _ w).drew.alloc (af _) _
 have hc1:w1.heap[g2]?=some (.cells (aj.cells (l.take i)++Z).toArray 122 (0,0)):=by rw[hw1,fK];exact heap_alloc_new w.drew _
 have uq:=aa (show Below w.heap.size w w1∧w1.heap[g2]?=some (.cells (aj.cells (l.take i)++Z).toArray 122 (0,0))∧a_ aj w1 vr vo [it]∧a_ aj w1 g (i*3) (l.drop i)∧g2=w.heap.size from⟨bF,hc1,HH.o.2.2.1.below bF HH.o.2.2.2.1,HH.o.2.2.2.2.1.below bF HH.o.1,fK⟩)
 rw[←hw1,←fK]
 clear hw1 fK bF hc1
 have M9:¬c=i:=by have:=HC.o.1;have:=HH.o;omega
 have WR:¬c=i+1:=by have:=HC.o.1;have:=HH.o;omega
 have il2:(i:Int)≤L+1:=by omega
 have il1:(i:Int)+1≤L+1:=by omega
 have Vp:(0:Int)≤(i:Int)+1:=by omega
 have iw:IntKind.i64.wrap ((i:Int)+1)=(i:Int)+1:=by
  have:=cN (i+1) (by omega)
  rwa [show ((i+1:Nat):Int)=(i:Int)+1 by omega] at this
 have Tb:((i:Int)+1).toNat=i+1:=by omega
 go_wp2_with (refine ez rfl _ _ rfl _ _ _ _ _ _ rfl rfl g2 (i*3) _ uq.o.2.1 [it] (b_ (show 1≤L+1-i by omega)).symm (fun _=>⟨rfl,vr,vo,rfl,uq.o.2.2.1⟩) (by rw[HC.o.2.2.1];show i*3+1*3≤_;have:=HC.o.1;have:=HH.o;omega) ?_;intro w2 fK aP;refine Hid.o ?_)
 refine aa ?_
 rw[←HC.o.2.2.2.1,fo rfl] at fK
 have Tc:(aj.cells [it]).length=3:=by rw[bQ];rfl
 obtain⟨Z1,P0⟩:∃Z1,Z1=Z.drop (aj.cells [it]).length:=⟨_,rfl⟩
 rw[←P0,←aB] at fK
 have Td:Z1.length+3+i*3=c*3:=by
  rw[P0,aT,Tc]
  have:=HC.o.2.2.1
  rw[aq,HC.o.2.2.2.1] at this
  have:=HC.o.1
  have:=HH.o
  omega
 have WT:=aa (show (aj.cells (l.take i)++aj.cells [it]).length=(i+1)*3 by rw[aq,HC.o.2.2.2.1,Tc];omega)
 have hgn:g≠g2:=by have:=HH.o.1;have:=uq.o.2.2.2.2;omega
 have Ro:=aa (show w2.heap[g2]?=some (.cells ((aj.cells (l.take i)++aj.cells [it])++Z1).toArray 122 (0,0))∧Below w.heap.size w w2∧a_ aj w2 g (i*3) (l.drop i)∧Z1.length+3+i*3=c*3 from⟨fK,uq.o.1.trans ⟨aP.os,aP.tape,aP.output,aP.size,fun k hk=>aP.block k (by have:=uq.o.1.size;omega) (by have:=uq.o.2.2.2.2;omega)⟩,uq.o.2.2.2.1.but aP hgn,Td⟩)
 clear fK aP Tc P0 Td
 go_wp2_with (refine wp_region_any (by kernel_rfl) ?_;refine Hid.o ?_)
 refine aa ?_
 try (change wpAny _ _ _ _ _ _ _ (bD _))
 refine tk 0 ?_
 refine tk 1 ?_
 refine tk 2 ?_
 refine tk 3 ?_
 refine tk 4 ?_
 refine tk 5 ?_
 refine tk 6 ?_
 refine tk 7 ?_
 try simp only[Act.put,az,ay,au]
 refine rd [8] (rn fun K hK=> ?_)
 refine fk _ _ rfl _ _ _ _ _ _ rfl rfl g2 ((i+1)*3) _ Ro.o.1 (l.drop i) (by rw[aT,←HH.o.2.2.2.2.2.2];exact (Nat.min_eq_right (by omega)).symm) (fun _=>⟨rfl,g,i*3,rfl,Ro.o.2.2.1⟩) (by rw[aq,WT.o,aT];have:=Ro.o.2.2.2;have:=HC.o.1;have:=HH.o;omega) ?_;intro w3 zU bY
 refine hK _ _ ?_;clear hK K
 refine wpAny_done (by kernel_rfl) ?_ _
 have bY:=(aE.refl (fun k=>k=g2) w2).drew.trans bY (fun _ _ h=>h)
 rw[←WT.o,fo rfl] at zU
 have HE:=aa (show f_ B w (.slice (some ⟨g,0,none⟩) L L) (l.take i++it::l.drop i) (.returned (.slice (some ⟨g2,0,none⟩) (L+1) c)) w3 from by
  have hcs:aj.cells (l.take i++it::l.drop i)++Z1.drop (aj.cells (l.drop i)).length=(aj.cells (l.take i)++aj.cells [it])++(aj.cells (l.drop i)++Z1.drop (aj.cells (l.drop i)).length):=by
   rw[Elem.bW,Elem.dL,Elem.dL,Elem.xf,bh]
   simp only[aB]
  have yN:Below w.heap.size w w3:=Ro.o.2.1.trans ⟨bY.os,bY.tape,bY.output,bY.size,fun k hk=>bY.block k (by have:=Ro.o.2.1.size;omega) (by have:=uq.o.2.2.2.2;omega)⟩
  refine⟨_,rfl,eX (R:=Z1.drop (aj.cells (l.drop i)).length) (by rw[hcs];exact zU) ?_ ?_ HC.o.1 HC.o.2.1 (by have:=uq.o.2.2.2.2;have:=HH.o;omega),aE.aH yN _,.inr fun k hk=> ?_,fun _=>rfl⟩
  ·rw[hcs,aq,WT.o,aq,aT,HC.o.2.2.2.2]
   have:=Ro.o.2.2.2
   have:=HC.o.1
   have:=HH.o
   omega
  ·rw[aq,aW,aN,aT]
   have:=HH.o
   omega
  ·have e:some g2=some k:=hk
   injection e with e
   have:=uq.o.2.2.2.2
   omega)
 clear zU bY
 go_wp2
 go_ret
 exact HE.o
end
section
variable {w:World} {B sb:Nat} {lv:Value} {ms:List It} {it:It}
def xL (B:Nat) (w:World) (v:Value) (l:List It) (e:Ending) (w':World):Prop:=
 ∃v',e=.returned (.tuple #[v',.int .i64 0])∧aR B w' v' l∧aE (fun k=>v.ownBlock=some k) w w'∧(v'.ownBlock=v.ownBlock∨∀k,v'.ownBlock=some k→w.heap.size≤k)
theorem y6 (ho:aR B w lv []) (hB:B≤w.heap.size):
  Calls Tryz.prog 132 #[ptr sb,lv,.agg #[.string (bs it.key),.string (bs it.val),.pointer (pa it.node)]] w fun e w'=>xL B w lv [it] e w':=by
 obtain⟨a,c,rfl,-⟩:=Own.slice ho
 obtain⟨w1,hw1⟩:∃w1,w1=w.alloc (.cells #[.string (bs it.key),.string (bs it.val),.pointer (pa it.node)] 122):=⟨_,rfl⟩
 obtain⟨w2,jT⟩:∃w2,w2=w1.alloc (.cells #[.string (bs it.key),.string (bs it.val),.pointer (pa it.node)] 122):=⟨_,rfl⟩
 have aP:Below w.heap.size w w2:=by rw[jT,hw1];exact ((Below.refl _ w).alloc (af _) _).alloc (by rw[bk];omega) _
 have jS:a_ aj w2 w1.heap.size 0 [it]:=by rw[jT];exact a_.gh (aS.new w1 _ _) rfl
 have fD:aR B w2 (.slice a 0 c) []:=Own.below ho aP (af _)
 have HH:=aa (And.intro aP (And.intro jS (And.intro fD hB)))
 have HW:=aa (And.intro hw1 jT)
 clear ho hB aP jS fD hw1 jT
 go_enter Tryz.func132,Tryz.ntmps132
 unfold ptr
 go_wp2_with (at_builtin;refine Hid.o ?_)
 refine aa ?_
 rw[←HW.o.1,←HW.o.2]
 refine eS (K:=aj) uf rfl _ _ rfl rfl HH.o.2.2.1 (aG HH.o.2.2.2 HH.o.1.size) (w.heap.size+1) 0 1 1 [it] rfl rfl (by have:=HH.o.2.1;rw[HW.o.1,bk] at this;exact this) (show ([]:List It).length+1≤1000000000 by decide) ?_
 intro v3 w3 Jx zU kO
 have HE:=aa (show xL B w (.slice a 0 c) [it] (.returned (.tuple #[v3,.int .i64 0])) w3 from
  ⟨v3,rfl,Jx,(aE.aH HH.o.1 _).grown zU (fun k e _=>e),kO.imp_right fun h k hk=>aG HH.o.1.size (h k hk)⟩)
 clear Jx zU kO
 go_wp2_with fail
 go_ret2
 exact HE.o
theorem y7 {p q:Nat} {n m:NV} {l:List It} {last:It} (ho:aR B w lv (l++[last])) (hB:B≤w.heap.size) (hl:l.length≤400) (hp:last.node=some p) (hq:it.node=some q) (hn:Nd w p n) (hm:Nd w q m) (hk:it.key.length≤1000000)
  (hf:¬cj n.its+cj m.its+(if n.level=0 then 0 else it.key.length)≤510):
  Calls Tryz.prog 132 #[ptr sb,lv,.agg #[.string (bs it.key),.string (bs it.val),.pointer (pa it.node)]] w fun e w'=>xL B w lv (l++[last]++[it]) e w':=by
 obtain⟨g,c,rfl,hBg,ER,hlc⟩:=Own.form ho (by rw[aq];exact Nat.succ_pos _)
 obtain⟨w1,hw1⟩:∃w1,w1=w.alloc (.cells #[.string (bs it.key),.string (bs it.val),.pointer (pa it.node)] 122):=⟨_,rfl⟩
 obtain⟨g1,rI⟩:∃g1,g1=w.heap.size:=⟨_,rfl⟩
 have bF:Below w.heap.size w w1:=by rw[hw1];exact (Below.refl _ w).alloc (af _) _
 have hk1:aS w1 g1 122 [.string (bs it.key),.string (bs it.val),.pointer (pa it.node)]:=by rw[hw1,rI];exact aS.new w _ _
 have HF:=aa (kD (hn.still bF) (hm.still bF) it.key hk)
 rw[decide_eq_false hf] at HF
 have h0:=(aV (Own.lies ho) l.length (by rw[aq];exact jF _)).2.2
 rw[List.getElem_append_right (af _)] at h0
 simp only[Nat.sub_self,List.getElem_cons_zero,hp,bV] at h0
 have hlen:(l++[last]).length=l.length+1:=by rw[aq];rfl
 have HO:=aa (show aR B w (.slice (some ⟨g,0,none⟩) (l.length+1) c) (l++[last]) from by rw[←hlen];exact ho)
 rw[hlen]
 obtain⟨L,hL⟩:∃L,L=l.length:=⟨_,rfl⟩
 rw[←hL] at h0 HO hl ⊢
 have iY:(L:Int)≤400:=by omega
 have WU:(L:Int)+1>0:=by omega
 have HH:=aa (And.intro bF (And.intro hk1 (And.intro hB (And.intro hL (And.intro rI hlen)))))
 have h0':w.cell? ⟨g,L*3+2,none⟩=some (.pointer (some ⟨p,0,none⟩)):=h0
 rw[hq] at hw1
 have JY:w1=w.alloc (.cells #[.string (bs it.key),.string (bs it.val),.pointer (some ⟨q,0,none⟩)] 122):=hw1
 rw[hq] at hk1
 have HK:=aa (show aS w1 g1 122 [.string (bs it.key),.string (bs it.val),.pointer (some ⟨q,0,none⟩)] from hk1)
 have HQ:=aa (show pa it.node=some ⟨q,0,none⟩ by rw[hq];rfl)
 rw[hq]
 show Calls _ _ #[_,_,.agg #[.string (bs it.key),.string (bs it.val),.pointer (some ⟨q,0,none⟩)]] w _
 clear ho hB hp hq hn hm hk hf hlen hL bF hk1 hw1 h0 hBg hlc hl
 go_enter Tryz.func132,Tryz.ntmps132
 unfold ptr at HF ⊢
 go_wp2_with fail
 rw[←JY,←rI]
 refine HF.o.mono ?_
 rintro e w2 ⟨rfl,aP⟩
 have p9:Below w.heap.size w w2:=HH.o.1.trans (aP.mono HH.o.1.size)
 have hk2:=HK.o.below aP HK.o.lt
 have k0:=hk2.cell (j:=0) rfl
 have k1:=hk2.cell (j:=1) rfl
 have k2:=hk2.cell (j:=2) rfl
 obtain⟨w3,kO⟩:∃w3,w3=w2.alloc (.cells #[.string (bs it.key),.string (bs it.val),.pointer (some ⟨q,0,none⟩)] 122):=⟨_,rfl⟩
 obtain⟨g3,zU⟩:∃g3,g3=w2.heap.size:=⟨_,rfl⟩
 have yN:Below w.heap.size w w3:=by rw[kO];exact p9.alloc p9.size _
 have Cs:a_ aj w3 g3 0 [it]:=by rw[kO,zU];exact a_.gh (aS.new w2 _ _) (by show _=[Value.string (bs it.key),.string (bs it.val),.pointer (pa it.node)];rw[HQ.o])
 have H3:=aa (And.intro yN (And.intro Cs (Own.below HO.o yN (af _))))
 clear aP p9 hk2 yN Cs JY rI HF HK h0'
 go_wp2_with (at_builtin;refine Hid.o ?_)
 refine aa ?_
 rw[←kO,←zU]
 refine eS (K:=aj) uf rfl _ _ rfl rfl H3.o.2.2 (aG HH.o.2.2.1 H3.o.1.size) g3 0 1 1 [it] rfl rfl H3.o.2.1 (show (l++[last]).length+1≤1000000000 by rw[HH.o.2.2.2.2.2];have:=HH.o.2.2.2.1;omega) ?_
 intro v4 w4 wu j6 sV
 have HE:=aa (show xL B w (.slice (some ⟨g,0,none⟩) (L+1) c) (l++[last]++[it]) (.returned (.tuple #[v4,.int .i64 0])) w4 from
  ⟨v4,rfl,wu,(aE.aH H3.o.1 _).grown j6 (fun k e _=>e),sV.imp_right fun h k hk=>aG H3.o.1.size (h k hk)⟩)
 clear wu j6 sV kO zU
 go_wp2_with fail
 go_ret2
 exact HE.o
theorem y8 {Q:Int→World→Prop} {p q:Nat} {n m:NV} {l:List It} {last:It} (ho:aR B w lv (l++[last])) (hl:l.length≤400) (hp:last.node=some p) (hq:it.node=some q) (hn:Nd w p n) (hm:Nd w q m) (hk:it.key.length≤1000000)
  (hf:cj n.its+cj m.its+(if n.level=0 then 0 else it.key.length)≤510)
  (hj:∀w1,Below w.heap.size w w1→Calls Tryz.prog 175 #[ptr sb,ptr p,ptr q,.string (bs it.key)] w1 fun e w'=>∃x:Int,e=.returned (.int .i64 x)∧Q x w'):
  Calls Tryz.prog 132 #[ptr sb,lv,.agg #[.string (bs it.key),.string (bs it.val),.pointer (pa it.node)]] w fun e w'=>∃x:Int,e=.returned (.tuple #[lv,.int .i64 x])∧Q x w':=by
 obtain⟨g,c,rfl,hBg,ER,hlc⟩:=Own.form ho (by rw[aq];exact Nat.succ_pos _)
 obtain⟨w1,hw1⟩:∃w1,w1=w.alloc (.cells #[.string (bs it.key),.string (bs it.val),.pointer (pa it.node)] 122):=⟨_,rfl⟩
 obtain⟨g1,rI⟩:∃g1,g1=w.heap.size:=⟨_,rfl⟩
 have bF:Below w.heap.size w w1:=by rw[hw1];exact (Below.refl _ w).alloc (af _) _
 have hk1:aS w1 g1 122 [.string (bs it.key),.string (bs it.val),.pointer (pa it.node)]:=by rw[hw1,rI];exact aS.new w _ _
 have HF:=aa (kD (hn.still bF) (hm.still bF) it.key hk)
 rw[decide_eq_true hf] at HF
 have HJ:=aa hj
 have h0:=(aV (Own.lies ho) l.length (by rw[aq];exact jF _)).2.2
 rw[List.getElem_append_right (af _)] at h0
 simp only[Nat.sub_self,List.getElem_cons_zero,hp,bV] at h0
 have hlen:(l++[last]).length=l.length+1:=by rw[aq];rfl
 have HO:=aa (show aR B w (.slice (some ⟨g,0,none⟩) (l.length+1) c) (l++[last]) from by rw[←hlen];exact ho)
 rw[hlen]
 obtain⟨L,hL⟩:∃L,L=l.length:=⟨_,rfl⟩
 rw[←hL] at h0 HO hl ⊢
 have iY:(L:Int)≤400:=by omega
 have WU:(L:Int)+1>0:=by omega
 have HH:=aa (And.intro bF (And.intro hk1 (And.intro hL (And.intro rI hlen))))
 have h0':w.cell? ⟨g,L*3+2,none⟩=some (.pointer (some ⟨p,0,none⟩)):=h0
 rw[hq] at hw1
 have JY:w1=w.alloc (.cells #[.string (bs it.key),.string (bs it.val),.pointer (some ⟨q,0,none⟩)] 122):=hw1
 rw[hq] at hk1
 have HK:=aa (show aS w1 g1 122 [.string (bs it.key),.string (bs it.val),.pointer (some ⟨q,0,none⟩)] from hk1)
 have HQ:=aa (show pa it.node=some ⟨q,0,none⟩ by rw[hq];rfl)
 rw[hq]
 show Calls _ _ #[_,_,.agg #[.string (bs it.key),.string (bs it.val),.pointer (some ⟨q,0,none⟩)]] w _
 clear hj ho hp hq hn hm hk hf hlen hL bF hk1 hw1 h0 hBg hlc hl
 go_enter Tryz.func132,Tryz.ntmps132
 unfold ptr at HF ⊢
 go_wp2_with fail
 rw[←JY,←rI]
 refine HF.o.mono ?_
 rintro e w2 ⟨rfl,aP⟩
 have p9:Below w.heap.size w w2:=HH.o.1.trans (aP.mono HH.o.1.size)
 have hk2:=HK.o.below aP HK.o.lt
 have k0:=hk2.cell (j:=0) rfl
 have k1:=hk2.cell (j:=1) rfl
 have k2:=hk2.cell (j:=2) rfl
 have H2:=aa (HJ.o w2 p9)
 clear aP p9 hk2 JY rI HF HK h0' HJ
 unfold ptr at H2
 go_wp2_with fail
 refine H2.o.mono ?_
 rintro e w3 ⟨x,rfl,hQ⟩
 have H3:=aa hQ
 clear hQ
 go_wp2_with fail
 go_ret2
 exact⟨x,rfl,H3.o⟩
end
structure uK (X:World) (g o j:Nat) (i:It):Prop where
 key:X.cell? ⟨g,o+j*3,none⟩=some (.string (bs i.key))
 val:X.cell? ⟨g,o+j*3+1,none⟩=some (.string (bs i.val))
 node:X.cell? ⟨g,o+j*3+2,none⟩=some (.pointer (pa i.node))
 lt:g<X.heap.size
theorem uK.of {X:World} {g o j:Nat} {l:List It} (h:a_ aj X g o l) (hj:j<l.length):uK X g o j l[j]:=⟨(aV h j hj).1,(aV h j hj).2.1,(aV h j hj).2.2,th h hj⟩
structure Steps (p q sb tb:Nat) (fr to rg ro NL cap:Nat) (P:Nat→Value→World→Prop) (PB:Nat→Value→Nat→World→Prop) (Q:Nat→Nat→Option Addr→Nat→Value→World→Prop):Prop where
 cells:∀a lv X,P a lv X→X.cell? ⟨sb,0,none⟩=some (ptr tb)∧X.cell? ⟨p,1,none⟩=some (.slice (some ⟨rg,ro,none⟩) NL cap)
 still:∀a lv X V,P a lv X→Below X.heap.size X V→P a lv V
 below:∀a lv X,P a lv X→fr≤a→a<to→Calls Tryz.prog 79 #[ptr tb,ptr p,.int .i64 a] X fun e X'=>∃n,e=.returned (.tuple #[ptr n,.int .i64 0])∧PB a lv n X'
 WV:∀a lv n X V,PB a lv n X→Below X.heap.size X V→PB a lv n V
 JZ:∀a lv n X,PB a lv n X→X.cell? ⟨p,1,none⟩=some (.slice (some ⟨rg,ro,none⟩) NL cap)∧∃i,uK X rg ro a i∧
  Calls Tryz.prog 131 #[ptr sb,ptr n,.agg #[.string (bs i.key),.string (bs i.val),.pointer (pa i.node)]] X fun e X'=>∃L ra rc,e=.returned (.slice ra L rc)∧L≤1000∧Q a L ra 0 lv X'
 WW:∀a L ra j lv X V,Q a L ra j lv X→Below X.heap.size X V→Q a L ra j lv V
 step:∀a L ra j lv X,Q a L ra j lv X→j<L→∃g i,ra=some ⟨g,0,none⟩∧uK X g 0 j i∧∀V,Below X.heap.size X V→Calls Tryz.prog 132 #[ptr sb,lv,.agg #[.string (bs i.key),.string (bs i.val),.pointer (pa i.node)]] V fun e X'=>∃lp,e=.returned (.tuple #[lp,.int .i64 0])∧Q a L ra (j+1) lp X'
 done:∀a L ra lv X,Q a L ra L lv X→P (a+1) lv X
structure Ends (p:Nat) (fr to rg ro NL cap:Nat) (P:Nat→Value→World→Prop) (G:World→Prop) (PF PG:Option Addr→Nat→Nat→World→Prop):Prop where
 eq:∀lv X,P to lv X→∃la ln lc,lv=.slice la ln lc∧ln≤1000∧Calls Tryz.prog 133 #[.slice la ln lc,.slice (some ⟨rg,ro+fr*3,none⟩) (to-fr) (cap-fr)] X fun e X'=>∃b,e=.returned (.bool b)∧(b=true→G X')∧(b=false→PF la ln lc X')
 empty:∀la lc X,PF la 0 lc X→PG la 0 lc X
 first:∀la ln lc X,PF la ln lc X→0<ln→X.cell? ⟨p,1,none⟩=some (.slice (some ⟨rg,ro,none⟩) NL cap)∧∃g kb k0,la=some ⟨g,0,none⟩∧X.cell? ⟨rg,ro+fr*3,none⟩=some (.string kb)∧X.cell? ⟨g,0,none⟩=some (.string k0)∧X.frozen? ⟨g,0,none⟩=false∧PG la ln lc (X.setCell ⟨g,0,none⟩ (.string kb))
 new:∀la ln lc X,PG la ln lc X→X.cell? ⟨p,1,none⟩=some (.slice (some ⟨rg,ro,none⟩) NL cap)∧Calls Tryz.prog 134 #[.slice (some ⟨rg,ro,none⟩) NL cap,.int .i64 fr,.int .i64 to,.slice la ln lc] X fun e X'=>∃a n c,e=.returned (.slice a n c)∧(∃v,X'.cell? ⟨p,1,none⟩=some v)∧(∃v,X'.cell? ⟨p,7,none⟩=some v)∧X'.frozen? ⟨p,1,none⟩=false∧X'.frozen? ⟨p,7,none⟩=false∧G ((X'.setCell ⟨p,1,none⟩ (.slice a n c)).setCell ⟨p,7,none⟩ (.bool true))
section
variable {w:World} {p q sb tb:Nat} {m:NV}
theorem AU {P:Nat→Value→World→Prop} {PB:Nat→Value→Nat→World→Prop} {Q:Nat→Nat→Option Addr→Nat→Value→World→Prop} {at_ fr to rg ro NL cap:Nat} (h:Nd w q m) (hf:¬cj m.its≤510)
  (c6:w.cell? ⟨p,6,none⟩=some (.int .i64 at_)) (c1:w.cell? ⟨p,1,none⟩=some (.slice (some ⟨rg,ro,none⟩) NL cap)) (hp:p<w.heap.size)
  (hfr:fr=at_-1) (hto:to=min (at_+2) NL) (hN:NL≤400) (hat:at_<NL) (OW:∀V,Below w.heap.size w V→P fr (.slice none 0 0) V) (hS:Steps p q sb tb fr to rg ro NL cap P PB Q)
  {G:World→Prop} {PF PG:Option Addr→Nat→Nat→World→Prop} (hE:Ends p fr to rg ro NL cap P G PF PG) (IB:NL≤cap):
  Calls Tryz.prog 87 #[ptr sb,ptr p,ptr q] w fun e w'=>e=.returned (.int .i64 0)∧G w':=by
 have HF:=aa (fun V (hV:Below w.heap.size w V)=>iF (h.still hV))
 rw[decide_eq_false hf] at HF
 have HB:=aa (Below.refl w.heap.size w)
 have HC:=aa (fun V (hV:Below w.heap.size w V)=>And.intro ((hV.cell (p:=⟨p,6,none⟩) hp).trans c6) ((hV.cell (p:=⟨p,1,none⟩) hp).trans c1))
 have HP:=aa OW
 have jO:=aa hS
 have J1:=aa hE
 have Cm:(NL:Int)≤cap:=by omega
 have Te:fr<to∧to≤NL:=by omega
 have HA:=aa (And.intro hfr (And.intro hto (And.intro hN (And.intro hat Te))))
 unfold ptr at HF
 have Rp:(NL:Int)≤400:=by omega
 have MZ:(at_:Int)<NL:=by omega
 have q1:IntKind.i64.wrap ((at_:Int)-1)=(at_:Int)-1:=by rw[IntKind.wrap_i64];omega
 have q2:IntKind.i64.wrap ((at_:Int)+2)=(at_:Int)+2:=by rw[IntKind.wrap_i64];omega
 have e1:max ((at_:Int)-1) 0=(fr:Int):=by omega
 have e2:min ((at_:Int)+2) (NL:Int)=(to:Int):=by omega
 clear h hf c6 c1 OW hfr hto hN hat hS Te hE IB
 go_enter Tryz.func87,Tryz.ntmps87
 unfold ptr
 go_wp2_with (refine wp_region_any (by kernel_rfl) ?_;refine Hid.o ?_)
 refine aa ?_
 try (change wpAny _ _ _ _ _ _ _ (bD _))
 refine tk 0 ?_
 refine rd [1] (rn fun K hK=> ?_)
 go_simp
 refine (HF.o _ ((Below.refl _ w).drew)).mono ?_;rintro e w1 ⟨rfl,bF⟩
 refine hK _ _ ?_;clear hK K
 have HB:=aa (((Below.refl w.heap.size w).drew).trans bF)
 have c6:=(HC.o _ HB.o).1
 have c1:=(HC.o _ HB.o).2
 clear bF
 refine tk 2 ?_
 try simp only[Act.put,az,ay,au]
 refine sk 3 ?_
 refine sk 4 ?_
 refine sk 5 ?_
 refine sk 6 ?_
 refine sk 7 ?_
 refine sk 8 ?_
 refine sk 9 ?_
 try simp only[Act.put,az,ay,au]
 refine tk 10 ?_
 refine wpAny_done (by kernel_rfl) ?_ _
 go_wp2_with (refine wp_region_held_drew (S:=(fun X=>X.cell? ⟨p,6,none⟩=some (.int .i64 at_)∧X.cell? ⟨p,1,none⟩=some (.slice (some ⟨rg,ro,none⟩) NL cap))) (by kernel_rfl) ?_ (fun hS=> ?_);focus skip;rotate_left;refine Hid.o ?_)
 refine aa ?_
 ·exact⟨c6,c1⟩
 refine aU 0 hS ?_
 refine aU 1 hS ?_
 refine aU 2 hS ?_
 refine aU 3 hS ?_
 refine aU 4 hS ?_
 refine aU 5 hS ?_
 refine aU 6 hS ?_
 refine aU 7 hS ?_
 refine aU 8 hS ?_
 refine aU 9 hS ?_
 refine aU 10 hS ?_
 refine aU 11 hS ?_
 refine aU 12 hS ?_
 refine aU 13 hS ?_
 refine aU 14 hS ?_
 refine aU 15 hS ?_
 refine aU 16 hS ?_
 refine aU 17 hS ?_
 refine aU 18 hS ?_
 refine wpAnyH_done (by kernel_rfl) ?_ _
 try simp only[Act.put,az,ay,au]
 have HB:=aa (HB.o.drew)
 clear c6 c1
 go_wp2_with fail
 go_loopw [9,10,11,12,14] (fun lv av _ _ _ wr=>∃a:Nat,fr≤a∧a≤to∧av=.int .i64 a∧Hid (P a lv wr)) (fun _ av _ _ _ _=>to-(RowKit.intOf av).toNat)
 case atStart=>exact⟨fr,af _,by have:=HA.o;omega,rfl,aa (HP.o _ HB.o)⟩
 case round=>
  obtain⟨a,hfa,hat,rfl,hP⟩:=hrel
  obtain⟨c0,c1⟩:=jO.o.cells a _ _ hP.o
  unfold ptr at c0
  by_cases hlt:a<to
  ·have hI:(a:Int)<to:=by omega
   have Vq:(a:Int)<NL:=by have:=HA.o;omega
   go_wp2_with fail
   refine (jO.o.below a _ _ hP.o hfa hlt).mono ?_
   rintro e w2 ⟨nq,rfl,WX⟩
   unfold ptr
   obtain⟨d1,it,hit,cG⟩:=jO.o.JZ a _ _ _ WX
   have a0:=hit.key
   have a1:=hit.val
   have a2:=hit.node
   clear c0 c1
   have mN:=aa cG
   clear cG
   go_wp2_with fail
   refine mN.o.mono ?_
   rintro e w3 ⟨L,ra,rc,rfl,hL,hQ⟩
   have Dl:(L:Int)≤1000:=by omega
   have WY:=aa hQ
   clear hQ d1 a0 a1 a2 hit
   go_wp2_with fail
   go_loopw [9,12,14,73] (fun lv _ _ jv wq=>∃j:Nat,j≤L∧jv=.int .i64 j∧Hid (Q a L ra j lv wq)) (fun _ _ _ jv _=>L-(RowKit.intOf jv).toNat)
   case atStart=>exact⟨0,aC _,rfl,WY⟩
   case round=>
    obtain⟨j,hj,rfl,hQ⟩:=hrel
    by_cases uL:j<L
    ·have LR:(j:Int)<L:=by omega
     obtain⟨g,i,rfl,hit,cG⟩:=jO.o.step a L _ j _ _ hQ.o uL
     have a0:=hit.key
     have a1:=hit.val
     have a2:=hit.node
     have mN:=aa cG
     clear cG
     rw[bV] at a0 a1 a2
     obtain⟨W1,jQ⟩:∃W1,W1=wr.alloc (.cells #[.string (bs i.key),.string (bs i.val),.pointer (pa i.node)] 122):=⟨_,rfl⟩
     obtain⟨ib,hib⟩:∃ib,ib=wr.heap.size:=⟨_,rfl⟩
     have k0:W1.cell? ⟨ib,0,none⟩=some (.string (bs i.key)):=by rw[jQ,hib];exact (aS.new wr _ _).cell rfl
     have k1:W1.cell? ⟨ib,1,none⟩=some (.string (bs i.val)):=by rw[jQ,hib];exact (aS.new wr _ _).cell rfl
     have k2:W1.cell? ⟨ib,2,none⟩=some (.pointer (pa i.node)):=by rw[jQ,hib];exact (aS.new wr _ _).cell rfl
     have hbW:Below wr.heap.size wr W1:=by rw[jQ];exact (Below.refl _ wr).alloc (af _) _
     have OX:=aa hbW
     clear hbW
     generalize pa i.node=nd at*
     generalize bs i.key=kb at*
     generalize bs i.val=vb at*
     go_wp2_with fail
     rw[←jQ,←hib]
     clear jQ hib a0 a1 a2 hit
     go_wp2_with fail
     refine (mN.o _ OX.o).mono ?_
     rintro e w4 ⟨lp,rfl,Tf⟩
     have WZ:=aa Tf
     clear Tf k0 k1 k2
     go_wp2_with fail
     go_roundw
     case rel=>exact⟨j+1,uL,by go_num,WZ⟩
     case measure=>simp[RowKit.intOf];omega
    ·obtain rfl:j=L:=by omega
     have LR:¬(j:Int)<j:=by omega
     have HD:=aa (jO.o.done a j ra _ _ hQ.o)
     go_wp2_with fail
     go_roundw
     case rel=>exact⟨a+1,by omega,hlt,by go_num,HD⟩
     case measure=>simp[RowKit.intOf];omega
  ·obtain rfl:a=to:=by omega
   have hI:¬(a:Int)<a:=by omega
   have Tc:(a:Int)≤cap:=by have:=HA.o;omega
   have hI4:(fr:Int)≤a:=by omega
   obtain⟨la,ln,lc,rfl,ES,cG⟩:=J1.o.eq _ _ hP.o
   have mN:=aa cG
   have Gj:(ln:Int)≤1000:=by omega
   clear cG
   go_wp2_with fail
   refine mN.o.mono ?_
   rintro e w5 ⟨b,rfl,bF,aP⟩
   cases b with
   |true=>
    have HG:=aa (bF rfl)
    clear bF aP
    go_wp2_with fail
    go_ret
    exact⟨rfl,HG.o⟩
   |false=>
    have Tg:=aa (aP rfl)
    clear bF aP c0 c1
    by_cases h0:ln=0
    ·subst h0
     have hz:¬((0:Nat):Int)>0:=by decide
     obtain⟨c1,cG⟩:=J1.o.new _ _ _ _ (J1.o.empty _ _ _ Tg.o)
     have FV:=aa cG
     clear cG
     go_wp2_with fail
     refine FV.o.mono ?_
     rintro e w6 ⟨va,vn,vc,rfl,⟨v1,k1⟩,⟨v7,k7⟩,f1,f7,hG⟩
     have HG:=aa hG
     clear hG
     go_wp2_with fail
     go_ret
     exact⟨rfl,HG.o⟩
    ·have hpos:0<ln:=by omega
     have hz:(ln:Int)>0:=by omega
     obtain⟨c1,g,kb,k0,rfl,r0,g0,fz,P5⟩:=J1.o.first _ _ _ _ Tg.o hpos
     obtain⟨X1,Gk⟩:∃X1,X1=w5.setCell ⟨g,0,none⟩ (.string kb):=⟨_,rfl⟩
     rw[←Gk] at P5
     have Gb:=aa Gk
     clear Gk
     have hI5:(fr:Int)<NL:=by have:=HA.o;omega
     go_wp2_with fail
     rw[←Gb.o]
     obtain⟨c1,cG⟩:=J1.o.new _ _ _ _ P5
     have FV:=aa cG
     clear cG P5 r0 g0 fz
     go_wp2_with fail
     refine FV.o.mono ?_
     rintro e w6 ⟨va,vn,vc,rfl,⟨v1,k1⟩,⟨v7,k7⟩,f1,f7,hG⟩
     have HG:=aa hG
     clear hG
     go_wp2_with fail
     go_ret
     exact⟨rfl,HG.o⟩
end
end
end Go.Proofs.YtebbahjombdalaaGreatDoor
