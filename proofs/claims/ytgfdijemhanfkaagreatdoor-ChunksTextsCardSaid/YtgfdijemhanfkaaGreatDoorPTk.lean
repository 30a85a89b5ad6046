/- Steps of a region that draws its order, in short: their side conditions are shown by themselves. -/
import Derived.OrdersHeld
import Derived.Deep.RegionHeld
import Derived.RegionTactic
import Derived.WalkKit
import Derived.Lib.Hide
import Derived.WalkLawsBesides
import Derived.Laws.Rows
namespace Go.Proofs.YtgfdijemhanfkaaGreatDoor
abbrev Γ:=List (Nat×List UInt8)
abbrev Ξ:=List (Option (List UInt8))
abbrev Δ:=List Nat
abbrev Φ:=Nat->Prop
abbrev Ψ:=World->Prop
theorem ξx {α:Sort _} (a:α):∃v,v=a:=⟨a,rfl⟩
section
variable {G:Prop}
theorem κ(h:G:=by omega):G:=h
theorem η(h:G:=by kernel_rfl):G:=h
theorem ξ(h:G:=by decide):G:=h
theorem θ(h:G:=by rw[beq_eq_false_iff_ne];omega):G:=h
theorem ν(h:G:=by simp):G:=h
theorem υ(h:G:=by have:=aW.new W #[cx (av ⟨lX,lY,aK⟩) NL fJ,cx (av ⟨rg,ro,aK⟩) RL ij] 166;exact this):G:=h
theorem χ(h:G:=by cases h):G:=h
theorem ς(h:G:=by go_num):G:=h
theorem zat(h:G:=by unfold maxLen;omega):G:=h
theorem zau(h:G:=by have:=aW.new W #[cx (av ⟨lX,lY,aK⟩) NL fJ,cx (av ⟨rg,ro+3,aK⟩) (RL-1) (ij-1)] 166;exact this):G:=h
theorem zav(h:G:=by have:=aW.new W #[cx (av ⟨lX,lY,aK⟩) NL fJ,cx (av ⟨rg,ro,aK⟩) 0 0] 166;exact this):G:=h
theorem zaw(h:G:=by rw[d];exact (aW.new wr _ _).cell rfl):G:=h
theorem zax(h:G:=by simpa using h):G:=h
theorem zay(h:G:=by simp;omega):G:=h
theorem zaz(h:G:=by have:=c.o;omega):G:=h
theorem zaA(h:G:=by rw[IntKind.wrap_i64];omega):G:=h
theorem zaB(h:G:=by grind):G:=h
theorem zaC(h:G:=by rw[<-e];exact hr):G:=h
theorem zaD(h:G:=by have:=O.o;show s1.length+1<=1000000000;omega):G:=h
theorem zaE(h:G:=by rw[aJ];omega):G:=h
theorem zaF(h:G:=by rw[e];rfl):G:=h
theorem zaG(h:G:=by rw[IntWalk.i64_in _ κ];omega):G:=h
theorem zaH(h:G:=by cases e):G:=h
theorem zaI(h:G:=by rw[H]):G:=h
theorem zaJ(h:G:=by rw[d];exact (Below.refl _ wr).alloc (af _) _):G:=h
theorem zaK(h:G:=by rw[H];rfl):G:=h
theorem zaL(h:G:=by have:=a.o;omega):G:=h
theorem zaM(h:G:=by injection e with e;exact e.symm):G:=h
theorem zaN(h:G:=by have:=qY ks W κ;rw[F] at this;exact this):G:=h
theorem zaO(h:G:=by rw[Wl.cW,h.len];omega):G:=h
theorem zaP(h:G:=by rw[aG,decide_eq_false_iff_not];omega):G:=h
theorem zaQ(h:G:=by rw[aU];exact af _):G:=h
theorem zaR(h:G:=by simp only[World.size_drew,aY];omega):G:=h
theorem zaS(h:G:=by rw[aG];omega):G:=h
theorem zaT(h:G:=by rw[H];omega):G:=h
theorem zaU(h:G:=by have:=H.o;omega):G:=h
theorem zaV(h:G:=by rw[aq];omega):G:=h
theorem zaW(h:G:=by have:=h3.few;omega):G:=h
theorem zaX(h:G:=by have:=J.o.2.2.2.1;omega):G:=h
theorem zaY(h:G:=by simpa using H):G:=h
theorem zaZ(h:G:=by rw[beq_eq_false_iff_ne];intro e;exact hn (ff.1 κ)):G:=h
theorem zba(h:G:=by decide+kernel):G:=h
theorem zbb(h:G:=by rw[aG];have:=w.o;omega):G:=h
theorem zbc(h:G:=by rw[e];exact au):G:=h
theorem zbd(h:G:=by rw[Int.natCast_ediv];congr 1;rw[show (256:Nat)=2^8 from rfl,<-Nat.pow_mul,Int.natCast_pow];rfl):G:=h
theorem zbe(h:G:=by rw[aY];omega):G:=h
theorem zbf(h:G:=by have:=R.c1;rw[a.o.len,a.o.same.2.1,a.o.same.2.2.1,a.o.same.2.2.2.1] at this;exact this):G:=h
theorem zbg(h:G:=by have:=K.few;omega):G:=h
theorem zbh(h:G:=by simp only[aY];omega):G:=h
theorem zbi(h:G:=by rw[H];exact (Below.refl _ w).alloc (af _) _):G:=h
theorem zbj(h:G:=by show 1<=1000;decide):G:=h
theorem zbk(h:G:=by rw[bR];omega):G:=h
theorem zbl(h:G:=by rw[h4];exact au):G:=h
theorem zbm(h:G:=by rw[k,d];exact (aW.new wr _ _).cell rfl):G:=h
theorem zbn(h:G:=by have:=f.c1;rw[Td,Q] at this;rw[P.o.2.2.1,P.o.2.2.2.1,P.o.2.2.2.2.1];exact this):G:=h
theorem zbo(h:G:=by rw[r,l];exact (aW.new wr _ _).cell rfl):G:=h
theorem zbp(h:G:=by injection e):G:=h
theorem zbq(h:G:=by have:=FJ ks[k] f W r.o.2.2 r.o.1 (by have:=r.o;omega);rw[b,m] at this;exact this):G:=h
theorem zbr(h:G:=by rw[List.take_zero];exact Own.nil _ _ _ _):G:=h
theorem zbs(h:G:=by rw[IntKind.wrap_u64];omega):G:=h
theorem zbt(h:G:=by rw[aG,d.o];decide):G:=h
theorem zbu(h:G:=by rw[<-C.o];exact g):G:=h
end
theorem _root_.Go.RowKit.Hid.o {p:Prop} (h:Go.RowKit.Hid p):p:=h
theorem aa {p:Prop} (h:p):Go.RowKit.Hid p:=h
section
variable {P:Program} {ops:Array Oper} {Q:Exit→Act→World→Prop} {md:Region.Mode} {S:World→Prop} {oi:Oper} {v:Value} {fuel:Nat} {listed:Array Bool} {a:Act} {w:World}
/-- An operation that yields in whatever world. -/
theorem tk (i:Nat) (h:wpAny P md ops Q fuel (listed.setIfInBounds i true) (a.put oi.dst v) w)
    (hi:ops[i]?=some oi:=by simp only[List.getElem?_toArray,List.getElem?_cons_succ,List.getElem?_cons_zero];exact rfl)
    (hs:Region.noSelect ops=true:=by kernel_rfl) (hf:Region.free md ops listed i=true:=by kernel_rfl) (hr:(Region.ready md ops listed).contains i=true:=by kernel_rfl)
    (H:∀c a w,Q (.panic c) (a.put oi.dst v) w→Q (.panic c) a w:=by exact fun _ _ _ h=>h)
    (hg:Region.wanted oi (yielded ops a.tmps)=true:=by rfl) (hy:∀w,(execOp a.eval oi).run P w=.ok (.value v) w:=by intro w;go_simp;try with_reducible rfl):wpAny P md ops Q (fuel+1) listed a w:=
  wpAny_take hi hs hf hr H (.inl ⟨hg,hy⟩) h
/-- An operation whose guard says no. -/
theorem sk (i:Nat) (h:wpAny P md ops Q fuel (listed.setIfInBounds i true) (a.put oi.dst undef) w)
    (hi:ops[i]?=some oi:=by simp only[List.getElem?_toArray,List.getElem?_cons_succ,List.getElem?_cons_zero];exact rfl)
    (hs:Region.noSelect ops=true:=by kernel_rfl) (hf:Region.free md ops listed i=true:=by kernel_rfl) (hr:(Region.ready md ops listed).contains i=true:=by kernel_rfl)
    (H:∀c a w,Q (.panic c) (a.put oi.dst undef) w→Q (.panic c) a w:=by exact fun _ _ _ h=>h)
    (hg:Region.wanted oi (yielded ops a.tmps)=false:=by rfl):wpAny P md ops Q (fuel+1) listed a w:=
  wpAny_take hi hs hf hr H (.inr ⟨hg,rfl⟩) h
theorem OO (i:Nat) (hS:S w) (h:wpAnyH P md ops Q S fuel (listed.setIfInBounds i true) (a.put oi.dst undef) w)
    (hi:ops[i]?=some oi:=by simp only[List.getElem?_toArray,List.getElem?_cons_succ,List.getElem?_cons_zero];exact rfl)
    (hs:Region.noSelect ops=true:=by kernel_rfl) (hf:Region.free md ops listed i=true:=by kernel_rfl) (hr:(Region.ready md ops listed).contains i=true:=by kernel_rfl)
    (H:∀c a w,Q (.panic c) (a.put oi.dst undef) w→Q (.panic c) a w:=by exact fun _ _ _ h=>h)
    (hg:Region.wanted oi (yielded ops a.tmps)=false:=by rfl):wpAnyH P md ops Q S (fuel+1) listed a w:=
  wpAnyH_take hi hs hf hr H (.inr ⟨hg,rfl⟩) hS h
/-- The same, where the held cells may be read. -/
theorem aR (i:Nat) (hS:S w) (h:wpAnyH P md ops Q S fuel (listed.setIfInBounds i true) (a.put oi.dst v) w)
    (hi:ops[i]?=some oi:=by simp only[List.getElem?_toArray,List.getElem?_cons_succ,List.getElem?_cons_zero];exact rfl)
    (hs:Region.noSelect ops=true:=by kernel_rfl) (hf:Region.free md ops listed i=true:=by kernel_rfl) (hr:(Region.ready md ops listed).contains i=true:=by kernel_rfl)
    (H:∀c a w,Q (.panic c) (a.put oi.dst v) w→Q (.panic c) a w:=by exact fun _ _ _ h=>h)
    (hg:Region.wanted oi (yielded ops a.tmps)=true:=by rfl)
    (hy:∀w,S w→(execOp a.eval oi).run P w=.ok (.value v) w:=by intro w V;obtain⟨s0,s1⟩:=V;go_simp;try with_reducible rfl):wpAnyH P md ops Q S (fuel+1) listed a w:=wpAnyH_take hi hs hf hr H (.inl ⟨hg,hy⟩) hS h
theorem CZ (i:Nat) (hS:S w) (h:wpAnyH P md ops Q S fuel (listed.setIfInBounds i true) (a.put oi.dst v) w)
    (hi:ops[i]?=some oi:=by simp only[List.getElem?_toArray,List.getElem?_cons_succ,List.getElem?_cons_zero];exact rfl)
    (hs:Region.noSelect ops=true:=by kernel_rfl) (hf:Region.free md ops listed i=true:=by kernel_rfl) (hr:(Region.ready md ops listed).contains i=true:=by kernel_rfl)
    (H:∀c a w,Q (.panic c) (a.put oi.dst v) w→Q (.panic c) a w:=by exact fun _ _ _ h=>h)
    (hg:Region.wanted oi (yielded ops a.tmps)=true:=by rfl)
    (hy:∀w,S w→(execOp a.eval oi).run P w=.ok (.value v) w:=by intro w V;obtain⟨s0,s1,s2⟩:=V;go_simp;try with_reducible rfl):wpAnyH P md ops Q S (fuel+1) listed a w:=wpAnyH_take hi hs hf hr H (.inl ⟨hg,hy⟩) hS h
theorem cN (i:Nat) (hS:S w) (h:wpAnyH P md ops Q S fuel (listed.setIfInBounds i true) (a.put oi.dst v) w)
    (hi:ops[i]?=some oi:=by simp only[List.getElem?_toArray,List.getElem?_cons_succ,List.getElem?_cons_zero];exact rfl)
    (hs:Region.noSelect ops=true:=by kernel_rfl) (hf:Region.free md ops listed i=true:=by kernel_rfl) (hr:(Region.ready md ops listed).contains i=true:=by kernel_rfl)
    (H:∀c a w,Q (.panic c) (a.put oi.dst v) w→Q (.panic c) a w:=by exact fun _ _ _ h=>h)
    (hg:Region.wanted oi (yielded ops a.tmps)=true:=by rfl)
    (hy:∀w,S w→(execOp a.eval oi).run P w=.ok (.value v) w:=by intro w V;obtain⟨s0,s1,s2,s⟩:=V;go_simp;try with_reducible rfl):wpAnyH P md ops Q S (fuel+1) listed a w:=wpAnyH_take hi hs hf hr H (.inl ⟨hg,hy⟩) hS h
theorem ad5 (i:Nat) (hS:S w) (h:wpAnyH P md ops Q S fuel (listed.setIfInBounds i true) (a.put oi.dst v) w)
    (hi:ops[i]?=some oi:=by simp only[List.getElem?_toArray,List.getElem?_cons_succ,List.getElem?_cons_zero];exact rfl)
    (hs:Region.noSelect ops=true:=by kernel_rfl) (hf:Region.free md ops listed i=true:=by kernel_rfl) (hr:(Region.ready md ops listed).contains i=true:=by kernel_rfl)
    (H:∀c a w,Q (.panic c) (a.put oi.dst v) w→Q (.panic c) a w:=by exact fun _ _ _ h=>h)
    (hg:Region.wanted oi (yielded ops a.tmps)=true:=by rfl)
    (hy:∀w,S w→(execOp a.eval oi).run P w=.ok (.value v) w:=by intro w V;repeat (obtain⟨_,V⟩:=V);go_simp;try with_reducible rfl):wpAnyH P md ops Q S (fuel+1) listed a w:=wpAnyH_take hi hs hf hr H (.inl ⟨hg,hy⟩) hS h
theorem rd (rs:List Nat) (h:AllReady P md ops Q fuel listed a w rs) (hr:Region.ready md ops listed=rs:=by kernel_rfl) (H:rs≠[]:=by simp):wpAny P md ops Q (fuel+1) listed a w:=wpAny_ready hr H h
theorem fL (rs:List Nat) (h:AllReadyH P md ops Q S fuel listed a w rs) (hr:Region.ready md ops listed=rs:=by kernel_rfl) (H:rs≠[]:=by simp):wpAnyH P md ops Q S (fuel+1) listed a w:=wpAnyH_ready hr H h
theorem rn {i:Nat} {o:Oper} (h:∀K':Act→World→Prop,(∀a w,wpAny P md ops Q fuel (listed.setIfInBounds i true) a w→K' a w)→if Region.wanted o (yielded ops a.tmps)=true then Oper.wp P o a w K' Q else K' (a.put o.dst undef) w) (H:ops[i]?=some o:=by exact rfl):AllReady P md ops Q fuel listed a w [i]:=AllReady.cons H h AllReady.nil
theorem fM {i:Nat} {o:Oper} (h:∀K':Act→World→Prop,Shut (∀a w,S w→(S w→wpAnyH P md ops Q S fuel (listed.setIfInBounds i true) a w)→K' a w)→if Region.wanted o (yielded ops a.tmps)=true then Oper.wp P o a w K' Q else K' (a.put o.dst undef) w) (H:ops[i]?=some o:=by exact rfl):AllReadyH P md ops Q S fuel listed a w [i]:=AllReadyH.cons H h AllReadyH.nil
end
end Go.Proofs.YtgfdijemhanfkaaGreatDoor
