import Derived.Test.YtgjekaaknjgnmaaGreatDoorAg
import Derived.Conc.AppendWalk
import Derived.Laws.StructEq
set_option linter.all false
set_option maxHeartbeats 40000000
set_option maxRecDepth 200000
namespace Go.Proofs.Kz
open Go.Proofs.Tryz
open Go.Proofs.Tryz renaming prog → ar
open _root_.ByteArray renaming empty → aN
open Go.Ren Go.Conc Go.Proofs
section
variable {T:cP} {i:Nat} {V:Nat->ae->Prop} {E:bH} {rc:Nat->Prop} {o:aM} {w:ae}
theorem Kr(hW:qt T i)(hq:Quiet T 1)(r:Int)(hr:r=1\/r=2\/r=3\/r=4)(b:Nat)(vs:List Kz.V)(hn:vs.length<=100000)(hm:iM (vs.map (·.2))<=1000000)(sd:cnt vs<vs.length)(fD:fT T o w)(hb:o b)(ht:eM w b vs)(hp:jB w):
  bp ar (XW ar T i V E rc) 163 #[.int .i64 r,.slice (some ⟨b,0,none⟩) vs.length vs.length] o w fun v o' w'=>v=.agg #[.bool (jC r vs).1,.string (jC r vs).2]/\cB T i rc o w o' w':=by
 have W:=cv (P:=ar) (T:=T) (i:=i) (V:=V) (E:=E) rc;have SP:¬r=5:=aa;have NJ:(r==5)=false:=by simpa using SP
 have eY:=Bv vs;have bZ:(cnt vs:Int)<(vs.length:Int):=aa;refine dJ W func163 ai ?_;refine aA ?_;refine mI hW.ok hW.i fD rfl ai rfl (Obj.cells #[.bool false,.string aN] 159) (fun w1=>by simp[go_sem];rfl) (fun w1=>fa) fun A o1 w1 l1 hA lY O2 EL=>?_;try walk_nrm
 refine aA ?_;have Gd:eM w1 b vs:=ht.of_block (l1.rel.own b hb);refine aF W rfl ai rfl func196 af rfl aC rfl ((E4 hW b vs hn l1.ok (l1.more b hb) Gd).mono ?_);rintro v o2 w2 ⟨rfl,l2⟩;try walk_nrm
 refine aA ?_;have XI:o2 A:=l2.more A hA;have lL:cB T i rc o w o2 w2:=l1.trans l2;have rZ:w2.heap[A]?=some (Obj.cells #[.bool false,.string aN] 159):=by rw[l2.rel.own A hA,lY]
 have cellsOf:∀{w4:ae} {x s:Value},w4.heap[A]?=some (Obj.cells #[x,s] 159)->w4.cell? ⟨A,0,none⟩=some x/\w4.cell? ⟨A,1,none⟩=some s/\w4.frozen? ⟨A,0,none⟩=false/\w4.frozen? ⟨A,1,none⟩=false:=fun h=>by simp[World.cell?,World.frozen?,h]
 refine pf hW.ok hW.i lL.ok rfl ai A XI (f:=fun w4=>(w4.setCell ⟨A,0,none⟩ (.bool false)).setCell ⟨A,1,none⟩ (.string aN)) (fun w4 h4=>?_) (fun w4=>(gx.set _ _ _ _).trans (gx.set _ _ _ _)) (fun w4 h4 e he=>?_) fun w4 h4 l4=>?_
 ·obtain⟨c0,c1,f0,f1⟩:=cellsOf (h4.trans rZ);simp[go_sem,c0,c1,f0,f1];rfl
 ·obtain⟨c0,c1,f0,f1⟩:=cellsOf (h4.trans rZ);have Cp:(w4.setCell ⟨A,0,none⟩ (.bool false)).cell? ⟨A,1,none⟩=some (.string aN):=by rw[World.cell?_setCell_other _ _ _ _ an];exact c1
  have XH:(w4.setCell ⟨A,0,none⟩ (.bool false)).frozen? ⟨A,1,none⟩=false:=by simpa using f1
  simp[go_sem,c0,c1,f0,f1] at he;rw[cD _ _ c0 f0 rfl,cD _ _ Cp XH rfl] at he;simp at he;rcases he with rfl|rfl;all_goals exact⟨_,_,_,rfl,rfl⟩
 try walk_nrm
 refine aA ?_;have mq:((w4.setCell ⟨A,0,none⟩ (.bool false)).setCell ⟨A,1,none⟩ (.string aN)).heap[A]?=some (Obj.cells #[.bool false,.string aN] 159):=by
  simp[World.setCell,Array.getElem?_modify,h4.trans rZ]
 generalize (w4.setCell ⟨A,0,none⟩ (.bool false)).setCell ⟨A,1,none⟩ (.string aN)=w5 at *;have QD:¬o A:=fun h=>by have:=(fD.tK A h).2;omega
 refine⟨.inr trivial,trivial,.agg #[.bool false,.string aN],fun w6 h6=>?_,by simp[jC, *],((lL.vn (A:=A)).trans l4).later QD⟩;obtain⟨c0,c1,f0,f1⟩:=cellsOf ((h6.own A XI).trans mq);refine⟨by simp[results,results163,go_sem,c0,c1],fun es GJ=>⟨.refl _ _,fun e he=>?_⟩⟩;have:=GJ e he;simp[results,results163,go_sem,c0,c1] at this;rcases this with rfl|rfl;all_goals exact wu (.inl XI)
theorem QE(hW:qt T i)(hq:Quiet T 1)(r:Int)(hr:r=1\/r=2\/r=3\/r=4)(b:Nat)(vs:List Kz.V)(hn:vs.length<=100000)(hm:iM (vs.map (·.2))<=1000000)(sd:¬cnt vs<vs.length)(fD:fT T o w)(hb:o b)(ht:eM w b vs)(hp:jB w):
  bp ar (XW ar T i V E rc) 163 #[.int .i64 r,.slice (some ⟨b,0,none⟩) vs.length vs.length] o w fun v o' w'=>v=.agg #[.bool (jC r vs).1,.string (jC r vs).2]/\cB T i rc o w o' w':=by
 have W:=cv (P:=ar) (T:=T) (i:=i) (V:=V) (E:=E) rc;have SP:¬r=5:=aa;have NJ:(r==5)=false:=by simpa using SP
 have eY:=Bv vs;have bZ:¬(cnt vs:Int)<(vs.length:Int):=aa;refine dJ W func163 ai ?_;refine aA ?_;refine mI hW.ok hW.i fD rfl ai rfl (Obj.cells #[.bool false,.string aN] 159) (fun w1=>by simp[go_sem];rfl) (fun w1=>fa) fun A o1 w1 l1 hA lY O2 EL=>?_;try walk_nrm
 refine aA ?_;have Gd:eM w1 b vs:=ht.of_block (l1.rel.own b hb);refine aF W rfl ai rfl func196 af rfl aC rfl ((E4 hW b vs hn l1.ok (l1.more b hb) Gd).mono ?_);rintro v o2 w2 ⟨rfl,l2⟩;try walk_nrm
 refine aA ?_;have I2:eM w2 b vs:=Gd.of_block (l2.rel.own b (l1.more b hb));refine aF W rfl ai rfl func199 af rfl aC rfl ((NI hW b vs hn l2.ok (l2.more b (l1.more b hb)) I2).mono ?_);rintro v o3 w3 ⟨B,rfl,hB,htx,l3⟩;try walk_nrm
 refine aA ?_;refine aF W rfl ai rfl func198 af rfl aC rfl ((NH hW hq r hr B (vs.map (·.2)) (by simpa using hn) hm l3.ok hB htx (((hp.later hq l1).later hq l2).later hq l3)).mono ?_);rintro v o4 w9 ⟨rfl,l9⟩;try walk_nrm
 refine aA ?_;have XI:o4 A:=l9.more A (l3.more A (l2.more A hA));have lL:cB T i rc o w o4 w9:=((l1.trans l2).trans l3).trans l9;have rZ:w9.heap[A]?=some (Obj.cells #[.bool false,.string aN] 159):=by rw[l9.rel.own A (l3.more A (l2.more A hA)),l3.rel.own A (l2.more A hA),l2.rel.own A hA,lY]
 have cellsOf:∀{w4:ae} {x s:Value},w4.heap[A]?=some (Obj.cells #[x,s] 159)->w4.cell? ⟨A,0,none⟩=some x/\w4.cell? ⟨A,1,none⟩=some s/\w4.frozen? ⟨A,0,none⟩=false/\w4.frozen? ⟨A,1,none⟩=false:=fun h=>by simp[World.cell?,World.frozen?,h]
 refine pf hW.ok hW.i lL.ok rfl ai A XI (f:=fun w4=>(w4.setCell ⟨A,0,none⟩ (.bool true)).setCell ⟨A,1,none⟩ (.string (lh r (vs.map (·.2))))) (fun w4 h4=>?_) (fun w4=>(gx.set _ _ _ _).trans (gx.set _ _ _ _)) (fun w4 h4 e he=>?_) fun w4 h4 l4=>?_
 ·obtain⟨c0,c1,f0,f1⟩:=cellsOf (h4.trans rZ);simp[go_sem,c0,c1,f0,f1]
 ·obtain⟨c0,c1,f0,f1⟩:=cellsOf (h4.trans rZ);have Cp:(w4.setCell ⟨A,0,none⟩ (.bool true)).cell? ⟨A,1,none⟩=some (.string aN):=by rw[World.cell?_setCell_other _ _ _ _ an];exact c1
  have XH:(w4.setCell ⟨A,0,none⟩ (.bool true)).frozen? ⟨A,1,none⟩=false:=by simpa using f1
  simp[go_sem,c0,c1,f0,f1] at he;rw[cD _ _ c0 f0 rfl,cD _ _ Cp XH rfl] at he;simp at he;rcases he with rfl|rfl;all_goals exact⟨_,_,_,rfl,rfl⟩
 try walk_nrm
 refine aA ?_;have mq:((w4.setCell ⟨A,0,none⟩ (.bool true)).setCell ⟨A,1,none⟩ (.string (lh r (vs.map (·.2))))).heap[A]?=some (Obj.cells #[.bool true,.string (lh r (vs.map (·.2)))] 159):=by
  simp[World.setCell,Array.getElem?_modify,h4.trans rZ]
 generalize (w4.setCell ⟨A,0,none⟩ (.bool true)).setCell ⟨A,1,none⟩ (.string (lh r (vs.map (·.2))))=w5 at *;have QD:¬o A:=fun h=>by have:=(fD.tK A h).2;omega
 refine⟨.inr trivial,trivial,.agg #[.bool true,.string (lh r (vs.map (·.2)))],fun w6 h6=>?_,by simp[jC, *],((lL.vn (A:=A)).trans l4).later QD⟩;obtain⟨c0,c1,f0,f1⟩:=cellsOf ((h6.own A XI).trans mq);refine⟨by simp[results,results163,go_sem,c0,c1],fun es GJ=>⟨.refl _ _,fun e he=>?_⟩⟩;have:=GJ e he;simp[results,results163,go_sem,c0,c1] at this;rcases this with rfl|rfl;all_goals exact wu (.inl XI)
end
theorem mixed:ar.follows .mixedOrders=true:=af
theorem fA{t:Array Value}{n:Nat}(h:t.size=n):∃gs:Nat->Value,t=((List.range n).map gs).toArray:=by
 refine⟨fun k=>t.getD k undef,?_⟩;subst h;apply iF
 ·simp
 ·intro i h1 h2;simp[Array.getD_eq_getD_getElem?,h1]
structure mf where
 n:Nat
 bn:Nat
 Lb:Nat
 Lo:Nat
 St:Nat
 Vb:Nat
 Rb:Nat
 Nb:Nat
 Mb:Nat
 jm:Nat->Int
 ins:Nat->List (Bool×Nat)
 cw:Nat->Nat
 lj:List V
 ch:Nat->Nat
structure kG(D:mf)(w:ae):Prop where
 b0:w.cell? ⟨D.bn,0,none⟩=some (.pointer (some ⟨D.Lb,D.Lo,none⟩))
 b1:w.cell? ⟨D.bn,1,none⟩=some (.slice (some ⟨D.Vb,0,none⟩) D.lj.length D.lj.length)
 b2:w.cell? ⟨D.bn,2,none⟩=some (.slice (some ⟨D.Rb,0,none⟩) D.n D.n)
 b3:w.cell? ⟨D.bn,3,none⟩=some (.slice (some ⟨D.Nb,0,none⟩) D.n D.n)
 b4:w.cell? ⟨D.bn,4,none⟩=some (.slice (some ⟨D.Mb,0,none⟩) D.n D.n)
 steps:w.cell? ⟨D.Lb,D.Lo,none⟩=some (.slice (some ⟨D.St,0,none⟩) D.n D.n)
 eD:∀s,s<D.n->w.cell? ⟨D.St,s*3+1,none⟩=some (.int .i64 (D.jm s))
 zJ:∀s,s<D.n->w.cell? ⟨D.St,s*3+2,none⟩=some (.slice (some ⟨D.cw s,0,none⟩) (D.ins s).length (D.ins s).length)
 Bw:∀s,s<D.n->∀j (h:j<(D.ins s).length),w.cell? ⟨D.cw s,j*2,none⟩=some (.bool (D.ins s)[j].1)/\w.cell? ⟨D.cw s,j*2+1,none⟩=some (.int .i64 (D.ins s)[j].2)
 lj:vt w D.Vb 0 D.lj
 made:∀s,s<D.n->w.cell? ⟨D.Mb,s,none⟩=some (.chan (some (D.ch s)))
structure yd(D:mf)(T:cP)(ord:Nat->Nat):Prop where
 Cx:Quiet T D.bn
 XJ:Quiet T D.Lb
 XK:Quiet T D.St
 Zm:Quiet T D.Vb
 qMb:Quiet T D.Mb
 NK:∀s,s<D.n->Quiet T (D.cw s)
 pI:∀i,i<T.n->ord i<D.n
 ch:∀i,i<T.n->T.ch i=D.ch (ord i)
 own:∀i l,T.js i l↔i<T.n/\((∃j,j<4/\l=.cell ⟨D.Rb,ord i*4+j,none⟩)\/l=.cell ⟨D.Nb,ord i,none⟩)
 O3:T.Sh D.Rb
 VR:T.Sh D.Nb
 apart:D.Rb≠D.Nb
 dep:∀i,i<T.n->∀m,(true,m)∈D.ins (ord i)->∃k,k<T.n/\ord k=m/\T.dep i k
 src:∀s,s<D.n->∀m,(false,m)∈D.ins s->m<D.lj.length
 short:∀s,s<D.n->(D.ins s).length<=4
 gT:D.n<=100000
 TV:D.lj.length<=100000
section
variable {D:mf} {T:cP} {ord:Nat->Nat} {i:Nat} {o rc:Nat->Prop} {w w1:ae}
theorem kG.later(h:kG D w)(q:yd D T ord)(r:cF T i o rc w w1):kG D w1:=by
 constructor
 ·rw[q.Cx.cell r];exact h.b0
 ·rw[q.Cx.cell r];exact h.b1
 ·rw[q.Cx.cell r];exact h.b2
 ·rw[q.Cx.cell r];exact h.b3
 ·rw[q.Cx.cell r];exact h.b4
 ·rw[q.XJ.cell r];exact h.steps
 ·intro s hs;rw[q.XK.cell r];exact h.eD s hs
 ·intro s hs;rw[q.XK.cell r];exact h.zJ s hs
 ·intro s hs j hj;rw[(q.NK s hs).cell r,(q.NK s hs).cell r];exact h.Bw s hs j hj
 ·intro k hk;rw[q.Zm.cell r,q.Zm.cell r];exact h.lj k hk
 ·intro s hs;rw[q.qMb.cell r];exact h.made s hs
theorem kG.HH(h:kG D w)(q:yd D T ord)(r:∀b,Quiet T b->w1.heap[b]?=w.heap[b]?):kG D w1:=by
 have rc:∀{b off},Quiet T b->w1.cell? ⟨b,off,none⟩=w.cell? ⟨b,off,none⟩:=fun hb=>cell_of (r _ hb);constructor
 ·rw[rc q.Cx];exact h.b0
 ·rw[rc q.Cx];exact h.b1
 ·rw[rc q.Cx];exact h.b2
 ·rw[rc q.Cx];exact h.b3
 ·rw[rc q.Cx];exact h.b4
 ·rw[rc q.XJ];exact h.steps
 ·intro s hs;rw[rc q.XK];exact h.eD s hs
 ·intro s hs;rw[rc q.XK];exact h.zJ s hs
 ·intro s hs j hj;rw[rc (q.NK s hs),rc (q.NK s hs)];exact h.Bw s hs j hj
 ·intro k hk;rw[rc q.Zm,rc q.Zm];exact h.lj k hk
 ·intro s hs;rw[rc q.qMb];exact h.made s hs
theorem cF.nX{mX:Nat->Prop}(DH:∀k,rc k->mX k)(h:cF T i o mX w w1):cF T i o rc w w1 :=
 ⟨h.size,h.own,h.ro,h.sh,fun a ha=>h.mine a (ha.imp id fun⟨k,hk,hl⟩=>⟨k,DH k hk,hl⟩),h.chan,h.A0,h.wg,h.os,h.output⟩
theorem mK{o':aM}{w2:ae}(h:cB T i rc o w o' w1)(hr:cF T i o' rc w1 w2):cB T i rc o w o' w2 :=
 ⟨h.rel.trans (hr.less h.more),⟨fun b hb=>⟨(h.ok.tK b hb).1,bm (h.ok.tK b hb).2 hr.size⟩,aR h.ok.size hr.size⟩,h.more⟩
theorem eT{b off:Nat}{sy:Bool}(h:Quiet T b):LF T i o rc ⟨.cell ⟨b,off,none⟩,false,sy⟩:=sZ (.inr (.inr (.inr (h.ro off))))
theorem nD{b off:Nat}{wt sy:Bool}(h:o b):LF T i o rc ⟨.cell ⟨b,off,none⟩,wt,sy⟩:=wu h
end
section
variable {P:Program} {T:cP} {i:Nat} {V:Nat->ae->Prop} {E:bH} {rc o:Nat->Prop} {w:ae}
theorem s9(hT:T.OK)(hi:i<T.n){fn:FuncId}{Q:Exit->Act->aM->ae->Prop}{a:Act}(fD:fT T o w){ops:Array Oper}{j:Nat}{rest:List Nat}{op:Oper}(ho:ops[j]?=some op)(hw:Region.wanted op (yielded ops a.tmps)=true)(A off:Nat)(hA:o A){t n:Nat}{g:Nat->Value}(hr:w.rowIs A t n g)(h0:off+1<n)(x y:Value)(hx:x.oneCell'=true)(hy:y.oneCell'=true)(cm:∀w1,w1.cell? ⟨A,off,none⟩=some (g off)->w1.cell? ⟨A,off+1,none⟩=some (g (off+1))->(∀k,w1.frozen? ⟨A,k,none⟩=false)->(execOp a.eval op).run P w1=.ok .skip ((w1.setCell ⟨A,off,none⟩ x).setCell ⟨A,off+1,none⟩ y))(iH:∀w1,w1.cell? ⟨A,off,none⟩=some (g off)->w1.cell? ⟨A,off+1,none⟩=some (g (off+1))->(∀k,w1.frozen? ⟨A,k,none⟩=false)->∃m m',(execOp a.eval op).events P w1 #[]=(store ⟨A,off+1,none⟩ y m').events P (w1.setCell ⟨A,off,none⟩ x) ((store ⟨A,off,none⟩ x m).events P w1 #[]))(h:∀w2,p5 T i rc A o w o w2->w2.rowIs A t n (fun k=>if k=off+1 then y else if k=off then x else g k)->fu (XW P T i V E rc) fn ops rest Q (a.put op.dst undef) o w2):fu (XW P T i V E rc) fn ops (j::rest) Q a o w:=by
 refine pf hT hi fD ho hw A hA (f:=fun w4=>(w4.setCell ⟨A,off,none⟩ x).setCell ⟨A,off+1,none⟩ y) (fun w1 h1=>?_) (fun w4=>(gx.set _ _ _ _).trans (gx.set _ _ _ _)) (fun w1 h1 e he=>?_) fun w1 h1 l1=>?_
 ·have kR:=hr.of_block h1;exact cm w1 (kR.cell aa) (kR.cell h0) kR.frozen
 ·have kR:=hr.of_block h1;obtain⟨m,m',e1⟩:=iH w1 (kR.cell aa) (kR.cell h0) kR.frozen;rw[e1] at he;have Cp:(w1.setCell ⟨A,off,none⟩ x).cell? ⟨A,off+1,none⟩=some (g (off+1)):=by rw[World.cell?_setCell_other _ _ _ _ an];exact kR.cell h0
  have XH:(w1.setCell ⟨A,off,none⟩ x).frozen? ⟨A,off+1,none⟩=false:=(kR.set off x).frozen _;rw[cD _ _ (kR.cell aa) (kR.frozen _) hx,cD _ _ Cp XH hy] at he;simp at he;rcases he with rfl|rfl;all_goals exact⟨_,_,_,rfl,rfl⟩
 ·have kR:=hr.of_block h1;exact h _ l1 ((kR.set off x).set (off+1) y)
theorem HI(hT:T.OK)(hi:i<T.n){fn:FuncId}{Q:Exit->Act->aM->ae->Prop}{a:Act}(fD:fT T o w){ops:Array Oper}{j:Nat}{rest:List Nat}{op:Oper}(ho:ops[j]?=some op)(hw:Region.wanted op (yielded ops a.tmps)=true)(A:Nat)(hA:o A){t:Nat}{g:Nat->Value}(hr:w.rowIs A t 4 g)(x y u v:Value)(hx:x.oneCell'=true)(hy:y.oneCell'=true)(hu:u.oneCell'=true)(hv:v.oneCell'=true)(cm:∀w1,(∀k,k<4->w1.cell? ⟨A,k,none⟩=some (g k))->(∀k,w1.frozen? ⟨A,k,none⟩=false)->(execOp a.eval op).run P w1=.ok .skip ((((w1.setCell ⟨A,0,none⟩ x).setCell ⟨A,1,none⟩ y).setCell ⟨A,2,none⟩ u).setCell ⟨A,3,none⟩ v))(iH:∀w1,(∀k,k<4->w1.cell? ⟨A,k,none⟩=some (g k))->(∀k,w1.frozen? ⟨A,k,none⟩=false)->∃m,(execOp a.eval op).events P w1 #[]=(store ⟨A,3,none⟩ v m).events P (((w1.setCell ⟨A,0,none⟩ x).setCell ⟨A,1,none⟩ y).setCell ⟨A,2,none⟩ u) ((store ⟨A,2,none⟩ u m).events P ((w1.setCell ⟨A,0,none⟩ x).setCell ⟨A,1,none⟩ y) ((store ⟨A,1,none⟩ y m).events P (w1.setCell ⟨A,0,none⟩ x) ((store ⟨A,0,none⟩ x m).events P w1 #[]))))(h:∀w2,p5 T i rc A o w o w2->w2.rowIs A t 4 (fun k=>if k=3 then v else if k=2 then u else if k=1 then y else if k=0 then x else g k)->fu (XW P T i V E rc) fn ops rest Q (a.put op.dst undef) o w2):fu (XW P T i V E rc) fn ops (j::rest) Q a o w:=by
 refine pf hT hi fD ho hw A hA (f:=fun w4=>(((w4.setCell ⟨A,0,none⟩ x).setCell ⟨A,1,none⟩ y).setCell ⟨A,2,none⟩ u).setCell ⟨A,3,none⟩ v) (fun w1 h1=>?_) (fun w4=>(((gx.set _ _ _ _).trans (gx.set _ _ _ _)).trans (gx.set _ _ _ _)).trans (gx.set _ _ _ _)) (fun w1 h1 e he=>?_) fun w1 h1 l1=>?_
 ·have kR:=hr.of_block h1;exact cm w1 (fun k hk=>kR.cell hk) kR.frozen
 ·have kR:=hr.of_block h1;obtain⟨m,e1⟩:=iH w1 (fun k hk=>kR.cell hk) kR.frozen;have r1:=kR.set 0 x;have r2:=r1.set 1 y;have r3:=r2.set 2 u;rw[e1,cD _ _ (kR.cell (i:=0) aa) (kR.frozen _) hx,cD _ _ (r1.cell (i:=1) aa) (r1.frozen _) hy,cD _ _ (r2.cell (i:=2) aa) (r2.frozen _) hu,cD _ _ (r3.cell (i:=3) aa) (r3.frozen _) hv] at he;simp at he;rcases he with rfl|rfl|rfl|rfl;all_goals exact⟨_,_,_,rfl,rfl⟩
 ·have kR:=hr.of_block h1;exact h _ l1 ((((kR.set 0 x).set 1 y).set 2 u).set 3 v)
end
theorem QF(d:Nat)(a b:Bool)(w:ae)(es:Array Event):(Op.equalIn (d+1) 4 (.bool a) (.bool b)).events ar w es=es:=by
 simp[Op.equalIn,go_sem,Sem.events_bind,events_underlying]
theorem Ks(d:Nat)(a b:ah)(w:ae)(es:Array Event):(Op.equalIn (d+1) 9 (.string a) (.string b)).events ar w es=es:=by
 simp[Op.equalIn,go_sem,Sem.events_bind,events_underlying]
theorem NL(e:Nat)(w:ae)(es:Array Event)(a c:Bool)(b d:ah):(Op.equalIn (e+2) 159 (.agg #[.bool a,.string b]) (.agg #[.bool c,.string d])).events ar w es=es:=by
 rw[Op.equalIn];simp[go_sem,Sem.events_bind,QF,Ks]
theorem p8(w:ae)(a c:Bool)(b d:ah):(binOp .neq 159 (.agg #[.bool a,.string b]) (.agg #[.bool c,.string d])).run ar w=.ok (.bool (!decide ((a,b)=(c,d)))) w:=by
 have e:b.toList=d.toList↔b=d:=by
  rw[ByteArray.toList_eq,ByteArray.toList_eq];constructor
  ·intro h;obtain⟨⟨x⟩⟩:=b;obtain⟨⟨y⟩⟩:=d;have h:x=y:=h;rw[h]
  ·rintro rfl;rfl
 simp[go_sem,e];by_cases h1:a=c<;>by_cases h2:b=d<;>simp[h1,h2]
theorem uO(w:ae)(es:Array Event)(a c:Bool)(b d:ah):(binOp .neq 159 (.agg #[.bool a,.string b]) (.agg #[.bool c,.string d])).events ar w es=es:=by
 simp only[binOp];simp[Op.equal,Op.maxDepth,Sem.events_bind,NL 9998]
theorem pR(op:BinOp)(x y:Operand)(xs ys:Array Value)(w:ae)(es:Array Event):(eqGuard op 159 x y (.agg xs) (.agg ys)).events ar w es=es:=by
 cases op<;>simp[eqGuard,run_program,Sem.events_bind,show ar.eqGuardType ar.depth 159=false by kernel_rfl]
section
variable {T:cP} {i:Nat} {V:Nat->ae->Prop} {E:bH} {rc:Nat->Prop} {o:aM} {w:ae}
structure EqI(T:cP)(i:Nat)(rc:Nat->Prop)(o0:aM)(w0:ae)(B A:Nat)(xs ys:List Kz.V)(j:Nat)(a:Act)(o:aM)(w:ae):Prop where
 size:a.tmps.size=26
 df:a.defers=[]
 t0:a.eval (.tmp 0)=.slice (some ⟨B,0,none⟩) xs.length xs.length
 t1:a.eval (.tmp 1)=.slice (some ⟨A,0,none⟩) xs.length xs.length
 t12:a.eval (.tmp 12)=.int .i64 xs.length
 t13:a.eval (.tmp 13)=.int .i64 j
 eq:xs.take j=ys.take j
 lat:cB T i rc o0 w0 o w
theorem TW(hW:qt T i)(B A:Nat)(xs ys:List Kz.V)(hlen:xs.length<=100000)(hly:ys.length<=100000)(fD:fT T o w)(hB:Quiet T B)(hx:vt w B 0 xs)(hA:o A)(hy:vt w A 0 ys):
  bp ar (XW ar T i V E rc) 162 #[.slice (some ⟨B,0,none⟩) xs.length xs.length,.slice (some ⟨A,0,none⟩) ys.length ys.length] o w fun v o' w'=>v=.bool (decide (xs=ys))/\cB T i rc o w o' w':=by
 have W:=cv (P:=ar) (T:=T) (i:=i) (V:=V) (E:=E) rc;refine bA W func162 ai ?_;by_cases hl:xs.length=ys.length
 case neg =>
  have cV:¬xs=ys:=fun e=>hl (by rw[e]);have ht:((xs.length:Int) != (ys.length:Int))=true:=eR;refine aA ?_;exact⟨.inr trivial,trivial,_,resultsC_tmp (t:=4) ai _,by simp[Act.eval,cV],.refl fD⟩
 have Ge:ys.length=xs.length:=hl.symm;clear hl;refine aA ?_;refine nu W (fun n a o' w'=>∃j,n+j=xs.length/\EqI T i rc o w B A xs ys j a o' w') (N:=xs.length) ⟨0,an,rfl,rfl,aC,by simp[Act.eval,Ge],aC,aC,an,.refl fD⟩ ?_;rintro n a o1 w1 ⟨j,hnj,ft,pF,t0,t1,t12,t13,heq,vu⟩;obtain⟨tm,df⟩:=a;simp only at ft pF;subst pF;obtain⟨gs,rfl⟩:=fA ft;simp only[List.range,List.range.loop,List.map_cons,List.map_nil] at *;simp[Act.eval] at t0 t1 t12 t13;simp only[t0,t1,t12,t13];rcases aZ n with hn|hn
 ·have hj:j=xs.length:=aa;subst hj;refine aA ?_;refine⟨.inr trivial,trivial,_,resultsC_tmp (t:=4) ai _,?_,vu⟩;have:xs=ys:=by rw[dz,<- Ge,dz] at heq;exact heq
  simp[Act.eval,this]
 ·have hj:j<xs.length:=aa;have hjy:j<ys.length:=aa;have hjI:(j:Int)<(xs.length:Int):=aa;refine aA ?_;have pH:o1 A:=vu.more A hA;refine tL mixed (n:=8) af [.slice (some ⟨B,0,none⟩) xs.length xs.length,.int .i64 j,.pointer (some ⟨B,j*2,none⟩),.agg #[.bool xs[j].1,.string xs[j].2],.slice (some ⟨A,0,none⟩) xs.length xs.length,.int .i64 j,.pointer (some ⟨A,j*2,none⟩),.agg #[.bool ys[j].1,.string ys[j].2]]
   (S:=fun o w=>o A/\w.cell? ⟨B,j*2,none⟩=some (.bool xs[j].1)/\w.cell? ⟨B,j*2+1,none⟩=some (.string xs[j].2)/\w.cell? ⟨A,j*2,none⟩=some (.bool ys[j].1)/\w.cell? ⟨A,j*2+1,none⟩=some (.string ys[j].2)/\cB T i rc o1 w1 o w) ?_ ?_ ?_
  ·rintro o w w' ⟨h1,h2,h3,h4,h5,h6⟩ hr;exact⟨h1,by rw[hB.cell hr];exact h2,by rw[hB.cell hr];exact h3,by rw[cell_of (hr.own A h1)];exact h4,by rw[cell_of (hr.own A h1)];exact h5,⟨h6.rel.trans (hr.less h6.more),⟨fun b hb=>⟨(h6.ok.tK b hb).1,bm (h6.ok.tK b hb).2 hr.size⟩,aR h6.ok.size hr.size⟩,h6.more⟩⟩
  ·have e1:=hx j hj;have e2:=hy j hjy;rw[bh] at e1 e2;exact⟨pH,by rw[hB.cell vu.rel];exact e1.1,by rw[hB.cell vu.rel];exact e1.2,by rw[cell_of (vu.rel.own A hA)];exact e2.1,by rw[cell_of (vu.rel.own A hA)];exact e2.2,.refl vu.ok⟩
  ·simp only[List.range,List.range.loop];refine cu rfl rfl (jL fun o2 w2 ⟨s1,s2,s3,s4,s5,s6⟩=>⟨by simp[go_sem,Act.eval],fa⟩) ?_;walk_nrm;refine cu rfl rfl (jL fun o2 w2 ⟨s1,s2,s3,s4,s5,s6⟩=>⟨by simp[go_sem,Act.eval],fa⟩) ?_;walk_nrm;refine cu rfl rfl (jL fun o2 w2 ⟨s1,s2,s3,s4,s5,s6⟩=>⟨by simp[go_sem, *],by simp[go_sem, *]⟩) ?_;walk_nrm;refine cu rfl rfl (jL fun o2 w2 ⟨s1,s2,s3,s4,s5,s6⟩=>⟨by simp[go_sem, *],fun e he=>?_⟩) ?_
   ·simp[go_sem, *] at he;rcases he with rfl|rfl<;>exact eT hB
   walk_nrm;refine cu rfl rfl (jL fun o2 w2 ⟨s1,s2,s3,s4,s5,s6⟩=>⟨by simp[go_sem,Act.eval],fa⟩) ?_;walk_nrm;refine cu rfl rfl (jL fun o2 w2 ⟨s1,s2,s3,s4,s5,s6⟩=>⟨by simp[go_sem,Act.eval],fa⟩) ?_;walk_nrm;refine cu rfl rfl (jL fun o2 w2 ⟨s1,s2,s3,s4,s5,s6⟩=>⟨by simp[go_sem, *],by simp[go_sem, *]⟩) ?_;walk_nrm;refine cu rfl rfl (jL fun o2 w2 ⟨s1,s2,s3,s4,s5,s6⟩=>⟨by simp[go_sem, *],fun e he=>?_⟩) ?_
   ·simp[go_sem, *] at he;rcases he with rfl|rfl<;>exact nD s1
   walk_nrm;refine nB fun o2 w2 ⟨s1,s2,s3,s4,s5,s6⟩=>?_;clear s2 s3 s4 s5;have Cy:cB T i rc o w o2 w2:=vu.trans s6;by_cases Vr:xs[j]=ys[j]
   ·refine DN W (v:=.bool false) rfl ai (fun w3=>by simp[go_sem,p8,Vr]) (fun w3=>by simp[go_sem,uO,pR]) ?_;refine aA ?_;have CP:IntKind.i64.wrap ((j:Int)+1)=((j+1:Nat):Int):=by rw[IntKind.wrap_i64]<;>omega
    refine⟨n-1,aa,j+1,aa,rfl,rfl,rfl,rfl,rfl,by simp[Act.eval,CP],?_,Cy⟩;rw[take_succ xs j hj,take_succ ys j hjy,heq,Vr]
   ·refine DN W (v:=.bool true) rfl ai (fun w3=>?_) (fun w3=>by simp[go_sem,uO,pR]) ?_
    ·have:xs[j].1=ys[j].1->¬xs[j].2=ys[j].2:=fun h1 h2=>Vr (Prod.ext h1 h2);by_cases h1:xs[j].1=ys[j].1
     ·simp[go_sem,p8,this h1]
     ·simp[go_sem,p8,h1]
    refine aA ?_;have cV:¬xs=ys:=fun e=>Vr (by subst e;rfl);exact⟨.inr trivial,trivial,_,resultsC_tmp (t:=4) ai _,by simp[Act.eval,cV],Cy⟩
end
end Go.Proofs.Kz
namespace Go.Ren
open Go.Conc Go.ConcN
section
variable {P:Program} {T:cP} {i:Nat} {V:Nat->ae->Prop} {E:bH}
theorem HJ(hT:T.OK)(hi:i<T.n){rc:Nat->Prop}{fn:FuncId}{Q:Exit->Act->aM->ae->Prop}{a:Act}{o:aM}{w:ae}(fD:fT T o w){ops:Array Oper}{j:Nat}{rest:List Nat}{op:Oper}(ho:ops[j]?=some op)(hw:Region.wanted op (yielded ops a.tmps)=true){d:Option Tmp}(hd:op.dst=d)(x:Obj)(f:Nat->Value)(cm:∀w1,(execOp a.eval op).run P w1=.ok (.value (f w1.heap.size)) (w1.alloc x))(iH:∀w1,(execOp a.eval op).events P w1 #[]=#[])(h:∀A o1 w2,cB T i rc o w o1 w2->o1 A->w2.heap[A]?=some x->w.heap.size<=A->(∀b,o1 b↔o b\/b=A)->fu (XW P T i V E rc) fn ops rest Q (a.put d (f A)) o1 w2):fu (XW P T i V E rc) fn ops (j::rest) Q a o w:=by
 subst hd;refine kO (cv rc) ho hw fun w1 kR K hK=>?_;rw[cm w1];simp only[uponK_value];refine hK _ _ ⟨⟨DO _ _ (aR fD.size kR.size) hT,by rw[listed_nil (iH w1)];simp⟩,h w1.heap.size _ _ (cB.alloc hT hi fD kR x) (.inr ⟨ag _,an⟩) ?_ kR.size fun b=>?_⟩
 ·show(w1.heap.push x)[w1.heap.size]?=_;simp
 ·have:=tJ o w1 x;exact Iff.of_eq (congrFun this b)
end
end Go.Ren
namespace Go.Proofs.Kz
open Go.Proofs.Tryz
open Go.Proofs.Tryz renaming prog → ar
open _root_.ByteArray renaming empty → aN
open Go.Ren Go.Conc Go.Proofs
theorem By:(ar.info? 159).map (fun i=>(i.zero,i.size,i.bytes))=some (some (.agg #[.bool false,.string aN]),2,24):=af
theorem uP(w:ae)(n:Nat)(hn:n<=100000):(Instr.makeSlice 98 (.int .i64 (n:Int)) (.int .i64 (n:Int))).run ar w=.ok (.slice (some ⟨w.heap.size,0,none⟩) n n) (w.alloc (.cells (madeCells #[.bool false,.string aN] (n*2)) 159)):=by
 obtain⟨i,hi,hz⟩:=Option.map_eq_some_iff.1 By;simp only[Prod.mk.injEq] at hz;obtain⟨hz,hs,hb⟩:=hz;have:=run_make (P:=ar) w 98 159 i _ underlying98 hi hz .i64 .i64 n n aa (fh _) (by rw[hb];omega) aa;rw[this,hs];simp[Value.cells]
theorem C1(w:ae)(n:Nat)(hn:n<=100000)(es:Array Event):(Instr.makeSlice 98 (.int .i64 (n:Int)) (.int .i64 (n:Int))).events ar w es=es:=by
 obtain⟨i,hi,hz⟩:=Option.map_eq_some_iff.1 By;simp only[Prod.mk.injEq] at hz;obtain⟨hz,hs,hb⟩:=hz;exact events_make (P:=ar) w 98 159 i _ underlying98 hi hz .i64 .i64 n n aa (fh _) (by rw[hb];omega) aa (by rw[hb];simp;omega) es
theorem HK{w:ae}{A n:Nat}(h:w.heap[A]?=some (.cells (madeCells #[.bool false,.string aN] (n*2)) 159)):eM w A (List.replicate n V0):=by
 refine⟨_,h,by simp[size_madeCells],fun j hj=>?_⟩;simp only[List.length_replicate] at hj;have hV:(List.replicate n V0).getD (j/2) V0=V0:=by simp[List.getD,List.getElem?_replicate];split<;>rfl
 simp only[madeCells,Array.getElem?_map,Array.getElem?_range,hj,if_true,Option.map_some,fZ,hV];rcases fL j with e|e<;>simp[e]
def HL(D:mf)(res:Nat->V)(x:Bool×Nat):V:=if x.1 then res x.2 else D.lj.getD x.2 V0
def dA(D:mf)(res:Nat->V)(s:Nat):List V:=(D.ins s).map (HL D res)
def part(l:List V)(j:Nat):List V:=l.take j++List.replicate (l.length-j) V0
theorem nE(l:List V)(j:Nat)(h:j<=l.length):(part l j).length=l.length:=by simp[part];omega
theorem D7(l:List V)(j m:Nat)(h:j<=l.length):(part l j).getD m V0=if m<j then l.getD m V0 else V0:=by
 unfold part;simp only[List.getD_eq_getElem?_getD];by_cases hm:m<j
 ·rw[jd eR,if_pos hm,eU hm]
 ·rw[iN eR,if_neg hm,List.getElem?_replicate];split<;>rfl
theorem Bz{w:ae}{A n:Nat}{l:List V}{j:Nat}(hj:j<l.length)(hn:n=l.length*2)(h:w.rowIs A 159 n (fun k=>if k=j*2+1 then .string l[j].2 else if k=j*2 then .bool l[j].1 else fZ (part l j) k)):eM w A (part l (j+1)):=by
 subst hn;unfold eM;rw[nE _ _ aa];refine h.congr fun k hk=>?_;simp only[fZ];rw[D7 _ _ _ aa,D7 _ _ _ aa];have hl:l.getD j V0=l[j]:=by simp[List.getD_eq_getElem?_getD,hj]
 by_cases e1:k=j*2+1
 ·subst e1;rw[if_pos rfl,if_neg aa,show(j*2+1)/2=j by omega,if_pos aa,hl]
 ·rw[if_neg e1];by_cases e2:k=j*2
  ·subst e2;rw[if_pos rfl,if_pos aa,show j*2/2=j by omega,if_pos aa,hl]
  ·rw[if_neg e2];have:(k/2<j↔k/2<j+1):=aa;by_cases e3:k/2<j
   ·rw[if_pos e3,if_pos (this.1 e3)]
   ·rw[if_neg e3,if_neg (fun h=>e3 (this.2 h))]
section
variable {T:cP} {i:Nat} {V:Nat->ae->Prop} {E:bH} {rc:Nat->Prop} {o:aM} {w:ae} {D:mf} {ord:Nat->Nat}
structure WfI(D:mf)(T:cP)(i:Nat)(rc0:Nat->Prop)(o0:aM)(w0:ae)(A B len:Nat)(l:List Kz.V)(j:Nat)(a:Act)(rc:Nat->Prop)(o:aM)(w:ae):Prop where
 size:a.tmps.size=54
 df:a.defers=[]
 t0:a.eval (.tmp 0)=.pointer (some ⟨D.bn,0,none⟩)
 t5:a.eval (.tmp 5)=.slice (some ⟨A,0,none⟩) len len
 t11:a.eval (.tmp 11)=.slice (some ⟨B,0,none⟩) len len
 t12:a.eval (.tmp 12)=.int .i64 len
 t13:a.eval (.tmp 13)=.int .i64 j
 row:eM w A (part l j)
 own:o A
 alh:kG D w
 rcs:∀k,rc0 k->rc k
 lat:cB T i rc0 o0 w0 o w
theorem NN(hW:qt T i)(hD:yd D T ord)(res:Nat->Kz.V)(hV:∀k w,k<T.n->V k w->w.cell? ⟨D.Rb,ord k*4+2,none⟩=some (.bool (res (ord k)).1)/\w.cell? ⟨D.Rb,ord k*4+3,none⟩=some (.string (res (ord k)).2))(fD:fT T o w)(hd:kG D w):
  DT ar T i V E 161 #[.pointer (some ⟨D.bn,0,none⟩),.slice (some ⟨D.cw (ord i),0,none⟩) (D.ins (ord i)).length (D.ins (ord i)).length] rc o w fun v mX o' w'=>∃A,v=.slice (some ⟨A,0,none⟩) (D.ins (ord i)).length (D.ins (ord i)).length/\o' A/\¬o A/\eM w' A (dA D res (ord i))/\(∀k,rc k->mX k)/\cB T i rc o w o' w':=by
 have W:∀rc,fg ar false (fun o=>cF T i o rc) (G1 T i rc) (fun o g w=>gj ar T i V E ⟨g,o,rc,w⟩):=fun rc=>cv rc;have W1:=W rc;have hs:=hD.pI i hW.i;have XL:=hD.short _ hs;have hlen:(dA D res (ord i)).length=(D.ins (ord i)).length:=by simp[dA]
 generalize hL:(D.ins (ord i)).length=len at *;refine EV func161 ai ?_;refine kj (ff ?_);refine eK ?_;refine kj (ff ?_);refine eK ?_;refine HJ hW.ok hW.i fD rfl ai rfl (.cells (madeCells #[.bool false,.string aN] (len*2)) 159) (fun A=>.slice (some ⟨A,0,none⟩) len len) (fun w1=>by simp[go_sem,uP w1 len aa]) (fun w1=>by simp[go_sem,C1 w1 len aa]) fun A o1 w1 l1 hA lY O2 EL=>?_;try walk_nrm
 refine eK ?_;refine kj (kj (ff ?_));refine eK ?_;have QD:¬o A:=fun h=>by have:=(fD.tK A h).2;omega
 refine DR (Qd (fun n a mX o' w'=>∃j,n+j=len/\WfI D T i rc o w A (D.cw (ord i)) len (dA D res (ord i)) j a mX o' w') (N:=len) ⟨0,an,rfl,rfl,rfl,rfl,rfl,rfl,aC,by have:=HK lY;simpa[part,hlen] using this,hA,hd.later hD l1.rel,fun _ h=>h,l1⟩ ?_);rintro n a te o2 w2 ⟨j,hnj,ft,pF,t0,t5,t11,t12,t13,b6,Hi,SN,wP,vu⟩;clear lY O2 EL hA l1 w1 o1 W1;have W1:=W te;obtain⟨tm,df⟩:=a;simp only at ft pF;subst pF;obtain⟨gs,rfl⟩:=fA ft;simp only[List.range,List.range.loop,List.map_cons,List.map_nil] at *;simp[Act.eval] at t0 t5 t11 t12 t13;simp only[t0,t5,t11,t12,t13];clear t0 t5 t11 t12 t13 ft;rcases aZ n with hn|hn
 ·have hj:j=len:=aa;subst hj;refine kj (ff ?_);refine eK ?_;refine kj (ff ?_);refine eK ?_;refine ff ?_;refine eK ?_;refine⟨.inr trivial,trivial,_,resultsC_tmp (t:=4) ai _,A,rfl,Hi,QD,?_,wP,vu⟩;have:part (dA D res (ord i)) j=dA D res (ord i):=by simp[part,<- hlen]
  rw[<- this];exact b6
 have hj:j<(D.ins (ord i)).length:=aa;have hjI:(j:Int)<(len:Int):=aa;have SE:j<(dA D res (ord i)).length:=aa;have hv:(dA D res (ord i))[j]=HL D res (D.ins (ord i))[j]:=by simp[dA]
 have NO:(D.ins (ord i))[j].1=false->(D.ins (ord i))[j].2<D.lj.length:=fun h=>hD.src _ hs _ (by rw[<- h];exact aD hj);have wB:(D.ins (ord i))[j].1=true->∃k,k<T.n/\ord k=(D.ins (ord i))[j].2/\T.dep i k:=fun h=>hD.dep i hW.i _ (by rw[<- h];exact aD hj);have hS:∀w3,cF T i o2 te w2 w3->w3.cell? ⟨D.cw (ord i),j*2,none⟩=some (.bool (D.ins (ord i))[j].1)/\w3.cell? ⟨D.cw (ord i),j*2+1,none⟩=some (.int .i64 (D.ins (ord i))[j].2):=fun w3 hr=>(SN.later hD hr).Bw _ hs j hj;generalize (D.ins (ord i))[j]=q at *;obtain⟨q1,q2⟩:=q;simp only at hS NO wB;refine kj (ff ?_);refine eK ?_;refine kj (ff ?_);refine eK ?_;refine kj (DR (kj (ff ?_)));refine eK ?_
 (refine fp W1 hS rfl ai (fun w9 hc=>⟨.refl _ _,fun e he=>?_⟩) fun w9 hc K hK=>?_;(focus (rw[bS];obtain⟨c0,c1⟩:=hc;have he:=mem_listed he;simp[go_sem, *] at he;rcases he with rfl|rfl<;>exact eT (hD.NK _ hs)));obtain⟨c0,c1⟩:=hc;go_simp;refine hK _ ?_;clear hK K;clear c0 c1 w9;try walk_nrm)
 refine mI hW.ok hW.i vu.ok rfl ai rfl (Obj.cells #[.bool false,.int .i64 0] 280) (fun w1=>fa) (fun w1=>fa) fun C o3 w3 l3 hC hCx hwC ho3=>?_;try walk_nrm
 refine eK ?_;have hCr:w3.rowIs C 280 2 (fun k=>if k=0 then .bool false else .int .i64 0):=⟨_,hCx,rfl,fun k hk=>by
  rcases(show k=0\/k=1 by omega) with rfl|rfl<;>rfl⟩
 have Cy:cB T i rc o w o3 w3:=vu.trans ⟨cF.nX wP l3.rel,l3.ok,l3.more⟩;have hnC:¬o2 C:=fun h=>by have:=(vu.ok.tK C h).2;omega
 have hCA:A≠C:=fun h=>hnC (h▸Hi);refine s9 hW.ok hW.i l3.ok rfl ai C 0 hC hCr aa (.bool q1) (.int .i64 q2) rfl rfl (fun w1 c0 c1 f=>?_) (fun w1 c0 c1 f=>⟨.plain,.plain,?_⟩) fun w4 l4 Zn=>?_
 ·simp at c0 c1;simp[go_sem,c0,c1,f]
 ·simp at c0 c1;simp[go_sem,c0,c1,f]
 have Jd:cB T i te o2 w2 o3 w4:=(l3.vn.trans l4).later hnC;clear l4 hCr hCx l3;try walk_nrm
 refine eK ?_;refine kj (ff ?_);refine eK ?_;have O4:∀w5,cF T i o3 te w4 w5->w5.cell? ⟨C,0,none⟩=some (.bool q1):=fun w5 hr=>by rw[cell_of (hr.own C hC)];exact Zn.cell (i:=0) aa
 (refine fp W1 O4 rfl ai (fun w9 hc=>⟨.refl _ _,fun e he=>?_⟩) fun w9 hc K hK=>?_;(focus (rw[bS];have he:=mem_listed he;simp[go_sem, *] at he;subst he;exact nD hC));go_simp;refine hK _ ?_;clear hK K;clear hc w9;try walk_nrm)
 refine eK ?_;have rZ:o3 A:=Jd.more A Hi;have LY:eM w4 A (part (dA D res (ord i)) j):=b6.of_block (Jd.rel.own A Hi);have Zo:kG D w4:=SN.later hD Jd.rel;have LZ:cB T i rc o w o3 w4:=vu.trans ⟨cF.nX wP Jd.rel,Jd.ok,Jd.more⟩;have Zk:w4.cell? ⟨C,1,none⟩=some (.int .i64 q2):=Zn.cell (i:=1) aa;clear O4 Zn hS b6 SN vu Cy Jd ho3 hwC hnC;cases q1 with
 |false =>
  refine Hc rfl (fun h=>by cases h) fun _=>?_;have hq:=NO rfl;have hqI:(q2:Int)<(D.lj.length:Int):=aa;have Tc:(dA D res (ord i))[j]=D.lj[q2]:=by rw[hv];simp[HL,List.getD_eq_getElem?_getD,hq]
  refine ff (tL mixed (n:=11) af [.slice (some ⟨A,0,none⟩) len len,.int .i64 j,.pointer (some ⟨D.bn,0,none⟩),.pointer (some ⟨D.bn,0,none⟩),.pointer (some ⟨D.bn,1,none⟩),.slice (some ⟨D.Vb,0,none⟩) D.lj.length D.lj.length,.pointer (some ⟨C,1,none⟩),.int .i64 q2,.pointer (some ⟨D.Vb,q2*2,none⟩),.agg #[.bool D.lj[q2].1,.string D.lj[q2].2],.pointer (some ⟨A,j*2,none⟩)]
   (S:=fun o5 w5=>o5=o3/\cB T i te o3 w4 o5 w5) (fun o5 w5 w6 h hr=>⟨h.1,mK h.2 hr⟩) ⟨rfl,.refl LZ.ok⟩ ?_)
  have F1:∀o5 w5,o5=o3/\cB T i te o3 w4 o5 w5->w5.cell? ⟨D.bn,1,none⟩=some (.slice (some ⟨D.Vb,0,none⟩) D.lj.length D.lj.length):=fun o5 w5 h=>(Zo.later hD h.2.rel).b1;have F2:∀o5 w5,o5=o3/\cB T i te o3 w4 o5 w5->w5.cell? ⟨C,1,none⟩=some (.int .i64 q2):=fun o5 w5 h=>by rw[cell_of (h.2.rel.own C hC)];exact Zk
  have F3:∀o5 w5,o5=o3/\cB T i te o3 w4 o5 w5->w5.cell? ⟨D.Vb,q2*2,none⟩=some (.bool D.lj[q2].1)/\w5.cell? ⟨D.Vb,q2*2+1,none⟩=some (.string D.lj[q2].2):=fun o5 w5 h=>by have:=(Zo.later hD h.2.rel).lj q2 hq;simpa using this
  simp only[List.range,List.range.loop]
  iterate 5 refine sX ?_
  (refine cu rfl rfl (jL fun o5 w5 my=>⟨?_,fun e he=>?_⟩) ?_;(focus (have hF:=F1 o5 w5 my;simp[go_sem,hF];done));(focus (have hF:=F1 o5 w5 my;simp[go_sem,hF] at he;subst he;exact eT hD.Cx));try walk_nrm)
  refine sX ?_
  (refine cu rfl rfl (jL fun o5 w5 my=>⟨?_,fun e he=>?_⟩) ?_;(focus (have hF:=F2 o5 w5 my;simp[go_sem,hF];done));(focus (have hF:=F2 o5 w5 my;simp[go_sem,hF] at he;subst he;exact nD (my.1▸hC)));try walk_nrm)
  refine sX ?_
  (refine cu rfl rfl (jL fun o5 w5 my=>⟨?_,fun e he=>?_⟩) ?_;(focus (have hF:=F3 o5 w5 my;simp[go_sem,hF.1,hF.2];done));(focus (have hF:=F3 o5 w5 my;simp[go_sem,hF.1,hF.2] at he;rcases he with rfl|rfl<;>exact eT hD.Zm));try walk_nrm)
  refine sX ?_;refine nB ?_;rintro o5 w5 ⟨rfl,l5⟩;have wQ:=LY.of_block (l5.rel.own A rZ);refine s9 hW.ok hW.i l5.ok rfl ai A (j*2) rZ wQ (by rw[nE _ _ aa];omega) (.bool (dA D res (ord i))[j].1) (.string (dA D res (ord i))[j].2) rfl rfl (fun w1 c0 c1 f=>?_) (fun w1 c0 c1 f=>⟨.plain,.plain,?_⟩) fun w6 l6 NJ=>?_
  ·rw[Tc];simp[go_sem,c0,c1,f]
  ·rw[Tc];simp[go_sem,c0,c1,f]
  have HM:=Bz SE (by rw[nE _ _ aa]) NJ;have L1:cB T i rc o w o5 w6:=((LZ.trans ⟨cF.nX wP l5.rel,l5.ok,l5.more⟩).vn.trans ⟨cF.nX wP l6.rel,l6.ok,l6.more⟩).later QD;have hd6:kG D w6:=(Zo.later hD l5.rel).later hD l6.rel;clear l5 l6 NJ wQ F1 F2 F3;try walk_nrm
  refine eK ?_;refine ff ?_;refine eK ?_;have CP:IntKind.i64.wrap ((j:Int)+1)=((j+1:Nat):Int):=by rw[IntKind.wrap_i64]<;>omega
  exact⟨n-1,aa,j+1,aa,rfl,rfl,rfl,rfl,rfl,rfl,by simp[Act.eval,CP],HM,rZ,hd6,wP,L1⟩
 |true =>
  refine Hc rfl (fun _=>?_) (fun h=>by cases h);obtain⟨k,hk,rfl,Xl⟩:=wB rfl;have hqn:=hD.pI k hk;have hqI:(ord k:Int)<(D.n:Int):=aa;have Tc:(dA D res (ord i))[j]=res (ord k):=by rw[hv];simp[HL]
  refine kj ?_;refine Ns mixed (n:=8) af [.pointer (some ⟨D.bn,0,none⟩),.pointer (some ⟨D.bn,0,none⟩),.pointer (some ⟨D.bn,4,none⟩),.slice (some ⟨D.Mb,0,none⟩) D.n D.n,.pointer (some ⟨C,1,none⟩),.int .i64 (ord k),.pointer (some ⟨D.Mb,ord k,none⟩),.chan (some (D.ch (ord k)))]
   (S:=fun w5=>cB T i te o3 w4 o3 w5) (fun w5 w6 h hr=>mK h hr) (.refl LZ.ok) ?_
  have F1:∀w5,cB T i te o3 w4 o3 w5->w5.cell? ⟨D.bn,4,none⟩=some (.slice (some ⟨D.Mb,0,none⟩) D.n D.n):=fun w5 h=>(Zo.later hD h.rel).b4;have F2:∀w5,cB T i te o3 w4 o3 w5->w5.cell? ⟨C,1,none⟩=some (.int .i64 (ord k)):=fun w5 h=>by rw[cell_of (h.rel.own C hC)];exact Zk
  have F3:∀w5,cB T i te o3 w4 o3 w5->w5.cell? ⟨D.Mb,ord k,none⟩=some (.chan (some (D.ch (ord k)))):=fun w5 h=>(Zo.later hD h.rel).made _ hqn;simp only[List.range,List.range.loop]
  iterate 3 refine Qs ?_
  (refine cu rfl rfl (fun w5 my=>⟨?_,fun e he=>?_⟩) ?_;(focus (have hF:=F1 w5 my;simp[go_sem,hF];done));(focus (have hF:=F1 w5 my;simp[go_sem,hF] at he;subst he;exact eT hD.Cx));try walk_nrm)
  refine Qs ?_
  (refine cu rfl rfl (fun w5 my=>⟨?_,fun e he=>?_⟩) ?_;(focus (have hF:=F2 w5 my;simp[go_sem,hF];done));(focus (have hF:=F2 w5 my;simp[go_sem,hF] at he;subst he;exact nD hC));try walk_nrm)
  refine Qs ?_
  (refine cu rfl rfl (fun w5 my=>⟨?_,fun e he=>?_⟩) ?_;(focus (have hF:=F3 w5 my;simp[go_sem,hF];done));(focus (have hF:=F3 w5 my;simp[go_sem,hF] at he;subst he;exact eT hD.qMb));try walk_nrm)
  refine nB fun w5 l5=>?_;refine Nq (k:=k) (z:=.agg #[]) (f:=false) rfl ai Xl (fun w1=>?_) (fun w1=>fa) rfl fun w6 NJ hVk=>?_
  ·rw[hD.ch k hk];simp[go_sem,rcase]
  have l6:cB T i te o3 w4 o3 w6:=mK l5 NJ;clear l5 NJ w5 F1 F2 F3;obtain⟨hV1,hV2⟩:=hV k w6 hk hVk;have QG:∀b,rc b->te b\/b=k:=fun b hb=>.inl (wP b hb);have W3:=W (fun b=>te b\/b=k);have hd6:kG D w6:=Zo.later hD l6.rel;have HM:=LY.of_block (l6.rel.own A rZ);have L1:cB T i rc o w o3 w6:=LZ.trans ⟨cF.nX wP l6.rel,l6.ok,l6.more⟩;have hC6:w6.cell? ⟨C,1,none⟩=some (.int .i64 (ord k)):=by rw[cell_of (l6.rel.own C hC)];exact Zk
  refine wz ?_;refine eK ?_;refine ff (tL mixed (n:=12) af [.slice (some ⟨A,0,none⟩) len len,.int .i64 j,.pointer (some ⟨D.bn,0,none⟩),.pointer (some ⟨D.bn,0,none⟩),.pointer (some ⟨D.bn,2,none⟩),.slice (some ⟨D.Rb,0,none⟩) D.n D.n,.pointer (some ⟨C,1,none⟩),.int .i64 (ord k),.pointer (some ⟨D.Rb,ord k*4,none⟩),.pointer (some ⟨D.Rb,ord k*4+2,none⟩),.agg #[.bool (res (ord k)).1,.string (res (ord k)).2],.pointer (some ⟨A,j*2,none⟩)]
   (S:=fun o5 w5=>o5=o3/\cB T i (fun b=>te b\/b=k) o3 w6 o5 w5) (fun o5 w5 w6 h hr=>⟨h.1,mK h.2 hr⟩) ⟨rfl,.refl L1.ok⟩ ?_)
  have eH:∀m,m<4->T.js k (.cell ⟨D.Rb,ord k*4+m,none⟩):=fun m hm=>(hD.own k _).2 ⟨hk,.inl ⟨m,hm,rfl⟩⟩;have F1:∀o5 w5,o5=o3/\cB T i (fun b=>te b\/b=k) o3 w6 o5 w5->w5.cell? ⟨D.bn,2,none⟩=some (.slice (some ⟨D.Rb,0,none⟩) D.n D.n):=fun o5 w5 h=>(hd6.later hD h.2.rel).b2;have F2:∀o5 w5,o5=o3/\cB T i (fun b=>te b\/b=k) o3 w6 o5 w5->w5.cell? ⟨C,1,none⟩=some (.int .i64 (ord k)):=fun o5 w5 h=>by rw[cell_of (h.2.rel.own C hC)];exact hC6
  have F3:∀o5 w5,o5=o3/\cB T i (fun b=>te b\/b=k) o3 w6 o5 w5->w5.cell? ⟨D.Rb,ord k*4+2,none⟩=some (.bool (res (ord k)).1)/\w5.cell? ⟨D.Rb,ord k*4+2+1,none⟩=some (.string (res (ord k)).2):=fun o5 w5 h =>
   ⟨by rw[h.2.rel.mine _ (.inr ⟨k,.inr rfl,eH 2 aa⟩)];exact hV1,by rw[h.2.rel.mine ⟨D.Rb,ord k*4+3,none⟩ (.inr ⟨k,.inr rfl,eH 3 aa⟩)];exact hV2⟩
  simp only[List.range,List.range.loop]
  iterate 5 refine sX ?_
  (refine cu rfl rfl (jL fun o5 w5 my=>⟨?_,fun e he=>?_⟩) ?_;(focus (have hF:=F1 o5 w5 my;simp[go_sem,hF];done));(focus (have hF:=F1 o5 w5 my;simp[go_sem,hF] at he;subst he;exact eT hD.Cx));try walk_nrm)
  refine sX ?_
  (refine cu rfl rfl (jL fun o5 w5 my=>⟨?_,fun e he=>?_⟩) ?_;(focus (have hF:=F2 o5 w5 my;simp[go_sem,hF];done));(focus (have hF:=F2 o5 w5 my;simp[go_sem,hF] at he;subst he;exact nD (my.1▸hC)));try walk_nrm)
  refine sX ?_;refine sX ?_
  (refine cu rfl rfl (jL fun o5 w5 my=>⟨?_,fun e he=>?_⟩) ?_;(focus (have hF:=F3 o5 w5 my;simp[go_sem,hF.1,hF.2];done));(focus (have hF:=F3 o5 w5 my;simp[go_sem,hF.1,hF.2] at he;rcases he with rfl|rfl<;>(first|exact sZ (.inr (.inr (.inl ⟨k,.inr rfl,eH 2 aa⟩)))|exact sZ (.inr (.inr (.inl ⟨k,.inr rfl,eH 3 aa⟩))))));try walk_nrm)
  refine sX ?_;refine nB ?_;rintro o5 w5 ⟨rfl,l5⟩;have wQ:=HM.of_block (l5.rel.own A rZ);refine s9 hW.ok hW.i l5.ok rfl ai A (j*2) rZ wQ (by rw[nE _ _ aa];omega) (.bool (dA D res (ord i))[j].1) (.string (dA D res (ord i))[j].2) rfl rfl (fun w1 c0 c1 f=>?_) (fun w1 c0 c1 f=>⟨.plain,.plain,?_⟩) fun w7 l7 hr7=>?_
  ·rw[Tc];simp[go_sem,c0,c1,f]
  ·rw[Tc];simp[go_sem,c0,c1,f]
  have QH:=Bz SE (by rw[nE _ _ aa]) hr7;have aaW:cB T i rc o w o5 w7:=((L1.trans ⟨cF.nX QG l5.rel,l5.ok,l5.more⟩).vn.trans ⟨cF.nX QG l7.rel,l7.ok,l7.more⟩).later QD;have hd7:kG D w7:=(hd6.later hD l5.rel).later hD l7.rel;clear l5 l7 hr7 wQ F1 F2 F3;try walk_nrm
  refine eK ?_;refine ff ?_;refine eK ?_;have CP:IntKind.i64.wrap ((j:Int)+1)=((j+1:Nat):Int):=by rw[IntKind.wrap_i64]<;>omega
  exact⟨n-1,aa,j+1,aa,rfl,rfl,rfl,rfl,rfl,rfl,by simp[Act.eval,CP],QH,rZ,hd7,QG,aaW⟩
end
end Go.Proofs.Kz
namespace Go.Ren
open Go.Conc Go.ConcN
section
variable {P:Program} {main:Bool} {b:Frame} {a:Act} {k:List Item} {cs:List Frame} {w:ae}
theorem wR{ops:Array Oper}{i:Nat}{rest:List Nat}{o:Oper}{d:Deferred}(ho:ops[i]?=some o)(hw:Region.wanted o (yielded ops a.tmps)=true)(hk:b.kind≠.early)(hr:(execOp a.eval o).run P w=.ok (.defer d) w)(he:(execOp a.eval o).events P w #[]=#[]):
  stepG P main (G (b.at a (.inRegion ops (i::rest)::k)) cs) w=.go (G (b.at (Act.put ⟨a.tmps,d::a.defers⟩ o.dst undef) (.inRegion ops rest::k)) cs) w #[]:=by
 have AP:(b.at ⟨a.tmps,d::a.defers⟩ (.inRegion ops (i::rest)::k)).finish undef=b.at (Act.put ⟨a.tmps,d::a.defers⟩ o.dst undef) (.inRegion ops rest::k):=by rw[dF,ho];rfl
 have kY:(b.kind==CallKind.early)=false:=by simpa using hk
 rw[stepG_oper ho hw,<- AP];simp[stepG.apply,hr,he,G,Frame.at,kY,GStep.after,seen_none]
end
section
variable {P:Program} {m:Bool} {R:aM->ae->ae->Prop} {Gu:aM->ae->ae->Array Event->Prop} {X:aM->aS->ae->Prop} {fn:FuncId} {Q:Exit->Act->aM->ae->Prop} {a:Act} {o:aM} {w:ae}
theorem kH(W:fg P m R Gu X){ops:Array Oper}{i:Nat}{rest:List Nat}{op:Oper}{d:Deferred}(ho:ops[i]?=some op)(hw:Region.wanted op (yielded ops a.tmps)=true)(hr:∀w1,(execOp a.eval op).run P w1=.ok (.defer d) w1)(he:∀w1,(execOp a.eval op).events P w1 #[]=#[]){dd:Option Tmp}(hd:op.dst=dd)(h:fu X fn ops rest Q (Act.put ⟨a.tmps,d::a.defers⟩ dd undef) o w):fu X fn ops (i::rest) Q a o w:=by
 subst hd;exact fun b k cs hb hk hc=>W.go rfl (fun w1=>wR ho hw hk (hr w1) (he w1)) (h b k cs hb hk hc)
end
section
variable {P:Program} {T:cP} {i:Nat} {V:Nat->ae->Prop} {E:bH} {rc o:Nat->Prop} {w w':ae}
structure lG(T:cP)(i B:Nat)(w w':ae):Prop where
 size:w'.heap.size=w.heap.size
 heap:∀b,b≠B->w'.heap[b]?=w.heap[b]?
 shape:∀cs ty fz,w.heap[B]?=some (.cells cs ty fz)->∃rW,w'.heap[B]?=some (.cells rW ty fz)/\rW.size=cs.size
 cells:∀a:Addr,a.block=B->¬T.js i (.cell a)->w'.cell? a=w.cell? a
 os:w'.os=w.os
 output:w'.output=w.output
theorem lG.set(w:ae){B off:Nat}(v:Value)(h:T.js i (.cell ⟨B,off,none⟩)):lG T i B w (w.setCell ⟨B,off,none⟩ v):=by
 refine⟨by simp[World.setCell],fun b hb=>RowKit.Below.heap_setCell w _ _ b hb,fun cs ty fz hx=>?_,fun a ha hn=>World.cell?_setCell_other _ _ _ _ fun e=>hn (e▸h),rfl,rfl⟩;refine⟨cs.setIfInBounds off v,?_,an⟩;simp[World.setCell,Array.getElem?_modify,hx]
theorem lG.trans{B:Nat}{w1 w2:ae}(h:lG T i B w w1)(k:lG T i B w1 w2):lG T i B w w2:=by
 refine⟨k.size.trans h.size,fun b hb=>(k.heap b hb).trans (h.heap b hb),fun cs ty fz hx=>?_,fun a ha hn=>(k.cells a ha hn).trans (h.cells a ha hn),k.os.trans h.os,k.output.trans h.output⟩;obtain⟨c1,e1,e2⟩:=h.shape cs ty fz hx;obtain⟨c2,e3,e4⟩:=k.shape c1 ty fz e1;exact⟨c2,e3,e4.trans e2⟩
theorem lG.Zi{B:Nat}(h:lG T i B w w')(hB:T.Sh B):JP T i o w w':=by
 refine⟨bq h.size.symm,fun b _ _ hb=>h.heap b fun e=>hb (e▸hB),fun b cs ty fz hb hx=>?_,fun a ha hn=>?_,h.os,h.output⟩
 ·by_cases e:b=B
  ·subst e;exact h.shape cs ty fz hx
  ·exact⟨cs,by rw[h.heap b e];exact hx,rfl⟩
 ·by_cases e:a.block=B
  ·exact h.cells a e hn
  ·exact cell_of (h.heap _ e)
theorem tf{ad:Addr}{wt sy:Bool}(h:T.js i (.cell ad)):LF T i o rc ⟨.cell ad,wt,sy⟩:=by
 refine⟨fun x hx _=>.inr (.inl ?_),an,an,an⟩;simp only[MemAct.ofEvent,MemAct.touch?,Option.some.injEq] at hx;subst hx;exact h
theorem yY{fn:FuncId}{Q:Exit->Act->aM->ae->Prop}{a:Act}{ops:Array Oper}{j:Nat}{rest:List Nat}{op:Oper}(ho:ops[j]?=some op)(hw:Region.wanted op (yielded ops a.tmps)=true)(B:Nat)(hB:T.Sh B){f:ae->ae}(cm:∀w1,cF T i o rc w w1->(execOp a.eval op).run P w1=.ok .skip (f w1))(hf:∀w1,lG T i B w1 (f w1))(iH:∀w1,cF T i o rc w w1->∀e∈(execOp a.eval op).events P w1 #[],∃ad wt sy,e=⟨.cell ad,wt,sy⟩/\T.js i (.cell ad)){d:Option Tmp}(hd:op.dst=d)(h:∀w1,cF T i o rc w w1->lG T i B w1 (f w1)->fu (XW P T i V E rc) fn ops rest Q (a.put d undef) o (f w1)):fu (XW P T i V E rc) fn ops (j::rest) Q a o w:=by
 subst hd;refine kO (cv rc) ho hw fun w1 kR K hK=>?_;rw[cm w1 kR];simp only[uponK_skip];refine hK _ _ ⟨⟨(hf w1).Zi hB,fun e he=>?_⟩,?_⟩
 ·obtain⟨ad,wt,sy,rfl,e2⟩:=iH w1 kR e (mem_listed he);exact tf e2
 ·rw[jU o (hf w1).size];exact h w1 kR (hf w1)
theorem gj.close{b:Frame}{a:Act}{cs:List Frame}{todo:List Item}{ds:List Deferred}{rR:Array TypeId}{ty:TypeId}{cns:Array Bool}(hd:a.defers={target:=.builtin .close rR ty cns,args:=#[.chan (some (T.ch i))]}::ds)(hq:(P.funcs[b.fn]?).any (·.norace)=false)(h:∀w1,cF T i o rc w w1->∀s r tm,w1.heap[T.ch i]?=some (.chan 0 #[] false s r tm)->V i w1/\E o (G {b.at ⟨a.tmps,ds⟩ todo with mode:=.returning} cs) (w1.setChan (T.ch i) 0 #[] true s r tm)):
  XW P T i V E rc o (G {b.at a todo with mode:=.returning} cs) w :=
 gj.intro ⟨rfl,.inr (.inr ⟨rfl,fun w1 hr s r tm hc=>⟨_,vp hd hc hq,rfl,(h w1 hr s r tm hc).1,(h w1 hr s r tm hc).2⟩⟩)⟩
end
section
variable {P:Program} {T:cP} {i:Nat} {V:Nat->ae->Prop} {E:bH} {fn:FuncId} {Q:wv} {a:Act} {rc:Nat->Prop} {o:aM} {w:ae}
theorem NP{ops:Array Oper}{todo:List Nat}{w1:ae}(h:uk P T i V E fn ops todo Q a rc o w)(hr:cF T i o rc w w1):uk P T i V E fn ops todo Q a rc o w1:=fun b k cs hb hk hc=>gj.rely (h b k cs hb hk hc) hr
theorem NQ{ops:Array Oper}{j:Nat}{rest:List Nat}{op:Oper}(ho:ops[j]?=some op)(hw:Region.wanted op (yielded ops a.tmps)=true)(h:∀w1,cF T i o rc w w1->∀K:Act->ae->Prop,(∀a' w',G1 T i rc o w1 w' (listed P fn a op w1)/\uk P T i V E fn ops rest Q a' rc (grow o w1 w') w'->K a' w')->uponK op a K ((execOp a.eval op).run P w1)):uk P T i V E fn ops (j::rest) Q a rc o w:=by
 intro b k cs hb hk hc;refine(cv rc).step o _ w rfl fun w1 h1=>?_;have:=h w1 h1 _ fun _ _ x=>x;revert this;cases hr:(execOp a.eval op).run P w1 with
 |ok x w' =>
  cases x with
  |value v=>intro q;simp only[uponK_value] at q;exact⟨_,_,_,dN ho hw hk hr,hb▸q.1,q.2 b k cs hb hk hc⟩
  |skip=>intro q;simp only[uponK_skip] at q;exact⟨_,_,_,jk ho hw hk hr,hb▸q.1,q.2 b k cs hb hk hc⟩
  |_=>intro q;exact q.elim
 |halt _ _=>intro q;exact q.elim
theorem oC{S:ae->Prop}(hS:∀w1,cF T i o rc w w1->S w1){ops:Array Oper}{j:Nat}{rest:List Nat}{op:Oper}(ho:ops[j]?=some op)(hw:Region.wanted op (yielded ops a.tmps)=true)(hg:∀w1,S w1->G1 T i rc o w1 w1 (listed P fn a op w1))(h:∀w1,S w1->∀K:Act->ae->Prop,(∀a',uk P T i V E fn ops rest Q a' rc o w->K a' w1)->uponK op a K ((execOp a.eval op).run P w1)):uk P T i V E fn ops (j::rest) Q a rc o w :=
 NQ ho hw fun w1 h1 K hK=>h w1 (hS w1 h1) K fun a' q=>hK a' w1 ⟨hg w1 (hS w1 h1),by rw[bS];exact NP q h1⟩
theorem tg{ops:Array Oper}{j:Nat}{rest:List Nat}{op:Oper}(ho:ops[j]?=some op)(_hn:EU op.op=true)(hw:Region.wanted op (yielded ops a.tmps)=true)(hg:∀w1,(execOp a.eval op).events P w1 #[]=#[])(h:∀w1,∀K:Act->ae->Prop,(∀a',uk P T i V E fn ops rest Q a' rc o w->K a' w1)->uponK op a K ((execOp a.eval op).run P w1)):uk P T i V E fn ops (j::rest) Q a rc o w :=
 oC (S:=fun _=>True) (fun _ _=>trivial) ho hw (fun w1 _=>by rw[listed_nil (hg w1)];exact(cv (P:=P) (V:=V) (E:=E) rc).idle _ _) (fun w1 _=>h w1)
end
end Go.Ren
namespace Go.Proofs.Kz
open Go.Proofs.Tryz
open Go.Proofs.Tryz renaming prog → ar
open _root_.ByteArray renaming empty → aN
open Go.Ren Go.Conc Go.Proofs
def uq(w:ae)(B:Nat):Prop:=∃c t,w.heap[B]?=some (.cells c t (0,0))
theorem uq.frozen{w:ae}{B:Nat}(h:uq w B)(off:Nat):w.frozen? ⟨B,off,none⟩=false:=by
 obtain⟨c,t,h⟩:=h;simp[World.frozen?,h]
theorem uq.later{w w1:ae}{B:Nat}{T:cP}{i:Nat}{o rc:Nat->Prop}(h:uq w B)(hB:T.Sh B)(hr:cF T i o rc w w1):uq w1 B:=by
 obtain⟨c,t,h⟩:=h;obtain⟨c1,h1,_⟩:=hr.sh B c t _ hB h;exact⟨c1,t,h1⟩
theorem HN(w:ae)(a:Addr)(v u:Value)(h:w.cell? a=some u):(w.setCell a v).cell? a=some v:=World.cell?_setCell_same _ _ _ h
theorem aaX{P:Program}{w:ae}{B off:Nat}{x0 x1 x2 x3:Value}(v0 v1 v2 v3:Value)(h0:w.cell? ⟨B,off,none⟩=some x0)(h1:w.cell? ⟨B,off+1,none⟩=some x1)(h2:w.cell? ⟨B,off+2,none⟩=some x2)(h3:w.cell? ⟨B,off+3,none⟩=some x3)(hf:∀k,w.frozen? ⟨B,k,none⟩=false)(o0:v0.oneCell'=true)(o1:v1.oneCell'=true)(o2:v2.oneCell'=true)(o3:v3.oneCell'=true):
  ((((w.setCell ⟨B,off,none⟩ v0).setCell ⟨B,off+1,none⟩ v1).setCell ⟨B,off+2,none⟩ v2).setCell ⟨B,off+3,none⟩ v3).cell? ⟨B,off,none⟩=some v0 /\
  ((((w.setCell ⟨B,off,none⟩ v0).setCell ⟨B,off+1,none⟩ v1).setCell ⟨B,off+2,none⟩ v2).setCell ⟨B,off+3,none⟩ v3).cell? ⟨B,off+1,none⟩=some v1 /\
  ((((w.setCell ⟨B,off,none⟩ v0).setCell ⟨B,off+1,none⟩ v1).setCell ⟨B,off+2,none⟩ v2).setCell ⟨B,off+3,none⟩ v3).cell? ⟨B,off+2,none⟩=some v2 /\
  ((((w.setCell ⟨B,off,none⟩ v0).setCell ⟨B,off+1,none⟩ v1).setCell ⟨B,off+2,none⟩ v2).setCell ⟨B,off+3,none⟩ v3).cell? ⟨B,off+3,none⟩=some v3 /\
  (∀m (e:Event),e∈(store ⟨B,off+3,none⟩ v3 m).events P (((w.setCell ⟨B,off,none⟩ v0).setCell ⟨B,off+1,none⟩ v1).setCell ⟨B,off+2,none⟩ v2) ((store ⟨B,off+2,none⟩ v2 m).events P ((w.setCell ⟨B,off,none⟩ v0).setCell ⟨B,off+1,none⟩ v1) ((store ⟨B,off+1,none⟩ v1 m).events P (w.setCell ⟨B,off,none⟩ v0) ((store ⟨B,off,none⟩ v0 m).events P w #[])))->∃j wt sy,j<4/\e=⟨.cell ⟨B,off+j,none⟩,wt,sy⟩):=by
 have key:∀(w:ae) (a:Addr) (v u:Value),w.cell? a=some u->(w.setCell a v).cell? a=some v:=HN;have JW:∀(w:ae) (i j:Nat) (v:Value),i≠j->(w.setCell ⟨B,i,none⟩ v).cell? ⟨B,j,none⟩=w.cell? ⟨B,j,none⟩:=fun w i j v h=>World.cell?_setCell_other _ _ _ _ (by simp[h]);have fr:∀(w:ae) (i:Nat) (v:Value),(∀k,w.frozen? ⟨B,k,none⟩=false)->∀k,(w.setCell ⟨B,i,none⟩ v).frozen? ⟨B,k,none⟩=false:=fun w i v h k=>by simpa using h k
 have a1:(w.setCell ⟨B,off,none⟩ v0).cell? ⟨B,off+1,none⟩=some x1:=by rw[JW _ _ _ _ aa];exact h1
 have a2:((w.setCell ⟨B,off,none⟩ v0).setCell ⟨B,off+1,none⟩ v1).cell? ⟨B,off+2,none⟩=some x2:=by rw[JW _ _ _ _ aa,JW _ _ _ _ aa];exact h2
 have a3:(((w.setCell ⟨B,off,none⟩ v0).setCell ⟨B,off+1,none⟩ v1).setCell ⟨B,off+2,none⟩ v2).cell? ⟨B,off+3,none⟩=some x3:=by rw[JW _ _ _ _ aa,JW _ _ _ _ aa,JW _ _ _ _ aa];exact h3
 refine⟨?_,?_,?_,key _ _ _ _ a3,fun m e he=>?_⟩
 ·rw[JW _ _ _ _ aa,JW _ _ _ _ aa,JW _ _ _ _ aa];exact key _ _ _ _ h0
 ·rw[JW _ _ _ _ aa,JW _ _ _ _ aa];exact key _ _ _ _ a1
 ·rw[JW _ _ _ _ aa];exact key _ _ _ _ a2
 ·rw[cD _ _ h0 (hf _) o0,cD _ _ a1 (fr _ _ _ hf _) o1,cD _ _ a2 (fr _ _ _ (fr _ _ _ hf) _) o2,cD _ _ a3 (fr _ _ _ (fr _ _ _ (fr _ _ _ hf)) _) o3] at he;simp at he;rcases he with rfl|rfl|rfl|rfl
  ·exact⟨0,_,_,aa,rfl⟩
  ·exact⟨1,_,_,aa,rfl⟩
  ·exact⟨2,_,_,aa,rfl⟩
  ·exact⟨3,_,_,aa,rfl⟩
structure uQ(D:mf)(s:Nat)(w:ae)(B:Nat)(vs:List V)(m:V):Prop where
 c0:w.cell? ⟨D.Rb,s*4,none⟩=some (.bool true)
 c1:w.cell? ⟨D.Rb,s*4+1,none⟩=some (.slice (some ⟨B,0,none⟩) vs.length vs.length)
 c2:w.cell? ⟨D.Rb,s*4+2,none⟩=some (.bool m.1)
 c3:w.cell? ⟨D.Rb,s*4+3,none⟩=some (.string m.2)
structure L2(D:mf)(s:Nat)(w:ae):Prop where
 c0:w.cell? ⟨D.Rb,s*4,none⟩=some (.bool false)
 c1:w.cell? ⟨D.Rb,s*4+1,none⟩=some (.slice none 0 0)
 c2:w.cell? ⟨D.Rb,s*4+2,none⟩=some (.bool false)
 c3:w.cell? ⟨D.Rb,s*4+3,none⟩=some (.string aN)
def E5(D:mf)(T:cP)(s:Nat)(old:Option (Nat×List V))(w:ae):Prop :=
 match old with
 |none=>L2 D s w
 |some (B,vs)=>uQ D s w B vs (jC (D.jm s) vs)/\vt w B 0 vs/\Quiet T B/\vs.length<=100000
def mL(D:mf)(s:Nat)(old:Option (Nat×List V))(ins:List V)(m:V)(o:Nat->Prop)(w:ae):Prop :=
 (∃B,old=some (B,ins)/\uQ D s w B ins m/\w.cell? ⟨D.Nb,s,none⟩=some (.bool false)) \/
 ((∀B,old≠some (B,ins))/\∃A,o A/\eM w A ins/\uQ D s w A ins m/\w.cell? ⟨D.Nb,s,none⟩=some (.bool true))
theorem mL.made{D:mf}{s:Nat}{old:Option (Nat×List V)}{ins:List V}{m:V}{o:Nat->Prop}{w:ae}(h:mL D s old ins m o w):w.cell? ⟨D.Rb,s*4+2,none⟩=some (.bool m.1)/\w.cell? ⟨D.Rb,s*4+3,none⟩=some (.string m.2):=by
 rcases h with⟨B,_,h,_⟩|⟨_,A,_,_,h,_⟩<;>exact⟨h.c2,h.c3⟩
theorem mL.of{D:mf}{s:Nat}{old:Option (Nat×List V)}{ins:List V}{m:V}{o o':Nat->Prop}{w w':ae}(h:mL D s old ins m o w)(hR:∀j,j<4->w'.cell? ⟨D.Rb,s*4+j,none⟩=w.cell? ⟨D.Rb,s*4+j,none⟩)(hN:w'.cell? ⟨D.Nb,s,none⟩=w.cell? ⟨D.Nb,s,none⟩)(ho:∀b,o b->o' b/\w'.heap[b]?=w.heap[b]?):mL D s old ins m o' w':=by
 have hr:∀{B},uQ D s w B ins m->uQ D s w' B ins m:=fun h=>⟨(hR 0 aa).trans h.c0,(hR 1 aa).trans h.c1,(hR 2 aa).trans h.c2,(hR 3 aa).trans h.c3⟩;rcases h with⟨B,h1,h2,h3⟩|⟨h1,A,h2,h3,h4,h5⟩
 ·exact .inl ⟨B,h1,hr h2,hN.trans h3⟩
 ·exact .inr ⟨h1,A,(ho A h2).1,h3.of_block (ho A h2).2,hr h4,hN.trans h5⟩
theorem E5.some{D:mf}{T:cP}{s:Nat}{old:Option (Nat×List V)}{w:ae}(h:E5 D T s old w):∃x0 x1 x2 x3,w.cell? ⟨D.Rb,s*4,none⟩=some x0/\w.cell? ⟨D.Rb,s*4+1,none⟩=some x1/\w.cell? ⟨D.Rb,s*4+2,none⟩=some x2/\w.cell? ⟨D.Rb,s*4+3,none⟩=some x3:=by
 cases old with
 |none=>exact⟨_,_,_,_,h.c0,h.c1,h.c2,h.c3⟩
 |some x=>exact⟨_,_,_,_,h.1.c0,h.1.c1,h.1.c2,h.1.c3⟩
section
variable {T:cP} {i:Nat} {V:Nat->ae->Prop} {E:bH} {rc:Nat->Prop} {o:aM} {w:ae}
theorem XM(hW:qt T i)(hq:Quiet T 1)(r:Int)(hr:1<=r/\r<=5)(b:Nat)(vs:List Kz.V)(hn:vs.length<=100000)(hm:iM (vs.map (·.2))<=1000000)(fD:fT T o w)(hb:o b)(ht:eM w b vs)(hp:jB w):
  bp ar (XW ar T i V E rc) 163 #[.int .i64 r,.slice (some ⟨b,0,none⟩) vs.length vs.length] o w fun v o' w'=>v=.agg #[.bool (jC r vs).1,.string (jC r vs).2]/\cB T i rc o w o' w':=by
 by_cases h5:r=5
 ·subst h5;exact Kq hW hq b vs hn fD hb ht hp
 ·by_cases hc:cnt vs<vs.length
  ·exact Kr hW hq r aa b vs hn hm hc fD hb ht hp
  ·exact QE hW hq r aa b vs hn hm hc fD hb ht hp
end
section
variable {T:cP} {i:Nat} {V:Nat->ae->Prop} {E:bH} {rc:Nat->Prop} {o:aM} {w:ae} {D:mf} {ord:Nat->Nat}
theorem XN(hW:qt T i)(XD:Quiet T 1)(hD:yd D T ord)(res:Nat->Kz.V)(hV:∀k w,k<T.n->V k w->w.cell? ⟨D.Rb,ord k*4+2,none⟩=some (.bool (res (ord k)).1)/\w.cell? ⟨D.Rb,ord k*4+3,none⟩=some (.string (res (ord k)).2))(fD:fT T o w)(hd:kG D w)(hp:jB w)(xQ:res (ord i)=jC (D.jm (ord i)) (dA D res (ord i)))(QI:1<=D.jm (ord i)/\D.jm (ord i)<=5)(pP:iM ((dA D res (ord i)).map (·.2))<=1000000)(old:Option (Nat×List Kz.V))(hold:E5 D T (ord i) old w)(TX:w.cell? ⟨D.Nb,ord i,none⟩=some (.bool false))(QJ:uq w D.Rb)(XO:uq w D.Nb)(c:Frame)(cs:List Frame)(QK:∀mX o' w' (tm:Array Value) (todo:List Item),(∀b,o b->o' b)->(∀b,o' b->T.H0<=b)->(∀b,o b->w'.heap[b]?=w.heap[b]?)->(Go.ConcN.WgLive T.ty T.Wg w->Go.ConcN.WgLive T.ty T.Wg w')->mL D (ord i) old (dA D res (ord i)) (res (ord i)) (fun b=>o' b/\¬o b) w'->∀w1,cF T i o' mX w' w1->∀s r t,w1.heap[T.ch i]?=some (.chan 0 #[] false s r t) ->
   V i w1/\E o' (G {(base 116).at ⟨tm,[]⟩ todo with mode:=.returning} (c::cs)) (w1.setChan (T.ch i) 0 #[] true s r t)):
  XW ar T i V E rc o (G (Frame.enter ar 116 #[.pointer (some ⟨D.bn,0,none⟩),.int .i64 (ord i)] .normal) (c::cs)) w:=by
 have W:∀rc,fg ar false (fun o=>cF T i o rc) (G1 T i rc) (fun o g w=>gj ar T i V E ⟨g,o,rc,w⟩):=fun rc=>cv rc;have W1:=W rc;have hs:=hD.pI i hW.i;have hsI:(ord i:Int)<(D.n:Int):=aa;have XL:=hD.short _ hs;have uh:=hD.ch i hW.i;have eH:∀j,j<4->T.js i (.cell ⟨D.Rb,ord i*4+j,none⟩):=fun j hj=>(hD.own i _).2 ⟨hW.i,.inl ⟨j,hj,rfl⟩⟩;have BB:T.js i (.cell ⟨D.Nb,ord i,none⟩):=(hD.own i _).2 ⟨hW.i,.inr rfl⟩;rw[ij func116 rfl];refine kj (P:=ar) (fn:=116) (T:=T) (i:=i) (V:=V) (E:=E) (Q:=fun e a' mX o' w'=>(e=.normal\/e=.ret)/\a'.defers=[{target:=.builtin .close #[207] 0 #[false],args:=#[.chan (some (D.ch (ord i)))]}]/\(∀b,o b->o' b)/\(∀b,o' b->T.H0<=b)/\(∀b,o b->w'.heap[b]?=w.heap[b]?)/\(Go.ConcN.WgLive T.ty T.Wg w->Go.ConcN.WgLive T.ty T.Wg w')/\mL D (ord i) old (dA D res (ord i)) (res (ord i)) (fun b=>o' b/\¬o b) w') ?_ (base 116) [] (c::cs) rfl (by simp[base]) ?_
 case refine_2 =>
  rintro e ⟨tm,df⟩ mX o' w' ⟨he,pF,h1,h5,h2,h4,h3⟩;simp only at pF;subst pF;have leave:∀todo,XW ar T i V E mX o' (G {(base 116).at ⟨tm,[{target:=.builtin .close #[207] 0 #[false],args:=#[.chan (some (D.ch (ord i)))]}]⟩ todo with mode:=.returning} (c::cs)) w':=fun todo =>
   gj.close (by rw[uh]) af fun w1 hr s r t hc=>QK mX o' w' tm todo h1 h5 h2 h4 h3 w1 hr s r t hc
  rcases he with rfl|rfl
  ·exact(W mX).go rfl (fun _=>dG) (leave [])
  ·exact leave
 refine ff ?_;refine eK ?_;have Je:∀w3,cF T i o rc w w3->w3.cell? ⟨D.bn,4,none⟩=some (.slice (some ⟨D.Mb,0,none⟩) D.n D.n):=fun w3 hr=>(hd.later hD hr).b4;have QL:∀w3,cF T i o rc w w3->w3.cell? ⟨D.Mb,ord i,none⟩=some (.chan (some (D.ch (ord i)))):=fun w3 hr=>(hd.later hD hr).made _ hs
 (refine fp W1 Je rfl ai (fun w9 hc=>⟨.refl _ _,fun e he=>?_⟩) fun w9 hc K hK=>?_;(focus (rw[bS];have he:=mem_listed he;simp[go_sem, *] at he;subst he;exact eT hD.Cx));go_simp;refine hK _ ?_;clear hK K;clear hc w9;try walk_nrm)
 refine eK ?_
 (refine fp W1 QL rfl ai (fun w9 hc=>⟨.refl _ _,fun e he=>?_⟩) fun w9 hc K hK=>?_;(focus (rw[bS];have he:=mem_listed he;simp[go_sem, *] at he;subst he;exact eT hD.qMb));go_simp;refine hK _ ?_;clear hK K;clear hc w9;try walk_nrm)
 refine kH W1 (d:={target:=.builtin .close #[207] 0 #[false],args:=#[.chan (some (D.ch (ord i)))]}) rfl ai (fun w1=>?_) (fun w1=>fa) rfl ?_
 ·simp[go_sem,uh]
 refine eK ?_;clear Je QL;refine kj (J3 ?_);refine dp ?_;have Je:∀w3,cF T i o rc w w3->w3.cell? ⟨D.bn,0,none⟩=some (.pointer (some ⟨D.Lb,D.Lo,none⟩)):=fun w3 hr=>(hd.later hD hr).b0;have QL:∀w3,cF T i o rc w w3->w3.cell? ⟨D.Lb,D.Lo,none⟩=some (.slice (some ⟨D.St,0,none⟩) D.n D.n):=fun w3 hr=>(hd.later hD hr).steps;have hS3:∀w3,cF T i o rc w w3->w3.cell? ⟨D.St,ord i*3+2,none⟩=some (.slice (some ⟨D.cw (ord i),0,none⟩) (D.ins (ord i)).length (D.ins (ord i)).length):=fun w3 hr=>(hd.later hD hr).zJ _ hs
 repeat (refine tg rfl rfl ?_ ?_ ?_;(focus (rfl));(focus (intro w1;first|(simp[go_sem];done)|(simp[go_sem, *];done)));intro w1 K hK;go_simp;refine hK _ ?_;clear hK K w1;try walk_nrm)
 (refine oC Je rfl ai (fun w9 hc=>⟨.refl _ _,fun e he=>?_⟩) fun w9 hc K hK=>?_;(focus (rw[bS];have he:=mem_listed he;simp[go_sem, *] at he;subst he;exact eT hD.Cx));go_simp;refine hK _ ?_;clear hK K;clear hc w9;try walk_nrm)
 repeat (refine tg rfl rfl ?_ ?_ ?_;(focus (rfl));(focus (intro w1;first|(simp[go_sem];done)|(simp[go_sem, *];done)));intro w1 K hK;go_simp;refine hK _ ?_;clear hK K w1;try walk_nrm)
 (refine oC QL rfl ai (fun w9 hc=>⟨.refl _ _,fun e he=>?_⟩) fun w9 hc K hK=>?_;(focus (rw[bS];have he:=mem_listed he;simp[go_sem, *] at he;subst he;exact eT hD.XJ));go_simp;refine hK _ ?_;clear hK K;clear hc w9;try walk_nrm)
 repeat (refine tg rfl rfl ?_ ?_ ?_;(focus (rfl));(focus (intro w1;first|(simp[go_sem];done)|(simp[go_sem, *];done)));intro w1 K hK;go_simp;refine hK _ ?_;clear hK K w1;try walk_nrm)
 (refine oC hS3 rfl ai (fun w9 hc=>⟨.refl _ _,fun e he=>?_⟩) fun w9 hc K hK=>?_;(focus (rw[bS];have he:=mem_listed he;simp[go_sem, *] at he;subst he;exact eT hD.XK));go_simp;refine hK _ ?_;clear hK K;clear hc w9;try walk_nrm)
 refine J4 rfl ai rfl func161 af rfl aC rfl ((NN hW hD res hV fD hd).mono ?_);clear Je QL hS3 W1;rintro v te o2 w2 ⟨A,rfl,hA,QD,b6,wP,l2⟩;have W2:=W te;walk_nrm;refine wz ?_;refine eK ?_;refine ff ?_;have SN:=hd.later hD l2.rel;have hlen:(dA D res (ord i)).length=(D.ins (ord i)).length:=by simp[dA]
 refine Ha W2 (fun a' o' w'=>a'.tmps.size=68/\a'.defers=[{target:=.builtin .close #[207] 0 #[false],args:=#[.chan (some (D.ch (ord i)))]}]/\a'.eval (.tmp 0)=.pointer (some ⟨D.bn,0,none⟩)/\a'.eval (.tmp 1)=.int .i64 (ord i)/\a'.eval (.tmp 4)=.slice (some ⟨A,0,none⟩) (D.ins (ord i)).length (D.ins (ord i)).length/\(∀B,old≠some (B,dA D res (ord i)))/\cB T i te o2 w2 o' w') ?_ ?_
 case refine_2 =>
  rintro⟨tm,df⟩ o3 w3 ⟨ft,pF,t0,t1,t4,CM,l3⟩;simp only at ft pF;subst pF;obtain⟨gs,rfl⟩:=fA ft;simp only[List.range,List.range.loop,List.map_cons,List.map_nil] at *;simp[Act.eval] at t0 t1 t4;simp only[t0,t1,t4];clear t0 t1 t4 ft;have l3':cB T i rc o w o3 w3:=l2.trans ⟨cF.nX wP l3.rel,l3.ok,l3.more⟩;have hd3:=SN.later hD l3.rel;have rZ:o3 A:=l3.more A hA;have VT:=b6.of_block (l3.rel.own A hA);have hp3:jB w3:=hp.later XD l3';refine qY W2 ?_;refine tL mixed (n:=21) af [.pointer (some ⟨D.bn,0,none⟩),.pointer (some ⟨D.bn,0,none⟩),.pointer (some ⟨D.bn,2,none⟩),.slice (some ⟨D.Rb,0,none⟩) D.n D.n,.int .i64 (ord i),.slice (some ⟨A,0,none⟩) (D.ins (ord i)).length (D.ins (ord i)).length,.pointer (some ⟨D.bn,0,none⟩),.pointer (some ⟨D.bn,0,none⟩),.pointer (some ⟨D.bn,0,none⟩),.pointer (some ⟨D.Lb,D.Lo,none⟩),.pointer (some ⟨D.Lb,D.Lo,none⟩),.pointer (some ⟨D.Lb,D.Lo,none⟩),.slice (some ⟨D.St,0,none⟩) D.n D.n,.int .i64 (ord i),.pointer (some ⟨D.St,ord i*3,none⟩),.pointer (some ⟨D.St,ord i*3+1,none⟩),.int .i64 (D.jm (ord i)),.slice (some ⟨A,0,none⟩) (D.ins (ord i)).length (D.ins (ord i)).length,.agg #[.bool (res (ord i)).1,.string (res (ord i)).2],.agg #[.bool true,.slice (some ⟨A,0,none⟩) (D.ins (ord i)).length (D.ins (ord i)).length,.bool (res (ord i)).1,.string (res (ord i)).2],.pointer (some ⟨D.Rb,ord i*4,none⟩)]
   (S:=fun o5 w5=>cB T i te o3 w3 o5 w5) (fun o5 w5 w6 h hr=>mK h hr) (.refl l3.ok) ?_
  have F1:∀o5 w5,cB T i te o3 w3 o5 w5->w5.cell? ⟨D.bn,2,none⟩=some (.slice (some ⟨D.Rb,0,none⟩) D.n D.n):=fun o5 w5 h=>(hd3.later hD h.rel).b2;have F2:∀o5 w5,cB T i te o3 w3 o5 w5->w5.cell? ⟨D.bn,0,none⟩=some (.pointer (some ⟨D.Lb,D.Lo,none⟩)):=fun o5 w5 h=>(hd3.later hD h.rel).b0;have F3:∀o5 w5,cB T i te o3 w3 o5 w5->w5.cell? ⟨D.Lb,D.Lo,none⟩=some (.slice (some ⟨D.St,0,none⟩) D.n D.n):=fun o5 w5 h=>(hd3.later hD h.rel).steps;have F4:∀o5 w5,cB T i te o3 w3 o5 w5->w5.cell? ⟨D.St,ord i*3+1,none⟩=some (.int .i64 (D.jm (ord i))):=fun o5 w5 h=>(hd3.later hD h.rel).eD _ hs;simp only[List.range,List.range.loop]
  iterate 3 refine sX ?_
  (refine cu rfl rfl (jL fun o5 w5 my=>⟨?_,fun e he=>?_⟩) ?_;(focus (have hF:=F1 o5 w5 my;simp[go_sem,hF];done));(focus (have hF:=F1 o5 w5 my;simp[go_sem,hF] at he;subst he;exact eT hD.Cx));try walk_nrm)
  iterate 5 refine sX ?_
  (refine cu rfl rfl (jL fun o5 w5 my=>⟨?_,fun e he=>?_⟩) ?_;(focus (have hF:=F2 o5 w5 my;simp[go_sem,hF];done));(focus (have hF:=F2 o5 w5 my;simp[go_sem,hF] at he;subst he;exact eT hD.Cx));try walk_nrm)
  refine sX ?_;refine sX ?_
  (refine cu rfl rfl (jL fun o5 w5 my=>⟨?_,fun e he=>?_⟩) ?_;(focus (have hF:=F3 o5 w5 my;simp[go_sem,hF];done));(focus (have hF:=F3 o5 w5 my;simp[go_sem,hF] at he;subst he;exact eT hD.XJ));try walk_nrm)
  iterate 3 refine sX ?_
  (refine cu rfl rfl (jL fun o5 w5 my=>⟨?_,fun e he=>?_⟩) ?_;(focus (have hF:=F4 o5 w5 my;simp[go_sem,hF];done));(focus (have hF:=F4 o5 w5 my;simp[go_sem,hF] at he;subst he;exact eT hD.XK));try walk_nrm)
  refine sX ?_;refine cu rfl rfl (.inr ⟨163,_,_,_,_,rfl,func163,af,rfl,fun o5 w5 l5=>?_⟩) ?_
  ·have h:=XM (V:=V) (E:=E) (rc:=te) hW XD (D.jm (ord i)) QI A (dA D res (ord i)) aa pP l5.ok (l5.more A rZ) (VT.of_block (l5.rel.own A rZ)) (hp3.later XD l5);rw[hlen,<- xQ] at h;simp only[List.map_toArray,List.map_cons,List.map_nil,Act.eval];refine h.mono ?_;rintro v o6 w6 ⟨rfl,l6⟩;exact⟨rfl,l5.trans l6⟩
  walk_nrm;refine sX ?_;refine sX ?_;refine nB fun o5 w5 l5=>?_;have FU:cB T i rc o w o5 w5:=l3'.trans ⟨cF.nX wP l5.rel,l5.ok,l5.more⟩;obtain⟨x0,x1,x2,x3,FP,ui,Zp,hx3⟩:=hold.some;have sY:∀w6,cF T i o5 te w5 w6->w6.cell? ⟨D.Rb,ord i*4,none⟩=some x0/\w6.cell? ⟨D.Rb,ord i*4+1,none⟩=some x1/\w6.cell? ⟨D.Rb,ord i*4+2,none⟩=some x2/\w6.cell? ⟨D.Rb,ord i*4+3,none⟩=some x3:=fun w6 hr =>
   ⟨(hr.mine _ (.inl (eH 0 aa))).trans ((FU.rel.mine _ (.inl (eH 0 aa))).trans FP),(hr.mine _ (.inl (eH 1 aa))).trans ((FU.rel.mine _ (.inl (eH 1 aa))).trans ui),
    (hr.mine _ (.inl (eH 2 aa))).trans ((FU.rel.mine _ (.inl (eH 2 aa))).trans Zp),(hr.mine _ (.inl (eH 3 aa))).trans ((FU.rel.mine _ (.inl (eH 3 aa))).trans hx3)⟩
  have hRH:=(hW.ok.sh _ hD.O3).1;have hNH:=(hW.ok.sh _ hD.VR).1;have qi:o5 A:=l5.more A rZ;have hAH:=(l5.ok.tK A qi).1;refine yY rfl ai D.Rb hD.O3 (f:=fun w6=>(((w6.setCell ⟨D.Rb,ord i*4,none⟩ (.bool true)).setCell ⟨D.Rb,ord i*4+1,none⟩ (.slice (some ⟨A,0,none⟩) (D.ins (ord i)).length (D.ins (ord i)).length)).setCell ⟨D.Rb,ord i*4+2,none⟩ (.bool (res (ord i)).1)).setCell ⟨D.Rb,ord i*4+3,none⟩ (.string (res (ord i)).2))
   (fun w6 hr=>?_) (fun w6=>(((lG.set _ _ (eH 0 aa)).trans (lG.set _ _ (eH 1 aa))).trans (lG.set _ _ (eH 2 aa))).trans (lG.set _ _ (eH 3 aa))) (fun w6 hr e he=>?_) rfl fun w6 hr dW=>?_
  ·obtain⟨c0,c1,c2,c3⟩:=sY w6 hr;have f:=((QJ.later hD.O3 FU.rel).later hD.O3 hr).frozen;simp[go_sem,c0,c1,c2,c3,f]
  ·obtain⟨c0,c1,c2,c3⟩:=sY w6 hr;have f:=((QJ.later hD.O3 FU.rel).later hD.O3 hr).frozen;simp[go_sem,c0,c1,c2,c3,f] at he;obtain⟨j,wt,sy,hj,rfl⟩:=(aaX (.bool true) (.slice (some ⟨A,0,none⟩) (D.ins (ord i)).length (D.ins (ord i)).length) (.bool (res (ord i)).1) (.string (res (ord i)).2) c0 c1 c2 c3 f rfl rfl rfl rfl).2.2.2.2 _ e he;exact⟨_,_,_,rfl,eH j hj⟩
  obtain⟨c0,c1,c2,c3⟩:=sY w6 hr;have f:=((QJ.later hD.O3 FU.rel).later hD.O3 hr).frozen;obtain⟨n0,n1,n2,n3,-⟩:=aaX (P:=ar) (.bool true) (.slice (some ⟨A,0,none⟩) (D.ins (ord i)).length (D.ins (ord i)).length) (.bool (res (ord i)).1) (.string (res (ord i)).2) c0 c1 c2 c3 f rfl rfl rfl rfl;generalize (((w6.setCell ⟨D.Rb,ord i*4,none⟩ (.bool true)).setCell ⟨D.Rb,ord i*4+1,none⟩ (.slice (some ⟨A,0,none⟩) (D.ins (ord i)).length (D.ins (ord i)).length)).setCell ⟨D.Rb,ord i*4+2,none⟩ (.bool (res (ord i)).1)).setCell ⟨D.Rb,ord i*4+3,none⟩ (.string (res (ord i)).2)=w7 at *;have l6:cB T i rc o w o5 w6:=mK FU (cF.nX wP hr);have hRN:D.Rb≠D.Nb:=hD.apart;have alo:fT T o5 w7:=⟨fun b hb=>by have:=l6.ok.tK b hb;have:=dW.size;omega,by have:=l6.ok.size;have:=dW.size;omega⟩;have hd7:kG D w7:=(hd.later hD l6.rel).HH hD fun b hb=>dW.heap b fun e=>hb.sh (e▸hD.O3);have hN7:w7.cell? ⟨D.Nb,ord i,none⟩=some (.bool false):=by rw[cell_of (dW.heap _ (bc hRN)),l6.rel.mine _ (.inl BB)];exact TX
  have Jf:w7.heap[A]?=w3.heap[A]?:=by rw[dW.heap A aa,hr.own A qi,l5.rel.own A rZ]
  have VU:uq w7 D.Nb:=by
   obtain⟨c,t,hh⟩:=XO.later hD.VR l6.rel;exact⟨c,t,by rw[dW.heap _ (bc hRN)];exact hh⟩
  have XP:∀b,o b->w7.heap[b]?=w.heap[b]?:=fun b hb=>by
   rw[dW.heap b (by have:=(fD.tK b hb).1;omega)];exact l6.rel.own b hb
  have QH:=VT.of_block Jf;have ae5:Go.ConcN.WgLive T.ty T.Wg w->Go.ConcN.WgLive T.ty T.Wg w7:=fun x=>fQ (dW.heap _ (bc (hW.ok.sh _ hD.O3).2.1)) (l6.rel.wg x);clear F1 F2 F3 F4 sY dW hr f c0 c1 c2 c3;refine eK ?_;have Je:∀w3,cF T i o5 te w7 w3->w3.cell? ⟨D.bn,3,none⟩=some (.slice (some ⟨D.Nb,0,none⟩) D.n D.n):=fun w3 hr=>(hd7.later hD hr).b3
  (refine fp W2 Je rfl ai (fun w9 hc=>⟨.refl _ _,fun e he=>?_⟩) fun w9 hc K hK=>?_;(focus (rw[bS];have he:=mem_listed he;simp[go_sem, *] at he;subst he;exact eT hD.Cx));go_simp;refine hK _ ?_;clear hK K;clear hc w9;try walk_nrm)
  refine eK ?_;refine yY rfl ai D.Nb hD.VR (f:=fun w8=>w8.setCell ⟨D.Nb,ord i,none⟩ (.bool true)) (fun w8 hr=>?_) (fun w8=>lG.set _ _ BB) (fun w8 hr e he=>?_) rfl fun w8 hr dW=>?_
  ·have c0:=(hr.mine _ (.inl BB)).trans hN7;have f:=(VU.later hD.VR hr).frozen;simp[go_sem,c0,f]
  ·have c0:=(hr.mine _ (.inl BB)).trans hN7;have f:=(VU.later hD.VR hr).frozen;simp[go_sem,c0,f] at he;rw[cD _ _ c0 (f _) rfl] at he;simp at he;subst he;exact⟨_,_,_,rfl,BB⟩
  have hN8:(w8.setCell ⟨D.Nb,ord i,none⟩ (.bool true)).cell? ⟨D.Nb,ord i,none⟩=some (.bool true):=HN _ _ _ _ ((hr.mine _ (.inl BB)).trans hN7);generalize w8.setCell ⟨D.Nb,ord i,none⟩ (.bool true)=w9 at *;have hm9:∀j,j<4->w9.cell? ⟨D.Rb,ord i*4+j,none⟩=w7.cell? ⟨D.Rb,ord i*4+j,none⟩:=fun j hj=>by rw[cell_of (dW.heap _ hRN)];exact hr.mine _ (.inl (eH j hj))
  refine eK ?_;refine⟨.inl trivial,trivial,FU.more,fun b hb=>(FU.ok.tK b hb).1,fun b hb=>?_,fun x=>fQ (dW.heap _ (bc (hW.ok.sh _ hD.VR).2.1)) (hr.wg (ae5 x)),.inr ⟨CM,A,⟨qi,QD⟩,QH.of_block ?_,⟨(hm9 0 aa).trans n0,?_,(hm9 2 aa).trans n2,(hm9 3 aa).trans n3⟩,hN8⟩⟩
  ·rw[dW.heap b (by have:=(fD.tK b hb).1;omega),hr.own b (FU.more b hb)];exact XP b hb
  ·rw[dW.heap A aa];exact hr.own A qi
  ·rw[hlen];exact(hm9 1 aa).trans n1
 have Je:∀w3,cF T i o2 te w2 w3->w3.cell? ⟨D.bn,2,none⟩=some (.slice (some ⟨D.Rb,0,none⟩) D.n D.n):=fun w3 hr=>(SN.later hD hr).b2;refine eK ?_
 (refine fp W2 Je rfl ai (fun w9 hc=>⟨.refl _ _,fun e he=>?_⟩) fun w9 hc K hK=>?_;(focus (rw[bS];have he:=mem_listed he;simp[go_sem, *] at he;subst he;exact eT hD.Cx));go_simp;refine hK _ ?_;clear hK K;clear hc w9;try walk_nrm)
 clear Je;refine eK ?_;have hm:∀j,j<4->w2.cell? ⟨D.Rb,ord i*4+j,none⟩=w.cell? ⟨D.Rb,ord i*4+j,none⟩:=fun j hj=>l2.rel.mine _ (.inl (eH j hj));obtain⟨dn,ob,ol,mb,mt,eY,fy⟩:∃dn ob ol mb mt,(w2.cell? ⟨D.Rb,ord i*4,none⟩=some (.bool dn)/\w2.cell? ⟨D.Rb,ord i*4+1,none⟩=some (.slice ob ol ol)/\w2.cell? ⟨D.Rb,ord i*4+2,none⟩=some (.bool mb)/\w2.cell? ⟨D.Rb,ord i*4+3,none⟩=some (.string mt)) /\
   ((dn=false/\old=none)\/(dn=true/\∃B vs,old=some (B,vs)/\ob=some ⟨B,0,none⟩/\ol=vs.length/\(mb,mt)=jC (D.jm (ord i)) vs/\vt w B 0 vs/\Quiet T B/\vs.length<=100000)):=by
  cases old with
  |none=>exact⟨_,_,_,_,_,⟨(hm 0 aa).trans hold.c0,(hm 1 aa).trans hold.c1,(hm 2 aa).trans hold.c2,(hm 3 aa).trans hold.c3⟩,.inl ⟨rfl,rfl⟩⟩
  |some x=>exact⟨_,_,_,_,_,⟨(hm 0 aa).trans hold.1.c0,(hm 1 aa).trans hold.1.c1,(hm 2 aa).trans hold.1.c2,(hm 3 aa).trans hold.1.c3⟩,.inr ⟨rfl,x.1,x.2,rfl,rfl,rfl,rfl,hold.2.1,hold.2.2.1,hold.2.2.2⟩⟩
 have Je:∀w3,cF T i o2 te w2 w3->w3.cell? ⟨D.Rb,ord i*4,none⟩=some (.bool dn)/\w3.cell? ⟨D.Rb,ord i*4+1,none⟩=some (.slice ob ol ol)/\w3.cell? ⟨D.Rb,ord i*4+2,none⟩=some (.bool mb)/\w3.cell? ⟨D.Rb,ord i*4+3,none⟩=some (.string mt):=fun w3 hr =>
  ⟨(hr.mine _ (.inl (eH 0 aa))).trans eY.1,(hr.mine _ (.inl (eH 1 aa))).trans eY.2.1,(hr.mine _ (.inl (eH 2 aa))).trans eY.2.2.1,(hr.mine _ (.inl (eH 3 aa))).trans eY.2.2.2⟩
 (refine fp W2 Je rfl ai (fun w9 hc=>⟨.refl _ _,fun e he=>?_⟩) fun w9 hc K hK=>?_;(focus (rw[bS];obtain⟨c0,c1,c2,c3⟩:=hc;have he:=mem_listed he;simp[go_sem, *] at he;rcases he with rfl|rfl|rfl|rfl<;>(first|exact tf (eH 0 aa)|exact tf (eH 1 aa)|exact tf (eH 2 aa)|exact tf (eH 3 aa))));obtain⟨c0,c1,c2,c3⟩:=hc;go_simp;refine hK _ ?_;clear hK K;clear c0 c1 c2 c3 w9;try walk_nrm)
 clear Je;refine mI hW.ok hW.i l2.ok rfl ai rfl (Obj.cells #[.bool false,.slice none 0 0,.bool false,.string aN] 222) (fun w1=>by simp[go_sem];rfl) (fun w1=>fa) fun C o3 w3 l3 hC hCx hwC ho3=>?_;try walk_nrm
 have hCr:w3.rowIs C 222 4 (fun k=>if k=0 then .bool false else if k=1 then .slice none 0 0 else if k=2 then .bool false else .string aN):=⟨_,hCx,rfl,fun k hk=>by
  rcases(show k=0\/k=1\/k=2\/k=3 by omega) with rfl|rfl|rfl|rfl<;>rfl⟩
 have hnC:¬o2 C:=fun h=>by have:=(l2.ok.tK C h).2;omega
 refine HI hW.ok hW.i l3.ok rfl ai C hC hCr (.bool dn) (.slice ob ol ol) (.bool mb) (.string mt) rfl rfl rfl rfl (fun w1 c f=>?_) (fun w1 c f=>⟨.plain,?_⟩) fun w4 l4 Zn=>?_
 ·have c0:=c 0 aa;have c1:=c 1 aa;have c2:=c 2 aa;have c3:=c 3 aa;simp at c0 c1 c2 c3;clear c;simp[go_sem,c0,c1,c2,c3,f]
 ·have c0:=c 0 aa;have c1:=c 1 aa;have c2:=c 2 aa;have c3:=c 3 aa;simp at c0 c1 c2 c3;clear c;simp[go_sem,c0,c1,c2,c3,f]
 have Jd:cB T i te o2 w2 o3 w4:=(l3.vn.trans l4).later hnC;clear l4 hCr hCx l3;try walk_nrm
 refine eK ?_;have O4:∀w5,cF T i o3 te w4 w5->w5.cell? ⟨C,0,none⟩=some (.bool dn):=fun w5 hr=>by rw[cell_of (hr.own C hC)];exact Zn.cell (i:=0) aa
 have my:∀w5,cF T i o3 te w4 w5->w5.cell? ⟨C,1,none⟩=some (.slice ob ol ol):=fun w5 hr=>by rw[cell_of (hr.own C hC)];exact Zn.cell (i:=1) aa
 (refine fp W2 O4 rfl ai (fun w9 hc=>⟨.refl _ _,fun e he=>?_⟩) fun w9 hc K hK=>?_;(focus (rw[bS];have he:=mem_listed he;simp[go_sem, *] at he;subst he;exact nD hC));go_simp;refine hK _ ?_;clear hK K;clear hc w9;try walk_nrm)
 refine eK ?_;have l4:cB T i rc o w o3 w4:=l2.trans ⟨cF.nX wP Jd.rel,Jd.ok,Jd.more⟩;rcases fy with⟨rfl,rfl⟩|⟨rfl,B,vs,rfl,rfl,rfl,LV,Nk,hqB,ae7⟩
 ·refine gW W2 rfl ai ?_;walk_nrm;refine gW W2 rfl ai ?_;walk_nrm;refine gW W2 rfl ai ?_;walk_nrm;refine gW W2 rfl ai ?_;refine eK ?_;exact⟨rfl,trivial,rfl,rfl,rfl,an,Jd⟩
 refine eK ?_
 (refine fp W2 my rfl ai (fun w9 hc=>⟨.refl _ _,fun e he=>?_⟩) fun w9 hc K hK=>?_;(focus (rw[bS];have he:=mem_listed he;simp[go_sem, *] at he;subst he;exact nD hC));go_simp;refine hK _ ?_;clear hK K;clear hc w9;try walk_nrm)
 refine eK ?_;have ae8:vt w4 B 0 vs:=fun k hk=>by rw[hqB.cell l4.rel,hqB.cell l4.rel];exact Nk k hk
 have rZ:o3 A:=Jd.more A hA;have aaZ:vt w4 A 0 (dA D res (ord i)):=(b6.of_block (Jd.rel.own A hA)).lj;refine aF W2 rfl ai rfl func162 af rfl (by simp[Act.eval,<- hlen]) rfl ((TW hW B A vs (dA D res (ord i)) ae7 aa Jd.ok hqB ae8 rZ aaZ).mono ?_);rintro v o5 w5 ⟨rfl,l5⟩;walk_nrm;by_cases heq:vs=dA D res (ord i)
 ·simp only[heq,decide_true];refine eK ?_;have FU:cB T i rc o w o5 w5:=l4.trans ⟨cF.nX wP l5.rel,l5.ok,l5.more⟩;have hm5:∀j,j<4->w5.cell? ⟨D.Rb,ord i*4+j,none⟩=w.cell? ⟨D.Rb,ord i*4+j,none⟩:=fun j hj=>FU.rel.mine _ (.inl (eH j hj));have cm:=hold.1;rw[heq,<- xQ] at cm;exact⟨.inr trivial,trivial,FU.more,fun b hb=>(FU.ok.tK b hb).1,FU.rel.own,FU.rel.wg,.inl ⟨B,rfl,⟨(hm5 0 aa).trans cm.c0,(hm5 1 aa).trans cm.c1,(hm5 2 aa).trans cm.c2,(hm5 3 aa).trans cm.c3⟩,(FU.rel.mine _ (.inl BB)).trans TX⟩⟩
 ·simp only[heq,decide_false];refine eK ?_;exact⟨rfl,trivial,rfl,rfl,rfl,fun B' h=>heq (by cases h;rfl),Jd.trans l5⟩
end
abbrev link:Go.Conc.Lib.WgLink:={add:=113,done:=115,wait:=117,relMerge:=125,disable:=120,enable:=122,inBubble:=151,associate:=152,fatal:=153,uOr:=154,uAdd:=155,raceRead:=156,uLoad:=157,uStore:=158,disassociate:=159,semrelease:=160,acquire:=123,isAssociated:=164,uCas:=165,raceWrite:=166,semacquire:=167,orU64:=192,addU64:=193,loadU64:=194,storeU64:=195,casU64:=200,tWgP:=251,tUP:=116,tAssoc:=252,tWg:=216,tAU:=214,tU64:=212,tUint:=223,tU32:=102,tPU32:=255,tPAU:=283,tPU64:=285,tNoCopy:=101,tANoCopy:=115,tAlign64:=211}
theorem yZ:Go.Conc.Lib.WgLib ar link :=
 ⟨func113,func115,func117,func125,func120,func122,func151,func152,func153,func154,func155,func156,func157,func158,func159,func160,func123,func164,func165,func166,func167,func192,func193,func194,func195,func200,underlying251,runUnderlying251,sizeOf251,isAgg251,zeroValue251,underlying116,runUnderlying116,sizeOf116,isAgg116,zeroValue116,underlying252,runUnderlying252,sizeOf252,isAgg252,zeroValue252,underlying216,runUnderlying216,sizeOf216,isAgg216,zeroValue216,underlying214,runUnderlying214,sizeOf214,isAgg214,zeroValue214,underlying212,runUnderlying212,sizeOf212,isAgg212,zeroValue212,underlying223,runUnderlying223,sizeOf223,isAgg223,zeroValue223,underlying102,runUnderlying102,sizeOf102,isAgg102,zeroValue102,underlying255,runUnderlying255,sizeOf255,isAgg255,zeroValue255,underlying283,runUnderlying283,sizeOf283,isAgg283,zeroValue283,underlying285,runUnderlying285,sizeOf285,isAgg285,zeroValue285,underlying0,runUnderlying0,sizeOf0,isAgg0,zeroValue0,underlying3,runUnderlying3,sizeOf3,isAgg3,zeroValue3,underlying4,runUnderlying4,sizeOf4,isAgg4,zeroValue4,underlying9,runUnderlying9,sizeOf9,isAgg9,zeroValue9,underlying20,runUnderlying20,sizeOf20,isAgg20,zeroValue20,underlying21,runUnderlying21,sizeOf21,isAgg21,zeroValue21,af,af⟩
open Go.ConcN
section
open Go.Conc.Lib Go.ConcR.Gen Go.ConcN.Gen
open Go.ConcR (KK wgBlock WgAt stA smA rd wr mk Payload DC0)
def HO(n:Nat):Frame:={(default:Frame) with fn:=n,defers:=[],mode:=.panicking [goexitEntry]}
def D8(Wg Bb C:Nat):Deferred:={target:=.fn (.func 114) #[.pointer (some ⟨Wg,0,none⟩),.pointer (some ⟨Bb,0,none⟩),.pointer (some ⟨C,0,none⟩)],args:=#[]}
def bW:Frame:=baseD 114
theorem Kt(Wg Bb C:Nat)(w:ae):stepG ar false (born ar (D8 Wg Bb C)) w =
  .go (G (bW.at ⟨#[.pointer (some ⟨Wg,0,none⟩),.pointer (some ⟨Bb,0,none⟩),.pointer (some ⟨C,0,none⟩),undef,undef,undef],[]⟩ [.code (Tryz.f114.body.getD .skip)]) [HO ar.funcs.size]) w #[]:=by
 simp[born,D8,stepG,unwind,callDeferred,invoke,callFunc,func114,Tryz.f114,seen,GStep.after,G,Frame.enter,Frame.at,bW,baseD,HO]
theorem Ku(T:Array Value):QuitsD ar 2 0 (G {bW.at ⟨T,[]⟩ [] with mode:=.returning} [HO ar.funcs.size]):=by
 refine QuitsD.ctl (g':=G (HO ar.funcs.size) []) rfl (fun w=>?_) ?_
 ·simp[G,stepG,unwind,doReturn,results,Frame.at,bW,baseD,HO,func114,Tryz.f114,seen,GStep.after,goexitEntry]
 refine QuitsD.ctl (g':={G (HO ar.funcs.size) [] with status:=.finished}) rfl (fun w=>?_) ⟨rfl,rfl⟩;simp[G,stepG,unwind,HO,goexitEntry,Frame.catches];rfl
theorem HP:Tryz.f116.results=#[]:=af
theorem results_none{P:Program}{fn:Func}(h:fn.results=#[])(tm:Array Value)(w:ae):(results fn tm).run P w=.ok (.tuple #[]) w/\(results fn tm).events P w #[]=#[]:=by
 unfold results;rw[h];exact⟨fa,fa⟩
section
variable [Payload] {T:cP} {i:Nat} {V:Nat->ae->Prop} {rc:Nat->Prop} {o:aM} {w:ae} {D:mf} {ord:Nat->Nat}
theorem tailW(Wg Bb C s:Nat)(tm tm2:Array Value)(todo:List Item)(df:Deferred)(pF:df={target:=.fn (.func 115) #[],args:=#[.pointer (some ⟨Wg,0,none⟩)]})(hK:WgLive 216 Wg w/\Has C (1-1) (.int .i64 (s:Int)) w)(ops:Array Oper)(ae9:ops[2]?=some {dst:=some 5,op:=.call {callee:=.value (.func 116),args:=#[.tmp 3,.tmp 4],argTypes:=#[151,3]},type:=0,pos:= "build.go:79",after:=#[{on:=0,ground:=.data},{on:=1,ground:=.data}],guard:=none}):
  ∃m,Goes ar false (RW 216 Wg C 0 0 (1-1)) (DWs Wg pN pN C 0 1) (AtR0 ar 216 Wg C 0 0 1 (.int .i64 (s:Int))) m (G {(base 116).at ⟨tm,[]⟩ todo with mode:=.returning} (bW.at ⟨tm2,[df]⟩ (.inRegion ops [2]::[])::[HO ar.funcs.size])) w:=by
 subst pF;refine⟨27,?_⟩
 u_in kn_rely hK
 rw[stepG_leave (b:=base 116) (v:=.tuple #[]) rfl rfl func116 (results_none HP _ _).1 (results_none HP _ _).2];simp only[goes_go];refine⟨by u_nil,?_⟩;rw[dF,ae9];simp only[Option.bind_some,Act.put]
 u_c ak kn_rely hK
 u_c dG kn_rely hK
 u_in kn_rely hK
 rw[stepG_unwind_enter rfl func115 (nm_done link) rfl];simp only[goes_go];refine⟨by u_nil,?_⟩;walk_nrmf Tryz.f115;have hA:=@doneN _ link ar yZ pN pN Wg C 0 0 1 (.int .i64 (s:Int));simp only[body_done,doneFn,Option.getD_some] at hA;exact hA rfl (Ku _) _ hK
theorem XQ{α:Type}{a c:Prop}{G:α->Prop}(ha:a)(h:∃m,G m)(hc:c):∃m,a/\G m/\c:=let ⟨m,h⟩:=h;⟨m,ha,h,hc⟩
def Vd(D:mf)(ord:Nat->Nat)(res:Nat->Kz.V)(k:Nat)(w:ae):Prop:=k<D.n/\w.cell? ⟨D.Rb,ord k*4+2,none⟩=some (.bool (res (ord k)).1)/\w.cell? ⟨D.Rb,ord k*4+3,none⟩=some (.string (res (ord k)).2)
def wS(D:mf)(ord:Nat->Nat)(old:Nat->Option (Nat×List Kz.V))(res:Nat->Kz.V)(k:Nat)(o:Nat->Prop)(w:ae):Prop:=k<D.n/\mL D (ord k) (old (ord k)) (dA D res (ord k)) (res (ord k)) o w
theorem L4{P:Program}{m:Bool}{R:aM->ae->ae->Prop}{Gu:aM->ae->ae->Array Event->Prop}{X:aM->aS->ae->Prop}(W:fg P m R Gu X){b:Frame}{a:Act}{k:List Item}{cs:List Frame}{o:aM}{w:ae}{ops:Array Oper}{i:Nat}{rest:List Nat}{op:Oper}{v:Value}(ho:ops[i]?=some op)(hw:Region.wanted op (yielded ops a.tmps)=true)(hk:b.kind≠.early){d:Option Tmp}(hd:op.dst=d)(hr:∀w1,R o w w1->(execOp a.eval op).run P w1=.ok (.value v) w1)(hg:∀w1,R o w w1->Gu o w1 w1 (listed P b.fn a op w1))(h:X o (G (b.at (a.put d v) (.inRegion ops rest::k)) cs) w):X o (G (b.at a (.inRegion ops (i::rest)::k)) cs) w:=by
 subst hd;exact W.step _ _ _ rfl fun w1 h1=>⟨_,_,_,dN ho hw hk (hr w1 h1),hg w1 h1,by rw[bS];exact W.rely _ _ _ _ h h1⟩
theorem QM(hW:qt T i)(hTn:T.n=D.n)(hty:T.ty=216)(XD:Quiet T 1)(hD:yd D T ord)(res:Nat->Kz.V)(old:Nat->Option (Nat×List Kz.V))(hd:kG D w)(hp:jB w)(xQ:res (ord i)=jC (D.jm (ord i)) (dA D res (ord i)))(QI:1<=D.jm (ord i)/\D.jm (ord i)<=5)(pP:iM ((dA D res (ord i)).map (·.2))<=1000000)(hold:E5 D T (ord i) (old (ord i)) w)(TX:w.cell? ⟨D.Nb,ord i,none⟩=some (.bool false))(QJ:uq w D.Rb)(XO:uq w D.Nb)(fD:fT T o w)(Bb C:Nat)(hBb:Quiet T Bb)(HQ:w.cell? ⟨Bb,0,none⟩=some (.pointer (some ⟨D.bn,0,none⟩)))(ho:∀b,o b↔b=C)(hC:w.cell? ⟨C,0,none⟩=some (.int .i64 (ord i)))(wT:WgLive T.ty T.Wg w):
  XW ar T i (Vd D ord res) (CR ar T (wS D ord old res) i) rc o (born ar (D8 T.Wg Bb C)) w:=by
 have W:=cv (P:=ar) (T:=T) (i:=i) (V:=Vd D ord res) (E:=CR ar T (wS D ord old res) i) rc;have Zq:o C:=(ho C).2 rfl;refine W.go rfl (fun w1=>Kt _ _ _ w1) ?_;simp only[Tryz.f114,Option.getD_some];refine W.go rfl (fun _=>ax) ?_;refine W.go rfl (fun _=>aV) ?_;refine dp ?_;refine W.go rfl (fun w1=>wR (d:={target:=.fn (.func 115) #[],args:=#[.pointer (some ⟨T.Wg,0,none⟩)]}) rfl ai dh fa fa) ?_;refine W.go rfl (fun _=>ak) ?_;refine W.go rfl (fun _=>aV) ?_;refine dp ?_;walk_nrm;have c1:∀w1,cF T i o rc w w1->w1.cell? ⟨Bb,0,none⟩=some (.pointer (some ⟨D.bn,0,none⟩)):=fun w1 h1=>by rw[hBb.cell h1];exact HQ
 have c2:∀w1,cF T i o rc w w1->w1.cell? ⟨C,0,none⟩=some (.int .i64 (ord i)):=fun w1 h1=>by rw[cell_of (h1.own C Zq)];exact hC
 refine L4 W (v:=.pointer (some ⟨D.bn,0,none⟩)) rfl ai dh rfl (fun w1 h1=>by simp[go_sem,c1 w1 h1]) (fun w1 h1=>⟨.refl _ _,fun e he=>?_⟩) ?_
 ·rw[bS];have he:=mem_listed he;simp[go_sem,c1 w1 h1] at he;subst he;exact eT hBb
 walk_nrm;refine L4 W (v:=.int .i64 (ord i)) rfl ai dh rfl (fun w1 h1=>by simp[go_sem,c2 w1 h1]) (fun w1 h1=>⟨.refl _ _,fun e he=>?_⟩) ?_
 ·rw[bS];have he:=mem_listed he;simp[go_sem,c2 w1 h1] at he;subst he;exact nD Zq
 walk_nrm;refine W.go rfl (fun w1=>pj rfl ai dh rfl func116 af rfl w1) ?_;simp only[List.map_toArray,List.map_cons,List.map_nil,Act.eval];walk_nrm;refine XN hW XD hD res (fun k w _ h=>h.2) fD hd hp xQ QI pP (old (ord i)) hold TX QJ XO _ _ fun mX o' w' tm todo h1 h5 h2 h4 h3 w1 hr s r t hc=>?_;have hmR:∀j,j<4->w1.cell? ⟨D.Rb,ord i*4+j,none⟩=w'.cell? ⟨D.Rb,ord i*4+j,none⟩:=fun j hj=>hr.mine _ (.inl ((hD.own i _).2 ⟨hW.i,.inl ⟨j,hj,rfl⟩⟩));have hmN:w1.cell? ⟨D.Nb,ord i,none⟩=w'.cell? ⟨D.Nb,ord i,none⟩:=hr.mine _ (.inl ((hD.own i _).2 ⟨hW.i,.inr rfl⟩));have hh:=oo w1 (T.ch i) s r t;have cV:∀b,T.Sh b->b≠T.ch i:=fun b hb=>bc ((hW.ok.sh b hb).2.2 i hW.i);have hCc:C≠T.ch i:=by have:=(fD.tK C Zq).1;have:=(hW.ok.ch i hW.i).1;omega
 have QN:WgLive T.ty T.Wg (w1.setChan (T.ch i) 0 #[] true s r t):=fQ (hh _ (bc (hW.ok.ch i hW.i).2)) (hr.wg (h4 wT));have hC':(w1.setChan (T.ch i) 0 #[] true s r t).cell? ⟨C,0,none⟩=some (.int .i64 (ord i)):=by rw[cell_of (hh C hCc),cell_of (hr.own C (h1 C Zq)),cell_of (h2 C Zq)];exact hC
 rw[hty] at QN;have hiD:i<D.n:=hTn▸hW.i;refine⟨⟨hiD,(hmR 2 aa).trans h3.made.1,(hmR 3 aa).trans h3.made.2⟩,C,.int .i64 (ord i),?_⟩;rw[hty];refine XQ (h1 C Zq) (tailW (w:=w1.setChan (T.ch i) 0 #[] true s r t) T.Wg Bb C (ord i) tm _ todo _ rfl ⟨QN,hC'⟩ _ ai) ?_;refine⟨hiD,mL.of h3 (fun j hj=>?_) ?_ fun b hb=>⟨⟨hb.1,fun e=>hb.2 ((ho b).2 e)⟩,?_⟩⟩
 ·rw[cell_of (hh _ (cV _ hD.O3))];exact hmR j hj
 ·rw[cell_of (hh _ (cV _ hD.VR))];exact hmN
 ·rw[hh b (by have:=h5 b hb.1;have:=(hW.ok.ch i hW.i).1;omega)];exact hr.own b hb.1
end
end
section
open Go.Conc.Lib Go.ConcR.Gen Go.ConcN.Gen
open Go.ConcR (KK wgBlock WgAt stA smA rd wr mk Payload DC0)
def ye(D:mf)(s:Nat)(old:Option (Nat×List Kz.V))(w:ae):Prop :=
 (match old with|none=>L2 D s w|some (B,vs)=>uQ D s w B vs (jC (D.jm s) vs))/\w.cell? ⟨D.Nb,s,none⟩=some (.bool false)/\uq w D.Rb/\uq w D.Nb
structure Setup(D:mf)(T:cP)(ord:Nat->Nat)(res:Nat->Kz.V)(old:Nat->Option (Nat×List Kz.V))(Bb Ob:Nat)(w0:ae):Prop where
 ok:T.OK
 n:T.n=D.n
 jF:ar.globals.size<=T.H0
 ty:T.ty=216
 q1:Quiet T 1
 dk:yd D T ord
 DI:kG D w0
 pow:jB w0
 made:∀i,i<T.n->res (ord i)=jC (D.jm (ord i)) (dA D res (ord i))
 eD:∀i,i<T.n->1<=D.jm (ord i)/\D.jm (ord i)<=5
 size:∀i,i<T.n->iM ((dA D res (ord i)).map (·.2))<=1000000
 qB:Quiet T Bb
 box:w0.cell? ⟨Bb,0,none⟩=some (.pointer (some ⟨D.bn,0,none⟩))
 qO:Quiet T Ob
 order:w0.cell? ⟨D.Lb,D.Lo+1,none⟩=some (.slice (some ⟨Ob,0,none⟩) D.n D.n)
 Kv:∀k,k<D.n->w0.cell? ⟨Ob,k,none⟩=some (.int .i64 (ord k))
 vv:∀s B vs,s<D.n->old s=some (B,vs)->vt w0 B 0 vs/\Quiet T B/\vs.length<=100000
 idle:∀k w,k<T.n->T.Idle k w->ye D (ord k) (old (ord k)) w
section
variable {T:cP} {o:aM} {w w0 w1:ae} {D:mf} {ord:Nat->Nat} {res:Nat->Kz.V} {old:Nat->Option (Nat×List Kz.V)} {Bb Ob:Nat}
theorem dc.less{o':aM}(h:dc T o w w1)(ho:∀b,o' b->o b):dc T o' w w1:=⟨h.size,fun b hb=>h.own b (ho b hb),h.ro,h.wg,h.os,h.output⟩
theorem Quiet.JQ{b:Nat}(q:Quiet T b)(r:dc T o w w1):w1.heap[b]?=w.heap[b]?:=r.ro b q.old q.wg q.sh q.ch
theorem Quiet.cellS{b off:Nat}(q:Quiet T b)(r:dc T o w w1):w1.cell? ⟨b,off,none⟩=w.cell? ⟨b,off,none⟩:=cell_of (q.JQ r)
theorem tN{b off:Nat}{sy:Bool}(q:Quiet T b):EvS T o ⟨.cell ⟨b,off,none⟩,false,sy⟩:=by
 refine⟨fun x hx _=>.inr (.inr ⟨?_,?_⟩),an,an,an⟩;all_goals
  simp only[MemAct.ofEvent,MemAct.touch?,Option.some.injEq] at hx;subst hx
 ·exact q.ro off
 ·rfl
variable [Payload]
theorem Setup.child(h:Setup D T ord res old Bb Ob w0){j C:Nat}(hj:j<T.n)(hr:dc T (fun _=>False) w0 w1)(wT:WgLive T.ty T.Wg w1)(hC:w1.cell? ⟨C,0,none⟩=some (.int .i64 (ord j)))(Ze:T.H0<=C/\C<w1.heap.size)(hid:T.Idle j w1)(hH:T.H0<=w1.heap.size):
  gj ar T j (Vd D ord res) (CR ar T (wS D ord old res) j) ⟨born ar (D8 T.Wg Bb C),fun b=>b=C,fun _=>False,w1⟩:=by
 obtain⟨h1,h2,h3,h4⟩:=h.idle j w1 hj hid;have hq:∀b,Quiet T b->w1.heap[b]?=w0.heap[b]?:=fun b q=>q.JQ hr;refine QM (o:=fun b=>b=C) (rc:=fun _=>False) ⟨h.ok,hj,h.jF⟩ h.n h.ty h.q1 h.dk res old (h.DI.HH h.dk hq) (fun q EN=>by rw[h.q1.cellS hr];exact h.pow q EN) (h.made j hj) (h.eD j hj) (h.size j hj) ?_ h2 h3 h4 ⟨fun b hb=>by rw[hb];exact Ze,hH⟩ Bb C h.qB (by rw[h.qB.cellS hr];exact h.box) (fun _=>cG) hC wT;cases ho:old (ord j) with
 |none=>rw[ho] at h1;exact h1
 |some x =>
  obtain⟨B,vs⟩:=x;rw[ho] at h1;obtain⟨k1,k2,k3⟩:=h.vv _ B vs (h.dk.pI j hj) ho;exact⟨h1,fun q EN=>by rw[k2.cellS hr,k2.cellS hr];exact k1 q EN,k2,k3⟩
theorem HR(h:Setup D T ord res old Bb Ob w0){cx:dV}{r0 r1 r2 lp tl:Code}(fo:Tryz.f74.body=some (.seq r0 (.seq r1 (.seq (.seq r2 (.block 0 (.loop lp))) tl))))(b:Frame)(k:List Item)(cs:List Frame)(pZ:b.fn=74)(qh:b.kind≠.early)(QK:∀o w (tm:Array Value),dc T (fun _=>False) w0 w->WgLive T.ty T.Wg w->(∀b,o b->T.H0<=b/\b<w.heap.size)->tm.size=21->tm[2]?=some (.pointer (some ⟨T.Wg,0,none⟩))->cM ar T (OY ar T cx) o (G (b.at ⟨tm,[]⟩ (.code tl::k)) cs) w):
  ∀r j,r+j=T.n->∀o w (tm:Array Value),dc T (fun _=>False) w0 w->WgLive T.ty T.Wg w->(∀b,o b->T.H0<=b/\b<w.heap.size)->T.H0<=w.heap.size->tm.size=21 ->
   tm[1]?=some (.pointer (some ⟨Bb,0,none⟩))->tm[2]?=some (.pointer (some ⟨T.Wg,0,none⟩))->tm[11]?=some (.slice (some ⟨Ob,0,none⟩) D.n D.n)->tm[12]?=some (.int .i64 D.n)->tm[13]?=some (.int .i64 j) ->
   iC ar T (Vd D ord res) (wS D ord old res) cx r o (G (b.at ⟨tm,[]⟩ (.code lp :: .inLoop lp :: .inBlock 0 :: .code tl::k)) cs) w:=by
 have TY:=fo;simp only[Tryz.f74,Option.some.injEq,Code.seq.injEq,Code.block.injEq,Code.loop.injEq,true_and] at TY;obtain⟨-,-,⟨-,TY⟩,-⟩:=TY;have E6:=h.dk.gT;intro r
 induction r with
 |zero =>
  intro j hj o w tm hr wT ho hH ft t1 t2 t11 t12 t13;have sf:¬((j:Int)<(D.n:Int)):=by have:=h.n;omega
  simp only[iC];have W:=mH (P:=ar) (T:=T) (Stop:=OY ar T cx);rw[<- TY];obtain⟨gs,rfl⟩:=fA ft;simp only[List.range,List.range.loop,List.map_cons,List.map_nil] at *;simp only[List.getElem?_toArray,List.getElem?_cons_succ,List.getElem?_cons_zero,Option.some.injEq] at t1 t2 t11 t12 t13;simp only[t1,t2,t11,t12,t13];refine W.go rfl (fun _=>ax) ?_;refine W.go rfl (fun _=>aV) ?_;refine dp ?_;refine gA ?_;refine W.go rfl (fun _=>ak) ?_;refine W.go rfl (fun _=>ax) ?_;refine W.go rfl (fun _=>dI (t:=false) (by simp[Act.eval,sf])) ?_;simp only[Bool.false_eq_true,if_false];refine W.go rfl (fun _=>stepG_exit rfl) ?_;exact QK o w _ hr wT ho rfl rfl
 |succ r ih =>
  intro j hj o w tm hr wT ho hH ft t1 t2 t11 t12 t13;have hjT:j<T.n:=aa;have hjD:j<D.n:=by have:=h.n;omega
  have hjI:(j:Int)<(D.n:Int):=aa;have TZ:T.n-(r+1)=j:=aa;have pO:IntKind.wrap .i64 ((j:Int)+1)=(j:Int)+1:=by rw[IntKind.wrap_i64];omega
  simp only[iC,TZ];have W:=mH (P:=ar) (T:=T) (Stop:=JS ar T (Vd D ord res) (wS D ord old res) j (iC ar T (Vd D ord res) (wS D ord old res) cx r));have alx:=TY;obtain⟨gs,rfl⟩:=fA ft;simp only[List.range,List.range.loop,List.map_cons,List.map_nil] at *;simp only[List.getElem?_toArray,List.getElem?_cons_succ,List.getElem?_cons_zero,Option.some.injEq] at t1 t2 t11 t12 t13;simp only[t1,t2,t11,t12,t13];rw[show(Item.code lp)=Item.code _ from congrArg Item.code TY.symm];refine W.go rfl (fun _=>ax) ?_;refine W.go rfl (fun _=>aV) ?_;refine dp ?_;refine gA ?_;refine W.go rfl (fun _=>ak) ?_;refine W.go rfl (fun _=>ax) ?_;refine W.go rfl (fun _=>dI (t:=true) (by simp[Act.eval,hjI])) ?_;simp only[if_true];refine W.go rfl (fun _=>bY) ?_;refine W.go rfl (fun _=>ax) ?_;refine W.go rfl (fun _=>eB) ?_;refine W.go rfl (fun _=>ax) ?_;refine W.go rfl (fun _=>aV) ?_;refine dp ?_;refine gA ?_;have Je:∀w3,dc T o w w3->w3.cell? ⟨Ob,j,none⟩=some (.int .i64 (ord j)):=fun w3 C2=>by rw[h.qO.cellS C2,h.qO.cellS hr];exact h.Kv j hjD
  (refine still_at W Je rfl ai qh (fun w9 hc=>⟨.refl _ _,fun e he=>?_⟩) fun w9 hc K hK=>?_;(focus (rw[bS];have he:=mem_listed he;simp[go_sem, *] at he;subst he;exact tN h.qO));go_simp;refine hK _ ?_;clear hK K;clear hc w9;try walk_nrm)
  clear Je;refine Kb rfl ai qh rfl (Obj.cells #[.int .i64 0] 3) (fun w1=>fa) (fun w1=>fa) fun w1 kR=>?_;walk_nrm;have afd:=hr.trans (dc.less kR (o':=fun _=>False) (fun _ x=>x.elim));have VM:T.H0<=w1.heap.size:=aR hH kR.size;have kZ:∀w2:ae,w2.heap[w1.heap.size]?=(w1.alloc (Obj.cells #[.int .i64 0] 3)).heap[w1.heap.size]?->w2.cell? ⟨w1.heap.size,0,none⟩=some (.int .i64 0)/\w2.frozen? ⟨w1.heap.size,0,none⟩=false:=fun w2 e=>by
   have:(w1.alloc (Obj.cells #[.int .i64 0] 3)).heap[w1.heap.size]?=some (Obj.cells #[.int .i64 0] 3):=by show(w1.heap.push _)[w1.heap.size]?=_;simp
   rw[this] at e;simp[World.cell?,World.frozen?,e]
  refine Kc w1.heap.size (.inr rfl) rfl ai qh rfl (f:=fun w2=>w2.setCell ⟨w1.heap.size,0,none⟩ (.int .i64 (ord j))) (fun w2=>gx.set _ _ _ _) (fun w2 e=>?_) (fun w2 e ev he=>?_) fun w2 Kp=>?_
  ·obtain⟨c0,f0⟩:=kZ w2 e;simp[go_sem,c0,f0]
  ·obtain⟨c0,f0⟩:=kZ w2 e;simp[go_sem,c0,f0] at he;subst he;exact⟨_,_,_,rfl,rfl⟩
  walk_nrm;generalize hC:w1.heap.size=C at *;have Ze:T.H0<=C:=VM;have hC2:(w2.setCell ⟨C,0,none⟩ (.int .i64 (ord j))).cell? ⟨C,0,none⟩=some (.int .i64 (ord j)):=World.cell?_setCell_same _ _ _ (kZ w2 (Kp.own C (.inr rfl))).1;have C2:dc T (fun b=>b≠C/\o b) w (w2.setCell ⟨C,0,none⟩ (.int .i64 (ord j))):=by
   have hO:=gx.set w2 C 0 (.int .i64 (ord j));have hA:dc T (fun b=>b≠C/\o b) w1 (w1.alloc (Obj.cells #[.int .i64 0] 3)):=⟨an,fun b hb=>RowKit.Below.heap_alloc w1 _ b (by have:=(ho b hb.2).2;have:=kR.size;omega),fun b h1 _ _ _=>RowKit.Below.heap_alloc w1 _ b aa,fQ (RowKit.Below.heap_alloc w1 _ _ (by have:=h.ok.wg;omega)),rfl,rfl⟩;refine((dc.less kR fun b hb=>hb.2).trans hA).trans ((dc.less Kp fun b hb=>.inl hb.2).trans ⟨bq hO.size.symm,fun b hb=>hO.heap b hb.1,fun b h1 _ _ _=>hO.heap b aa,fQ (hO.heap _ (by have:=h.ok.wg;omega)),rfl,rfl⟩)
  have XR:C<(w2.setCell ⟨C,0,none⟩ (.int .i64 (ord j))).heap.size:=by
   have:=Kp.size;simp[World.setCell] at this |-;omega
  generalize w2.setCell ⟨C,0,none⟩ (.int .i64 (ord j))=w3 at *;clear kZ Kp w2 afd kR VM hC w1;have aa0:=hr.trans (dc.less C2 (o':=fun _=>False) (fun _ x=>x.elim));have Kw:=C2.wg wT;have hH3:=aR hH C2.size;have ho3:∀b,(o b\/b=C)->T.H0<=b/\b<w3.heap.size:=by
   rintro b (hb|rfl)
   ·have:=ho b hb;have:=C2.size;omega
   ·exact⟨Ze,XR⟩
  refine W.go rfl (fun _=>ak) ?_;refine W.go rfl (fun _=>ax) ?_;refine W.go rfl (fun _=>aV) ?_;refine dp ?_;refine W.go rfl (fun w1=>pj rfl ai qh rfl yZ.f_add (nm_add link) rfl w1) ?_;rw[ij yZ.f_add rfl];simp only[List.map_toArray,List.map_cons,List.map_nil,Act.eval];walk_nrmf addFn;have hA:=@aeQ _ link ar T (Vd D ord res) (wS D ord old res) (iC ar T (Vd D ord res) (wS D ord old res) cx r) (fun b=>o b\/b=C) j w3;simp only[body_add,addFn,Option.getD_some] at hA;refine hA yZ h.ok (fun b hb=>(ho3 b hb).1) (fun w4 hr4=>?_) w3 ⟨dc.refl w3,Kw⟩;clear hA;have W2:=mH (P:=ar) (T:=T) (Stop:=SGo ar T (Vd D ord res) (wS D ord old res) j (iC ar T (Vd D ord res) (wS D ord old res) cx r));simp only[List.getElem?_toArray,List.getElem?_cons_succ,List.getElem?_cons_zero,Option.bind_some];walk_nrm;refine W2.go rfl (fun _=>ak) ?_;refine W2.go rfl (fun _=>aV) ?_;refine dp ?_;refine gA ?_;refine cM.stop fun w5 SP=>⟨rfl,_,born ar (D8 T.Wg Bb C),fun b=>b=C,Qo rfl ai qh (by simp[go_sem,D8]) fa rfl rfl,fun b hb=>.inr hb,fun w6 NJ hid=>?_,?_⟩
  ·have e6:w6.heap[C]?=w3.heap[C]?:=by rw[NJ.own C (.inr rfl),SP.own C (.inr rfl),hr4.own C (.inr rfl)]
   have XS:=(hr4.trans SP).trans NJ;have aly:=XS.size;exact h.child hjT (aa0.trans (dc.less XS (o':=fun _=>False) (fun _ x=>x.elim))) (XS.wg Kw) (by rw[cell_of e6];exact hC2) ⟨Ze,aa⟩ hid aa
  have XT:=hr4.trans SP;have alz:=XT.size;obtain⟨Stop,HT⟩:∃Stop:dV,∀o g w,cM ar T Stop o g w↔iC ar T (Vd D ord res) (wS D ord old res) cx r o g w:=by
   cases r
   ·exact⟨_,fun _ _ _=>cG⟩
   ·exact⟨_,fun _ _ _=>cG⟩
  rw[<- HT];have W3:=mH (P:=ar) (T:=T) (Stop:=Stop);walk_nrm;refine W3.go rfl (fun _=>ak) ?_;refine W3.go rfl (fun _=>fR) ?_;refine W3.go rfl (fun _=>aV) ?_;refine dp ?_;refine gA ?_;refine W3.go rfl (fun _=>ak) ?_;refine W3.go rfl (fun _=>ig) ?_;rw[HT];exact ih (j+1) aa _ w5 _ (aa0.trans (dc.less XT (o':=fun _=>False) (fun _ x=>x.elim))) (XT.wg Kw) (fun b hb=>by have:=ho3 b hb.1;omega) aa rfl rfl rfl rfl rfl (by simp[pO])
end
end
end Go.Proofs.Kz
