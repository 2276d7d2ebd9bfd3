import Derived.Test.YtgjekaaknjgnmaaGreatDoorAd
import Derived.ArgAppend
import Derived.Lib.Builder
import Derived.Lib.Bytealg
import Derived.Lib.JoinLaws
import Derived.Sort.Walk0
set_option linter.all false
set_option maxHeartbeats 40000000
set_option maxRecDepth 200000
namespace Go.Proofs.Kz
open Go.Proofs.Tryz
open Go.Proofs.Tryz renaming prog → ax
open _root_.ByteArray renaming empty → aR
open _root_.Option renaming some → so,none → we
open Go.Ren Go.Conc Go.Proofs Go.ConcN
def bS:rT ax L0 ax.globals.size:=by rw[TQ];exact aaR FE
structure aI where
 out:af
 eO:Int
 sa:Option Addr
 sl:Nat
 sc:Nat
def aI.cells(r:aI):List Value:=[.string r.out,.int .i64 r.eO,Value.slice r.sa r.sl r.sc]
def aI.agg(r:aI):Value:=.agg #[.string r.out,.int .i64 r.eO,Value.slice r.sa r.sl r.sc]
def eT(w:ae)(b:Nat)(rs:List aI):Prop:=∀i (h:i<rs.length),w.cell? ⟨b,i*3,we⟩=so (.string rs[i].out)/\w.cell? ⟨b,i*3+1,we⟩=so (.int .i64 rs[i].eO)/\w.cell? ⟨b,i*3+2,we⟩=so (.slice rs[i].sa rs[i].sl rs[i].sc)
section
variable {Fin:bL}{o:aM}{w:ae}
def C8:(ax.info? 42).map (λi=>(i.zero,i.size,i.bytes))=so (so (.agg #[.string aR,.int .i64 0,.slice we 0 0]),3,48):=ai
def grow_grow{o:aM}{w w1 w3 w4:ae}(h1:w.heap.size<=w1.heap.size)(h2:w3.heap.size=w1.heap.size)(h3:w3.heap.size<=w4.heap.size):grow (grow o w w1) w3 w4=grow o w w4:=by
 funext b;simp only[grow,eq_iff_iff];constructor
 ·rintro((h|h)|h)
  ·exact .inl h
  ·exact .inr aa
  ·exact .inr aa
 ·rintro(h|h)
  ·exact .inl (.inl h)
  ·by_cases hb:b<w1.heap.size
   ·exact .inl (.inr aa)
   ·exact .inr aa
def dC{w w':ae}{lo:Nat}{e:TypeId}{sz:Nat}{v:Value}{n:Nat}{xs:List Value}(h:w.ownsRow lo e sz v n xs)(hh:∀g,so g=v.ownBlock->lo<=g->w'.heap[g]?=w.heap[g]?):w'.ownsRow lo e sz v n xs:=by
 obtain⟨h1,h2⟩:=h;refine⟨h1,h2.imp id ?_⟩;rintro⟨g,cap,cur,rfl,k1,k2,k3⟩;exact⟨g,cap,cur,rfl,k1,by rw[hh g rfl k1];exact k2,k3⟩
def jz{P:Program}{o:Oper}{a:Act}{w w':ae}{v xv v':Value}(s x:Operand)(t:TypeId)(ho:o.op=.call {callee:=.builtin .append,args:=#[s,x],argTypes:=#[t,t]})(hs:a.eval s=v)(hx:a.eval x=xv)(hr:(Builtin.append_ #[t,t] o.type #[v,xv]).run P w=.ok v' w'):(execOp a.eval o).run P w=.ok (.value v') w':=by
 unfold execOp;simp only[ho,resolve,invoke,builtin,Sem.run_bind,Sem.run_pure,Result.andThen_ok,List.map_toArray,aC,aP,hs,hx,hr]
structure Round(w w':ae)(Bx l lo i:Nat)(v v':Value)(xs:List Value)(r:aI)(lr:Loop):Prop where
 size:w.heap.size<=w'.heap.size
 old:∀b,b<w.heap.size->b≠Bx->b≠l->so b≠v.ownBlock->w'.heap[b]?=w.heap[b]?
 box:w'.heap[Bx]?=so (.cells #[v'] 35 (0,0))
 Xf:w'.heap[l]?=so (.loop {lr with state:=.ready,pending:=we})
 row:w'.ownsRow lo 42 3 v' (i+1) (xs++r.cells)
def Xg(hF:bO ax L0 o w)(Bx l lo i:Nat)(v:Value)(xs:List Value)(r:aI)(lr:Loop)(hi:i<8)(hBx:o Bx)(hl:o l)(dE:Bx≠l)(hb:w.heap[Bx]?=so (.cells #[v] 35 (0,0)))(TF:w.heap[l]?=so (.loop lr))(eH:lr.state=.ready)(zb:lo<=w.heap.size)(hBb:Bx<lo)(hlb:l<lo)(fq:∀b,lo<=b->b<w.heap.size->o b)(cp:w.ownsRow lo 42 3 v i xs)(fw:Cl ax L0 o (.slice r.sa r.sl r.sc)){r0 r1 tl Qa bd:Code}{x:Operand}{ps:Array Tmp}(fF:Tryz.f203.body=so (.seq r0 (.seq (.seq r1 (.block 0 (.rangeFunc x ps Qa bd))) tl)))(tm:Array Value)(fy:tm.size=13)(t2:tm[2]?=so (.pointer (so ⟨Bx,0,we⟩)))(t7:tm[7]?=so r.agg)(c:Frame)(cs:List Frame)(h:∀v' w',Round w w' Bx l lo i v v' xs r lr->bO ax L0 (grow o w w') w'->XB ax Fin 0 (grow o w w') (G (c.finish (.bool true)) cs) w'):
  XB ax Fin 0 o (G (Frame.round l 203 tm Qa bd .normal) (c::cs)) w:=by
 have Xb:=fF;simp only[Tryz.f203,aA,Code.seq.injEq,Code.block.injEq,Code.rangeFunc.injEq,true_and]at Xb;obtain⟨-,⟨-,-,-,rfl,rfl⟩,-⟩:=Xb;have W:=bY (P:=ax) (Fin:=Fin) (d:=0);obtain⟨gs,rfl⟩:=lg fy;simp only[List.range,List.range.loop,aC,aP]at *;simp only[List.getElem?_toArray,List.getElem?_cons_succ,List.getElem?_cons_zero,aA]at t2 t7;simp only[t2,t7];rw[round_eq];have vp:∀{x:Op},(∀c,x≠.defer c)->∀c,x≠.defer c:=λh=>h;refine W.go rfl (λ_=>yl) ?_;refine dN ?_;refine BB bS hF rfl (λw1 v w' hr=>oG rfl ak ar hr rfl) ak nf (R:=λwl v aX=>v=.pointer (so ⟨wl.heap.size,0,we⟩)/\aX=wl.alloc (Obj.cells #[.string aR,.int .i64 0,.slice we 0 0] 42)) (λwl aW=>⟨_,_,by simp[go_sem];rfl,rfl,rfl⟩) λwl v1 aX w1 aW hR bP=>?_;obtain⟨rfl,hR⟩:=hR;have⟨z1,k1,k2⟩:=bP.alloc hF aW hR;have lz:=bP.aH;rw[aW.size];clear hR bP aW wl aX;walk_nrm;have Qy:grow o w w1 w.heap.size:=.inr ⟨ah _,aa⟩;have Xh:Cl ax L0 (grow o w w1) r.agg:=fW (vs:=[.string r.out,.int .i64 r.eO,Value.slice r.sa r.sl r.sc]) (by
  intro y hy;simp at hy;rcases hy with rfl|rfl|rfl
  ·exact bQ
  ·exact dV
  ·exact fw.up jf)
 have cx:∀b,o b->b<w.heap.size:=λb hb=>hF.lt hb;have ad4:=cx Bx hBx;have aiC:=cx l hl;refine CQ bS lz rfl (λw1 w' hr=>CS rfl ak ar hr rfl) ak ?_ (R:=λwl aX=>aX=((wl.setCell ⟨w.heap.size,0,we⟩ (.string r.out)).setCell ⟨w.heap.size,1,we⟩ (.int .i64 r.eO)).setCell ⟨w.heap.size,2,we⟩ (Value.slice r.sa r.sl r.sc)) (λwl aW=>?_) λwl aX w2 aW hR bP=>?_
 ·intro y hy;simp[Op.operands]at hy;rcases hy with rfl|rfl
  ·exact bX Qy
  ·simp[Act.eval];exact Xh
 ·have hx:wl.heap[w.heap.size]?=so (Obj.cells #[.string aR,.int .i64 0,.slice we 0 0] 42):=(aW.heap _ Qy).trans k2;refine⟨_,?_,rfl⟩;have c0:wl.cell? ⟨w.heap.size,0,we⟩=so (.string aR):=by simp[World.cell?,hx]
  have c1:wl.cell? ⟨w.heap.size,1,we⟩=so (.int .i64 0):=by simp[World.cell?,hx]
  have c2:wl.cell? ⟨w.heap.size,2,we⟩=so (.slice we 0 0):=by simp[World.cell?,hx]
  have f:∀j,wl.frozen? ⟨w.heap.size,j,we⟩=false:=λj=>by simp[World.frozen?,hx]
  simp[go_sem,aI.agg,c0,c1,c2,f]
 have⟨z2,m1,m2,e2⟩:=bP.store aW Qy (by rw[hR];simp[World.setCell]) (λb hb=>by rw[hR,RowKit.Below.heap_setCell _ _ _ b hb,RowKit.Below.heap_setCell _ _ _ b hb,RowKit.Below.heap_setCell _ _ _ b hb]);have m2':w2.heap[w.heap.size]?=so (Obj.cells #[.string r.out,.int .i64 r.eO,Value.slice r.sa r.sl r.sc] 42):=by
  have hx:wl.heap[w.heap.size]?=so (Obj.cells #[.string aR,.int .i64 0,.slice we 0 0] 42):=(aW.heap _ Qy).trans k2;rw[m2,hR];simp[World.setCell,aS,hx]
 have rj:=bP.aH;rw[e2]at rj |-;clear hR bP aW wl aX m2;walk_nrm;refine W.go rfl (λ_=>r9) ?_;have Oj:w2.heap[l]?=so (.loop lr):=by rw[m1 l aa,k1 l aiC];exact TF
 have pB:w2.heap[Bx]?=so (.cells #[v] 35 (0,0)):=by rw[m1 Bx aa,k1 Bx ad4];exact hb
 refine sd (t:=λw=>dB w l {lr with state:=.busy}) (l:=l) rfl (λn=>Jb (w:=w2.at n) Oj eH) (by simp[dB]) ?_;have mJ:bO ax L0 (grow o w w1) (dB w2 l {lr with state:=.busy}):=pK rj rfl (λf=>by simp[obj]) (.inl hl);have ad5:(dB w2 l {lr with state:=.busy}).heap[l]?=so (.loop {lr with state:=.busy}):=by
  simp only[dB];rw[cj aa]
 have m3:∀b,b≠l->(dB w2 l {lr with state:=.busy}).heap[b]?=w2.heap[b]?:=λb hb=>by simp only[dB];rw[aU (bq hb)]
 have z3:(dB w2 l {lr with state:=.busy}).heap.size=w2.heap.size:=by simp[dB]
 generalize dB w2 l {lr with state:=.busy}=w3 at *;refine W.go rfl (λ_=>Ja) ?_;refine W.go rfl (λ_=>yl) ?_;refine dN ?_;have hoB:grow o w w1 Bx:=.inl hBx;have xB:w3.heap[Bx]?=so (.cells #[v] 35 (0,0)):=(m3 Bx dE).trans pB;have EE:w3.heap[w.heap.size]?=so (Obj.cells #[.string r.out,.int .i64 r.eO,.slice r.sa r.sl r.sc] 42):=(m3 _ aa).trans m2';refine zG bS mJ rfl (λw1 v w' hr=>oG rfl ak ar hr rfl) ak (v:=v) ?_ (λwl aW=>?_) λXi=>?_
 ·intro y hy;simp[Op.operands]at hy;subst hy;exact bX hoB
 ·have hx:=(aW.heap _ hoB).trans xB;have c0:wl.cell? ⟨Bx,0,we⟩=so v:=by simp[World.cell?,hx]
  simp[go_sem,c0]
 walk_nrm;refine zG bS mJ rfl (λw1 v w' hr=>oG rfl ak ar hr rfl) ak (v:=r.agg) ?_ (λwl aW=>?_) λ_=>?_
 ·intro y hy;simp[Op.operands]at hy;subst hy;exact bX Qy
 ·have hx:=(aW.heap _ Qy).trans EE;have c0:wl.cell? ⟨w.heap.size,0,we⟩=so (.string r.out):=by simp[World.cell?,hx]
  have c1:wl.cell? ⟨w.heap.size,1,we⟩=so (.int .i64 r.eO):=by simp[World.cell?,hx]
  have c2:wl.cell? ⟨w.heap.size,2,we⟩=so (.slice r.sa r.sl r.sc):=by simp[World.cell?,hx]
  simp[go_sem,c0,c1,c2,aI.agg]
 walk_nrm;have apt:bO ax L0 (grow o w w1) w3:=mJ;refine BB bS mJ rfl (λw1 v w' hr=>oG rfl ak ar hr rfl) ak ?_ (R:=λwl v aX=>v=.slice (so ⟨wl.heap.size,0,we⟩) 1 1/\aX=wl.alloc (Obj.cells #[.string r.out,.int .i64 r.eO,.slice r.sa r.sl r.sc] 42)) (λwl aW=>⟨_,_,?_,rfl,rfl⟩) λwl v1 aX w4 aW hR bP=>?_
 ·intro y hy;simp[Op.operands]at hy;subst hy;simp[Act.eval];exact Xh
 ·simp[go_sem,aI.agg]
 obtain⟨rfl,hR⟩:=hR;have⟨z4,n1,n2⟩:=bP.alloc mJ aW hR;have rn:=bP.aH;rw[aW.size];clear hR bP aW wl aX;walk_nrm;have g4:grow (grow o w w1) w3 w4=grow o w w4:=grow_grow aa aa aa;rw[g4]at rn |-;have hw4:w.heap.size<=w4.heap.size:=aa;have TR:∀b,b<w.heap.size->b≠l->w4.heap[b]?=w.heap[b]?:=λb hb VV=>by rw[n1 b aa,m3 b VV,m1 b aa,k1 b hb]
 have Od:w4.ownsRow lo 42 3 v i xs:=dC cp λg hg TT=>by
  obtain⟨hlen,ga⟩:=cp;rcases ga with⟨rfl,_⟩|⟨g',cap,cur,rfl,h1,h2,_⟩
  ·cases hg
  ·cases hg;exact TR _ (aad.1 h2).1 aa
 have ad6:Cl ax L0 (grow o w w4) v:=by rw[<- g4];exact Xi.up jf
 have hoN:grow o w w4 w3.heap.size:=.inr ⟨aa,aa⟩;have ad7:∀g,so g=v.ownBlock->grow o w w4 g:=λg hg=>by
  obtain⟨hlen,ga⟩:=cp;rcases ga with⟨rfl,_⟩|⟨g',cap,cur,rfl,h1,h2,_⟩
  ·cases hg
  ·cases hg;exact .inl (fq _ h1 (aad.1 h2).1)
 obtain⟨ie,hie,Xj⟩:=aaf.1 C8;simp only[bB]at Xj;refine BB bS rn rfl (λw1 v w' hr=>oG rfl ak ar hr rfl) ak ?_ (R:=λwl v' aX=>aX.ownsRow lo 42 3 v' (i+1) (xs++r.cells)/\wl.grownBy aX v.ownBlock) (λwl aW=>?_) λwl v5 aX w5 aW hR bP=>?_
 ·intro y hy;simp[Op.operands,Call.operands]at hy;rcases hy with rfl|rfl
  ·simp[Act.eval];exact ad6
  ·simp[Act.eval];exact dW hoN
 ·have hx:=(aW.heap _ hoN).trans n2;have YX:wl.ownsRow lo 42 3 v i xs:=dC Od λg hg _=>aW.heap g (ad7 g hg);have JN:∀j u,r.cells[j]?=so u->wl.cell? ((⟨w3.heap.size,0,we⟩:Addr).add j)=so u:=λj u hu=>by
   rcases(show j=0\/j=1\/j=2\/3<=j by omega)with rfl|rfl|rfl|hj
   ·simp[aI.cells]at hu;subst hu;simp[Addr.add,World.cell?,hx]
   ·simp[aI.cells]at hu;subst hu;simp[Addr.add,World.cell?,hx]
   ·simp[aI.cells]at hu;subst hu;simp[Addr.add,World.cell?,hx]
   ·rw[List.getElem?_eq_none (by simp[aI.cells];omega)]at hu;cases hu
  have ad8:∀u∈r.cells,u.oneCell'=true:=by
   intro u hu;simp[aI.cells]at hu;rcases hu with rfl|rfl|rfl<;>rfl
  have⟨v',aX,e1,e2,e3,_⟩:=run_append_own wl lo 35 35 42 ie _ 3 48 underlying35 hie Xj.1 Xj.2.1 Xj.2.2 rfl aa v i xs YX ⟨w3.heap.size,0,we⟩ 1 1 r.cells rfl JN ad8 (by simp[maxLen];omega) aa (by rw[aW.size];omega);exact⟨v',aX,jz (.tmp 8) (.tmp 10) 35 rfl aK aK e1,e2,e3⟩
 have g5:grow (grow o w w4) w4 w5=grow o w w5:=grow_grow hw4 rfl bP.iS;have K5:=bP.aH;have hs5:=bP.same;have Jv:=bP.rest;have z5:=bP.iS;rw[g5]at K5 hs5 |-;obtain⟨yx,Ew⟩:=hR;have aea:∀b,b<w.heap.size->b≠l->so b≠v.ownBlock->w5.heap[b]?=w.heap[b]?:=λb hb VV hbv=>by
  rw[<- TR b hb VV];by_cases ho:grow o w w4 b
  ·rw[hs5 b (ho.imp id λh=>⟨h.1,aa⟩),Ew.block b (by rw[aW.size];omega) hbv,aW.heap b ho]
  ·exact Jv b aa ho
 have hvl:∀g,so g=v.ownBlock->lo<=g:=λg hg=>by
  obtain⟨hlen,ga⟩:=cp;rcases ga with⟨rfl,_⟩|⟨g',cap,cur,rfl,h1,h2,_⟩
  ·cases hg
  ·cases hg;exact h1
 have TU:w5.ownsRow lo 42 3 v5 (i+1) (xs++r.cells):=dC yx λg hg TT=>hs5 g (by
  obtain⟨hlen,ga⟩:=yx;rcases ga with⟨rfl,_⟩|⟨g',cap,cur,rfl,h1,h2,_⟩
  ·cases hg
  ·have e:g=g':=aT hg;subst e;have h3:=(aad.1 h2).1;have hz:=bP.size;by_cases hgw:g<w.heap.size
   ·exact .inl (fq _ h1 hgw)
   ·exact .inr ⟨aa,aa⟩)
 have aiE:w5.heap[l]?=w3.heap[l]?:=by
  rw[hs5 l (.inl hl),Ew.block l (by rw[aW.size];omega) (λe=>by have:=hvl l e;omega),aW.heap l (.inl hl),n1 l aa]
 have aiF:Cl ax L0 (grow o w w5) v5:=by have:=bP.val;rw[g5]at this;exact this
 have hb5:w5.heap[Bx]?=so (.cells #[v] 35 (0,0)):=by rw[aea Bx ad4 dE (λe=>by have:=hvl Bx e;omega)];exact hb
 clear Ew yx aW bP wl aX hs5 Jv g5 g4;walk_nrm;have Xk:grow o w w5 Bx:=.inl hBx;refine CQ bS K5 rfl (λw1 w' hr=>CS rfl ak ar hr rfl) ak ?_ (R:=λwl aX=>aX=wl.setCell ⟨Bx,0,we⟩ v5) (λwl aW=>⟨_,?_,rfl⟩) λwl aX w6 aW hR bP=>?_
 ·intro y hy;simp[Op.operands]at hy;rcases hy with rfl|rfl
  ·exact bX Xk
  ·simp[Act.eval];exact aiF
 ·have hx:=(aW.heap _ Xk).trans hb5;have c0:wl.cell? ⟨Bx,0,we⟩=so v:=by simp[World.cell?,hx]
  have f:∀j,wl.frozen? ⟨Bx,j,we⟩=false:=λj=>by simp[World.frozen?,hx]
  obtain⟨hlen,ga⟩:=TU;rcases ga with⟨rfl,_⟩|⟨g',cap,cur,rfl,h1,h2,_⟩
  ·simp[go_sem,c0,f]
  ·simp[go_sem,c0,f]
 have⟨z6,q1,q2,e6⟩:=bP.store aW Xk (by rw[hR];simp[World.setCell]) (λb hb=>by rw[hR,RowKit.Below.heap_setCell _ _ _ b hb]);have q2':w6.heap[Bx]?=so (Obj.cells #[v5] 35):=by
  have hx:=(aW.heap _ Xk).trans hb5;rw[q2,hR];simp[World.setCell,aS,hx]
 have EF:=bP.aH;rw[e6]at EF |-;clear hR bP aW wl aX q2;walk_nrm;refine W.go rfl (λ_=>r9) ?_;refine W.go rfl (λ_=>Ez) ?_;have aec:w6.heap[l]?=so (.loop {lr with state:=.busy}):=by rw[q1 l (bq dE),aiE];exact ad5
 refine sd (t:=λw=>dB w l {{lr with state:=.busy} with state:=.ready,pending:=we}) (l:=l) rfl (λn=>Qb (w:=w6.at n) aec) (by simp[dB]) ?_;have hF7:bO ax L0 (grow o w w5) (dB w6 l {{lr with state:=.busy} with state:=.ready,pending:=we}):=pK EF rfl (λf=>by simp[obj]) (.inl hl);have g7:grow o w w5=grow o w (dB w6 l {{lr with state:=.busy} with state:=.ready,pending:=we}):=by
  have:(dB w6 l {{lr with state:=.busy} with state:=.ready,pending:=we}).heap.size=w5.heap.size:=by simp[dB];omega
  unfold grow;rw[this]
 rw[g7]at hF7 |-;have q3:∀b,b≠l->(dB w6 l {{lr with state:=.busy} with state:=.ready,pending:=we}).heap[b]?=w6.heap[b]?:=λb hb=>by simp only[dB];rw[aU (bq hb)]
 refine h v5 _ ⟨?_,λb h1 h2 h3 h4=>?_,?_,?_,?_⟩ hF7
 ·simp[dB];omega
 ·rw[q3 b h3,q1 b h2,aea b h1 h3 h4]
 ·rw[q3 Bx dE];exact q2'
 ·simp only[dB];rw[cj aa]
 ·refine dC TU λg hg TT=>?_;rw[q3 g aa,q1 g aa]
structure TV(o0:aM)(w0:ae)(Bx l rd lo:Nat)(lr:Loop)(rs:List aI)(i:Nat)(o:aM)(w:ae)(v:Value):Prop where
 own:o=grow o0 w0 w
 aH:bO ax L0 o w
 size:lo<=w.heap.size
 le:w0.heap.size<=w.heap.size
 old:∀b,b<lo->b≠Bx->b≠l->w.heap[b]?=w0.heap[b]?
 box:w.heap[Bx]?=so (.cells #[v] 35 (0,0))
 Xf:w.heap[l]?=so (.loop {lr with state:=.ready,pending:=we})
 row:w.ownsRow lo 42 3 v i ((rs.take i).flatMap aI.cells)
def JO(o0:aM)(w0:ae)(Bx l rd lo Ru c:Nat)(lr:Loop)(rs:List aI)(hn:rs.length<=8)(hBx:Bx<lo)(hl:l<lo)(dE:Bx≠l)(hBl:w0.heap.size<=lo)(hBo:o0 Bx)(zb:o0 l)(apz:lo=w0.heap.size)(zd:o0 Ru)(aed:Ru≠Bx/\Ru≠l)(CH:eT w0 Ru rs)(fw:∀r∈rs,Cl ax L0 o0 (.slice r.sa r.sl r.sc))(p:Option Addr)(hp:rs≠[]->p=so ⟨Ru,0,we⟩)(lf:lr.fn=203)(lp:lr.params=#[7])(lt:lr.tmps.size=13)(lt2:lr.tmps[2]?=so (.pointer (so ⟨Bx,0,we⟩))){r0 r1 tl:Code}{x:Operand}{ps:Array Tmp}(fF:Tryz.f203.body=so (.seq r0 (.seq (.seq r1 (.block 0 (.rangeFunc x ps lr.assign lr.body))) tl))){q0 lq:Code}(aaU:Tryz.f186.body=so (.seq q0 (.block 0 (.loop lq))))(cA:Frame)(cs:List Frame)(TH:∀o w v (tm:Array Value),TV o0 w0 Bx l rd lo lr rs rs.length o w v->XB ax Fin 0 o (G ((base 186).at ⟨tm,[]⟩ []) (cA::cs)) w):
  ∀r i,r+i=rs.length->∀o w v (tm:Array Value),TV o0 w0 Bx l rd lo lr rs i o w v->tm.size=16->tm[0]?=so (.func (.yield l) #[] #[])->tm[5]?=so (.slice p rs.length c)->tm[6]?=so (.int .i64 rs.length)->tm[7]?=so (.int .i64 i) ->
   XB ax Fin 0 o (G ((base 186).at ⟨tm,[]⟩ (.code lq :: .inLoop lq :: .inBlock 0::[])) (cA::cs)) w:=by
 have hlq:=aaU;simp only[Tryz.f186,aA,Code.seq.injEq,Code.block.injEq,Code.loop.injEq,true_and]at hlq;obtain⟨-,hlq⟩:=hlq;have W:=bY (P:=ax) (Fin:=Fin) (d:=0);have rV:(base 186).kind≠.early:=by simp[base]
 intro r
 induction r with
 |zero =>
  intro i hi o w v tm I fy t0 t5 t6 t7;have hni:¬((i:Int)<(rs.length:Int)):=aa;obtain⟨gs,rfl⟩:=lg fy;simp only[List.range,List.range.loop,aC,aP]at *;simp only[List.getElem?_toArray,List.getElem?_cons_succ,List.getElem?_cons_zero,aA]at t0 t5 t6 t7;simp only[t0,t5,t6,t7];rw[show(Item.code lq)=Item.code _ from congrArg Item.code hlq.symm];refine W.go rfl (λ_=>aE) ?_;refine W.go rfl (λ_=>bh) ?_;refine dN ?_;refine gW ?_;refine W.go rfl (λ_=>au) ?_;refine W.go rfl (λ_=>aE) ?_;refine W.go rfl (λ_=>eC (t:=false) (by simp[Act.eval,hni])) ?_;simp only[aQ,if_false];refine W.go rfl (λ_=>stepG_exit rfl) ?_;exact TH o w v _ (by rw[show rs.length=i by omega];exact I)
 |succ r ih =>
  intro i hi o w v tm I fy t0 t5 t6 t7;have cx:i<rs.length:=aa;have hlI:(i:Int)<(rs.length:Int):=aa;obtain rfl:=hp (nlt cx);have qY:IntKind.wrap .i64 ((i:Int)+1)=(i:Int)+1:=by rw[IntKind.wrap_i64];omega
  obtain⟨gs,rfl⟩:=lg fy;simp only[List.range,List.range.loop,aC,aP]at *;simp only[List.getElem?_toArray,List.getElem?_cons_succ,List.getElem?_cons_zero,aA]at t0 t5 t6 t7;simp only[t0,t5,t6,t7];rw[show(Item.code lq)=Item.code _ from congrArg Item.code hlq.symm];refine W.go rfl (λ_=>aE) ?_;refine W.go rfl (λ_=>bh) ?_;refine dN ?_;refine gW ?_;refine W.go rfl (λ_=>au) ?_;refine W.go rfl (λ_=>aE) ?_;refine W.go rfl (λ_=>eC (t:=true) (by simp[Act.eval,hlI])) ?_;simp only[if_true];refine W.go rfl (λ_=>cB) ?_;refine W.go rfl (λ_=>aE) ?_;refine W.go rfl (λ_=>fh) ?_;refine W.go rfl (λ_=>aE) ?_;refine W.go rfl (λ_=>bh) ?_;refine dN ?_;refine gW ?_;have nZ:∀b,o0 b->o b:=λb hb=>by rw[I.own];exact .inl hb
  have aef:Ru<lo:=by
   have:=(CH 0 aa).1;have h2:Ru<w0.heap.size:=by
    refine fA λhh=>?_;rw[World.cell?,cH hh]at this;cases this
   omega
  have JP:w.heap[Ru]?=w0.heap[Ru]?:=I.old Ru aef aed.1 aed.2;have Xl:Cl ax L0 o (.slice rs[i].sa rs[i].sl rs[i].sc):=(fw _ (aG cx)).up nZ;have Xh:Cl ax L0 o rs[i].agg:=fW (vs:=[.string rs[i].out,.int .i64 rs[i].eO,.slice rs[i].sa rs[i].sl rs[i].sc]) (by
   intro y hy;simp at hy;rcases hy with rfl|rfl|rfl
   ·exact bQ
   ·exact dV
   ·exact Xl)
  refine mX bS I.aH rfl ak rV ak ?_ rfl (v:=rs[i].agg) (λwl aW=>?_) λ_=>?_
  ·intro y hy;simp[Op.operands]at hy;subst hy;exact bX (nZ _ zd)
  ·have hx:=(aW.heap _ (nZ _ zd)).trans JP;have⟨c0,c1,c2⟩:=CH i cx;have d0:wl.cell? ⟨Ru,i*3,we⟩=so (.string rs[i].out):=(cell_of hx).trans c0;have d1:wl.cell? ⟨Ru,i*3+1,we⟩=so (.int .i64 rs[i].eO):=(cell_of hx).trans c1;have d2:wl.cell? ⟨Ru,i*3+2,we⟩=so (.slice rs[i].sa rs[i].sl rs[i].sc):=(cell_of hx).trans c2;simp[go_sem,d0,d1,d2,aI.agg]
  walk_nrm;generalize hri:rs[i]=ri at *;refine CR bS I.aH rfl ak rV ak nf rfl (R:=λwl v aX=>v=.pointer (so ⟨wl.heap.size,0,we⟩)/\aX=wl.alloc (Obj.cells #[.string aR,.int .i64 0,.slice we 0 0] 42)) (λwl aW=>⟨_,_,by simp[go_sem];rfl,rfl,rfl⟩) λwl v1 aX w1 aW hR bP=>?_;obtain⟨rfl,hR⟩:=hR;have⟨z1,k1,k2⟩:=bP.alloc I.aH aW hR;have lz:=bP.aH;rw[aW.size];clear hR bP aW wl aX;walk_nrm;have Qy:grow o w w1 w.heap.size:=.inr ⟨ah _,aa⟩;refine AK bS lz rfl ak rV ak ?_ rfl (R:=λwl aX=>aX=((wl.setCell ⟨w.heap.size,0,we⟩ (.string ri.out)).setCell ⟨w.heap.size,1,we⟩ (.int .i64 ri.eO)).setCell ⟨w.heap.size,2,we⟩ (.slice ri.sa ri.sl ri.sc)) (λwl aW=>?_) λwl aX w2 aW hR bP=>?_
  ·intro y hy;simp[Op.operands]at hy;rcases hy with rfl|rfl
   ·exact bX Qy
   ·simp[Act.eval];exact Xh.up jf
  ·have hx:wl.heap[w.heap.size]?=so (Obj.cells #[.string aR,.int .i64 0,.slice we 0 0] 42):=(aW.heap _ Qy).trans k2;refine⟨_,?_,rfl⟩;have c0:wl.cell? ⟨w.heap.size,0,we⟩=so (.string aR):=by simp[World.cell?,hx]
   have c1:wl.cell? ⟨w.heap.size,1,we⟩=so (.int .i64 0):=by simp[World.cell?,hx]
   have c2:wl.cell? ⟨w.heap.size,2,we⟩=so (.slice we 0 0):=by simp[World.cell?,hx]
   have f:∀j,wl.frozen? ⟨w.heap.size,j,we⟩=false:=λj=>by simp[World.frozen?,hx]
   simp[go_sem,aI.agg,c0,c1,c2,f]
  have⟨z2,m1,m2,e2⟩:=bP.store aW Qy (by rw[hR];simp[World.setCell]) (λb hb=>by rw[hR,RowKit.Below.heap_setCell _ _ _ b hb,RowKit.Below.heap_setCell _ _ _ b hb,RowKit.Below.heap_setCell _ _ _ b hb]);have m2':w2.heap[w.heap.size]?=so (Obj.cells #[.string ri.out,.int .i64 ri.eO,.slice ri.sa ri.sl ri.sc] 42):=by
   have hx:wl.heap[w.heap.size]?=so (Obj.cells #[.string aR,.int .i64 0,.slice we 0 0] 42):=(aW.heap _ Qy).trans k2;rw[m2,hR];simp[World.setCell,aS,hx]
  have rj:=bP.aH;rw[e2]at rj |-;clear hR bP aW wl aX m2;walk_nrm;refine W.go rfl (λ_=>au) ?_;refine W.go rfl (λ_=>aE) ?_;refine W.go rfl (λ_=>bh) ?_;refine dN ?_;refine gW ?_;refine mX bS rj rfl ak rV ak ?_ rfl (v:=ri.agg) (λwl aW=>?_) λ_=>?_
  ·intro y hy;simp[Op.operands]at hy;subst hy;exact bX Qy
  ·have hx:=(aW.heap _ Qy).trans m2';have c0:wl.cell? ⟨w.heap.size,0,we⟩=so (.string ri.out):=by simp[World.cell?,hx]
   have c1:wl.cell? ⟨w.heap.size,1,we⟩=so (.int .i64 ri.eO):=by simp[World.cell?,hx]
   have c2:wl.cell? ⟨w.heap.size,2,we⟩=so (.slice ri.sa ri.sl ri.sc):=by simp[World.cell?,hx]
   simp[go_sem,c0,c1,c2,aI.agg]
  walk_nrm;have hlw:l<w.heap.size:=by have:=I.size;omega
  have hBw:Bx<w.heap.size:=by have:=I.size;omega
  have Oj:w2.heap[l]?=so (.loop {lr with state:=.ready,pending:=we}):=by rw[m1 l aa,k1 l hlw];exact I.Xf
  refine sd (t:=λw=>w) (l:=l) rfl (λn=>I9 (w:=w2.at n) (t:=7) rfl ak rV rfl aK rfl Oj lp) rfl ?_;have apD:w2.heap.size=w.heap.size+1:=aa;simp only[lf];refine Xg rj Bx l lo i v ((rs.take i).flatMap aI.cells) ri {lr with state:=.ready,pending:=we} aa (.inl (nZ _ hBo)) (.inl (nZ _ zb)) dE ?_ Oj rfl (by have:=I.size;omega) hBx hl ?_ ?_ (Xl.up jf) fF _ ?_ ?_ ?_ _ _ ?_
  ·rw[m1 Bx aa,k1 Bx hBw];exact I.box
  ·intro b h1 h2;by_cases hb:b<w.heap.size
   ·refine .inl ?_;rw[I.own];exact .inr ⟨aa,hb⟩
   ·exact .inr ⟨aa,aa⟩
  ·refine dC I.row λg hg TT=>?_;have hgw:g<w.heap.size:=by
    have⟨hlen,ga⟩:=I.row;rcases ga with⟨rfl,_⟩|⟨g',cap,cur,rfl,h1,h2,_⟩
    ·cases hg
    ·have e:g=g':=aT hg;subst e;exact(aad.1 h2).1
   rw[m1 g aa,k1 g hgw]
  ·simp[lt]
  ·rw[aU aa];exact lt2
  ·rw[cj aa];simp[Act.eval]
  intro v' w' YY hF';have eg:grow (grow o w w1) w2 w'=grow o0 w0 w':=by
   rw[grow_grow aa z2 YY.size,I.own,grow_grow I.le rfl (by have:=YY.size;omega)]
  rw[eg]at hF' |-;rw[eu];walk_nrm;refine gW ?_;refine W.go rfl (λ_=>au) ?_;refine W.go rfl (λ_=>eC (t:=false) aK) ?_;simp only[aQ,if_false];refine W.go rfl (λ_=>cB) ?_;refine W.go rfl (λ_=>gw) ?_;refine W.go rfl (λ_=>bh) ?_;refine dN ?_;refine gW ?_;refine W.go rfl (λ_=>au) ?_;refine W.go rfl (λ_=>iM) ?_;refine ih (i+1) aa _ _ v' _ ⟨rfl,hF',?_,?_,?_,YY.box,YY.Xf,?_⟩ rfl rfl rfl rfl ?_
  ·have:=YY.size;have:=I.size;omega
  ·have:=YY.size;have:=I.le;omega
  ·intro b h1 h2 h3;have hv:some b≠v.ownBlock:=λe=>by
    have⟨hlen,ga⟩:=I.row;rcases ga with⟨rfl,_⟩|⟨g',cap,cur,rfl,h4,h5,_⟩
    ·cases e
    ·have e:b=g':=aT e;omega
   have gx:b<w.heap.size:=by have:=I.size;omega
   rw[YY.old b aa h2 h3 hv,m1 b aa,k1 b gx];exact I.old b h1 h2 h3
  ·rw[List.take_add_one,bm cx,hri];simp only[List.flatMap_append,Option.toList_some,List.flatMap_cons,List.flatMap_nil,List.append_nil];exact YY.row
  ·simp
def JQ{P:Program}{L:Nat->Bool}{o:aM}{w:ae}(h:bO P L o w)(fn:FuncId)(tmps:Array Value)(ps:Array Tmp)(Qa bd:Code):
  bO P L (λb=>(o b\/b=w.heap.size)\/b=w.heap.size+1) (mV w fn tmps ps Qa bd)/\(mV w fn tmps ps Qa bd).heap.size=w.heap.size+2/\(∀b,b<w.heap.size->(mV w fn tmps ps Qa bd).heap[b]?=w.heap[b]?)/\(mV w fn tmps ps Qa bd).heap[w.heap.size]?=so (.deferred (so [])) /\
   (mV w fn tmps ps Qa bd).heap[w.heap.size+1]?=so (.loop {state:=.ready,pending:=we,fn:=fn,tmps:=tmps,params:=ps,assign:=Qa,body:=bd,defers:=w.heap.size}):=by
 refine⟨?_,by simp[mV],λb hb=>?_,?_,?_⟩
 ·have h1:=h.alloc (x:=.deferred (so [])) rfl (λf _=>by simp[obj]);have h2:=h1.alloc (x:=.loop {state:=.ready,pending:=we,fn:=fn,tmps:=tmps,params:=ps,assign:=Qa,body:=bd,defers:=w.heap.size}) rfl (λf _=>by simp[obj]);simpa[mV] using h2
 ·simp only[mV,World.alloc];rw[dt eP,Array.getElem_push_lt aa];simp[hb]
 ·simp only[mV,World.alloc];rw[dt ar,Array.getElem_push_eq]
 ·simp only[mV,World.alloc];rw[fG,if_pos ar]
def Xm{o0:aM}{w0:ae}{n:Nat}(hF:bO ax L0 o0 w0)(hz:w0.heap.size=n+3)(o1:o0 n)(o2:o0 (n+1))(o3:o0 (n+2))(aaN:w0.heap[n]?=so (.cells #[.slice we 0 0] 35 (0,0)))(aaV:w0.heap[n+1]?=so (.deferred (so [])))(lr:Loop)(hlr:w0.heap[n+2]?=so (.loop lr))(ls:lr.state=.ready)(lpe:lr.pending=we)(Sv Ru c:Nat)(p:Option Addr)(rs:List aI)(hn:rs.length<=8)(VW:o0 Sv)(hs:w0.cell? ⟨Sv,0,we⟩=so (.slice p rs.length c))(hp:rs≠[]->p=so ⟨Ru,0,we⟩)(zd:o0 Ru)(Xn:Ru<n)(CH:eT w0 Ru rs)(fw:∀r∈rs,Cl ax L0 o0 (.slice r.sa r.sl r.sc))(lf:lr.fn=203)(lp:lr.params=#[7])(lt:lr.tmps.size=13)(lt2:lr.tmps[2]?=so (.pointer (so ⟨n,0,we⟩))){r0 r1 tl:Code}{x:Operand}{ps:Array Tmp}(fF:Tryz.f203.body=so (.seq r0 (.seq (.seq r1 (.block 0 (.rangeFunc x ps lr.assign lr.body))) tl)))(cf:Frame)(cs:List Frame)(h:∀v w',w'.heap.size>=n+3->bO ax L0 (grow o0 w0 w') w'->(∀b,b<n->w'.heap[b]?=w0.heap[b]?)->w'.ownsRow (n+3) 42 3 v rs.length (rs.flatMap aI.cells)->XB ax Fin 0 (grow o0 w0 w') (G (cf.finish v) cs) w'):
  XB ax Fin 0 o0 (G (Frame.enter ax 186 #[.func (.yield (n+2)) #[] #[],.pointer (so ⟨Sv,0,we⟩)] .normal) ((base 203).at ⟨lr.tmps,[{target:=.collected (n+1),args:=#[]}]⟩ [.inRangeFunc (n+2),.inBlock 0,.code tl]::cf::cs)) w0:=by
 have W:=bY (P:=ax) (Fin:=Fin) (d:=0);have rV:(base 186).kind≠.early:=by simp[base]
 have aeh:(base 203).kind≠.early:=by simp[base]
 have hs0:∃x,w0.heap[Sv]?=so x:=by have⟨x,k,_⟩:=hF.shut Sv VW;exact⟨x,k⟩
 rw[iN func186 rfl];walk_nrmf Tryz.f186;refine W.go rfl (λ_=>aE) ?_;refine W.go rfl (λ_=>bh) ?_;refine dN ?_;refine mX bS hF rfl ak rV ak ?_ rfl (v:=.slice p rs.length c) (λwl aW=>?_) λ_=>?_
 ·intro y hy;simp[Op.operands]at hy;subst hy;exact bX VW
 ·obtain⟨x,hx⟩:=hs0;have c0:wl.cell? ⟨Sv,0,we⟩=so (.slice p rs.length c):=(cell_of (aW.heap _ VW)).trans hs;simp[go_sem,c0]
 walk_nrm;refine gW ?_;refine W.go rfl (λ_=>au) ?_;refine W.go rfl (λ_=>fh) ?_;refine W.go rfl (λ_=>jL) ?_;have aiG:({lr with state:=.ready,pending:=we}:Loop)=lr:=by cases lr;simp only at ls lpe;subst ls;subst lpe;rfl
 refine JO o0 w0 n (n+2) (n+1) (n+3) Ru c lr rs hn aa aa aa aa o1 o3 hz.symm zd ⟨aa,aa⟩ CH fw p hp lf lp lt lt2 fF rfl _ _ ?_ rs.length 0 rfl _ _ (.slice we 0 0) _ ⟨?_,hF,aa,ah _,λ_ _ _ _=>rfl,aaN,?_,?_⟩ rfl rfl rfl rfl rfl;rotate_left
 ·funext b;simp only[grow,eq_iff_iff];constructor
  ·exact .inl
  ·rintro(h1|h1)
   ·exact h1
   ·omega
 ·rw[hlr,aiG]
 ·exact⟨rfl,.inl ⟨rfl,rfl⟩⟩
 intro o' w' v tm I;refine W.go rfl (λ_=>ew) ?_;refine W.go rfl (λw1=>stepG_leave rfl rfl func186 (results_none ai _ _).1 (results_none ai _ _).2) ?_;have Ci:((base 203).at ⟨lr.tmps,[{target:=.collected (n+1),args:=#[]}]⟩ [.inRangeFunc (n+2),.inBlock 0,.code tl]).finish (.tuple #[])=(base 203).at ⟨lr.tmps,[{target:=.collected (n+1),args:=#[]}]⟩ [.endRangeFunc (n+2),.inBlock 0,.code tl]:=by
  simp[Frame.finish,Frame.at]
 rw[Ci];have hl':=I.Xf;refine sd (t:=λw=>dB w (n+2) {{lr with state:=.ready,pending:=we} with state:=.exhausted}) (l:=n+2) rfl (λm=>Ey (w:=w'.at m) hl' rfl rfl rfl) (by simp[dB]) ?_;have nZ:∀b,o0 b->o' b:=λb hb=>by rw[I.own];exact .inl hb
 have lz:bO ax L0 o' (dB w' (n+2) {{lr with state:=.ready,pending:=we} with state:=.exhausted}):=pK I.aH rfl (λf=>by simp[obj]) (nZ _ o3);have aar:(dB w' (n+2) {{lr with state:=.ready,pending:=we} with state:=.exhausted}).heap.size=w'.heap.size:=by simp[dB]
 have YZ:∀b,b≠n+2->(dB w' (n+2) {{lr with state:=.ready,pending:=we} with state:=.exhausted}).heap[b]?=w'.heap[b]?:=λb hb=>by simp only[dB];rw[aU (bq hb)]
 generalize dB w' (n+2) {{lr with state:=.ready,pending:=we} with state:=.exhausted}=w1 at *;have Y0:=fF;simp only[Tryz.f203,aA,Code.seq.injEq,true_and]at Y0;obtain⟨-,-,Y0⟩:=Y0;have⟨gs,RP⟩:=lg lt;rw[RP]at lt2 |-;simp only[List.range,List.range.loop,aC,aP]at lt2 |-;simp only[List.getElem?_toArray,List.getElem?_cons_succ,List.getElem?_cons_zero,aA]at lt2;simp only[lt2];rw[show(Item.code tl)=Item.code _ from congrArg Item.code Y0.symm];refine W.go rfl (λ_=>gw) ?_;refine W.go rfl (λ_=>aE) ?_;refine W.go rfl (λ_=>bh) ?_;refine dN ?_;have BH:w1.heap[n]?=so (.cells #[v] 35 (0,0)):=(YZ n aa).trans I.box;refine mX bS lz rfl ak aeh ak ?_ rfl (v:=v) (λwl aW=>?_) λ_=>?_
 ·intro y hy;simp[Op.operands]at hy;subst hy;exact bX (nZ _ o1)
 ·have hx:=(aW.heap _ (nZ _ o1)).trans BH;have c0:wl.cell? ⟨n,0,we⟩=so v:=by simp[World.cell?,hx]
  simp[go_sem,c0]
 walk_nrm;have rV:=aeh;refine gW ?_;refine W.go rfl (λ_=>au) ?_;refine W.go rfl (λ_=>stepG_ret') ?_;have hd1:w1.heap[n+1]?=so (.deferred (so [])):=by rw[YZ _ aa,I.old _ aa aa aa];exact aaV
 refine sd (t:=λw=>{w with heap:=w.heap.setIfInBounds (n+1) (.deferred we)}) (l:=n+1) rfl (λm=>Be (w:=w1.at m) rfl hd1) ar ?_;have rj:bO ax L0 o' {w1 with heap:=w1.heap.setIfInBounds (n+1) (.deferred we)}:=pK lz rfl (λf=>by simp[obj]) (nZ _ o2);have aaI:({w1 with heap:=w1.heap.setIfInBounds (n+1) (.deferred we)}:ae).heap.size=w'.heap.size:=by simp[aar]
 have Sx:∀b,b≠n+1->b≠n+2->({w1 with heap:=w1.heap.setIfInBounds (n+1) (.deferred we)}:ae).heap[b]?=w'.heap[b]?:=λb h1 h2=>by
  rw[<- YZ b h2];exact aU (bq h1)
 generalize ({w1 with heap:=w1.heap.setIfInBounds (n+1) (.deferred we)}:ae)=w2 at *;refine W.go rfl (λw1=>stepG_leave rfl rfl func203 (v:=v) (by simp[results,Tryz.f203,go_sem]) (by simp[results,Tryz.f203,go_sem])) ?_;have eo:o'=grow o0 w0 w2:=by rw[I.own];unfold grow;rw[aaI]
 rw[eo]at rj |-;have fy:=I.size;refine h v w2 aa rj (λb hb=>?_) ?_
 ·rw[Sx b aa aa];exact I.old b aa aa aa
 ·have hr:=I.row;rw[cC]at hr;exact dC hr λg hg TT=>Sx g aa aa
def JR(hF:bO ax L0 o w)(Sv Ru c:Nat)(p:Option Addr)(rs:List aI)(hn:rs.length<=8)(VW:o Sv)(hs:w.cell? ⟨Sv,0,we⟩=so (.slice p rs.length c))(hp:rs≠[]->p=so ⟨Ru,0,we⟩)(zd:o Ru)(CH:eT w Ru rs)(fw:∀r∈rs,Cl ax L0 o (.slice r.sa r.sl r.sc)):
  bA ax (XB ax Fin 0) 203 #[.slice we 0 0,.func (.func 186) #[] #[.pointer (so ⟨Sv,0,we⟩)]] o w λv o' w' =>
   o'=grow o w w'/\bO ax L0 o' w'/\(∀b,b<w.heap.size->w'.heap[b]?=w.heap[b]?)/\w'.ownsRow w.heap.size 42 3 v rs.length (rs.flatMap aI.cells):=by
 intro cf cs Li;have W:=bY (P:=ax) (Fin:=Fin) (d:=0);have rV:(base 203).kind≠.early:=by simp[base]
 rw[iN func203 rfl];walk_nrmf Tryz.f203;refine W.go rfl (λ_=>aE) ?_;refine W.go rfl (λ_=>bh) ?_;refine dN ?_;refine zD rfl ak rV rfl (Obj.cells #[.slice we 0 0] 35) (λn=>.pointer (so ⟨n,0,we⟩)) (λw1=>fS) (λw1=>fS) ?_;walk_nrm;have lz:bO ax L0 (λb=>o b\/b=w.heap.size) (w.alloc (Obj.cells #[.slice we 0 0] 35)):=hF.alloc rfl λf _=>by simp[obj,val]
 refine gW ?_;refine W.go rfl (λ_=>au) ?_;refine W.go rfl (λ_=>aE) ?_;refine W.go rfl (λ_=>aE) ?_;refine W.go rfl (λ_=>bh) ?_;refine dN ?_;refine gW ?_;refine W.go rfl (λ_=>au) ?_;refine W.go rfl (λ_=>fh) ?_;refine Mc (g:=186) rfl rV rfl (by simp[Act.eval];rfl) func186 ai rfl ?_;have Lf:=JQ lz 203;have WY:(w.alloc (Obj.cells #[.slice we 0 0] 35)).heap.size=w.heap.size+1:=ar;have aei:∀b,b<w.heap.size->(w.alloc (Obj.cells #[.slice we 0 0] 35)).heap[b]?=w.heap[b]?:=λb hb=>RowKit.Below.heap_alloc w _ b hb;have aej:(w.alloc (Obj.cells #[.slice we 0 0] 35)).heap[w.heap.size]?=so (Obj.cells #[.slice we 0 0] 35):=by simp only[World.alloc];rw[fG,if_pos rfl]
 generalize w.alloc (Obj.cells #[.slice we 0 0] 35)=wa at *;rw[WY]at Lf;simp only[WY];have ho:(λb=>((o b\/b=w.heap.size)\/b=w.heap.size+1)\/b=w.heap.size+1+1)=(λb=>((o b\/b=w.heap.size)\/b=w.heap.size+1)\/b=w.heap.size+2):=rfl;have Xn:Ru<w.heap.size:=hF.lt zd;have hSn:Sv<w.heap.size:=hF.lt VW;have nZ:∀{w':ae},(∀b,b<w.heap.size+1->w'.heap[b]?=wa.heap[b]?)->∀b,b<w.heap.size->w'.heap[b]?=w.heap[b]?:=λh b hb=>(h b aa).trans (aei b hb);have hru:∀w0:ae,(∀b,b<w.heap.size+1->w0.heap[b]?=wa.heap[b]?)->eT w0 Ru rs:=λw0 h0 i hi=>by
  have e:=nZ h0 Ru Xn;have⟨c0,c1,c2⟩:=CH i hi;exact⟨(cell_of e).trans c0,(cell_of e).trans c1,(cell_of e).trans c2⟩
 have rG:∀w0:ae,w0.heap.size=w.heap.size+1+2->(∀b,b<w.heap.size+1->w0.heap[b]?=wa.heap[b]?)->∀v w',w'.heap.size>=w.heap.size+3->bO ax L0 (grow (λb=>((o b\/b=w.heap.size)\/b=w.heap.size+1)\/b=w.heap.size+1+1) w0 w') w'->(∀b,b<w.heap.size->w'.heap[b]?=w0.heap[b]?)->w'.ownsRow (w.heap.size+3) 42 3 v rs.length (rs.flatMap aI.cells)->XB ax Fin 0 (grow (λb=>((o b\/b=w.heap.size)\/b=w.heap.size+1)\/b=w.heap.size+1+1) w0 w') (G (cf.finish v) cs) w':=by
  intro w0 h0 h00 v w' hz hF' hk hr;have e:grow (λb=>((o b\/b=w.heap.size)\/b=w.heap.size+1)\/b=w.heap.size+1+1) w0 w'=grow o w w':=by
   funext b;simp only[grow,eq_iff_iff,h0];constructor
   ·rintro((((h1|h1)|h1)|h1)|h1)
    ·exact .inl h1
    all_goals exact .inr aa
   ·rintro(h1|h1)
    ·exact .inl (.inl (.inl (.inl h1)))
    ·by_cases h2:b<w.heap.size+3
     ·by_cases h3:b=w.heap.size
      ·exact .inl (.inl (.inl (.inr h3)))
      ·by_cases h4:b=w.heap.size+1
       ·exact .inl (.inl (.inr h4))
       ·exact .inl (.inr aa)
     ·exact .inr aa
  rw[e]at hF' |-;refine Li v _ w' ⟨rfl,hF',λb hb=>(hk b hb).trans (nZ h00 b hb),?_⟩;obtain⟨hlen,ga⟩:=hr;refine⟨hlen,?_⟩;rcases ga with h1|⟨g,cap,cur,h1,h2,h3⟩
  ·exact .inl h1
  ·exact .inr ⟨g,cap,cur,h1,aa,h3⟩
 refine Xm (n:=w.heap.size) (Lf _ _ _ _).1 (Lf _ _ _ _).2.1 (.inl (.inl (.inr rfl))) (.inl (.inr rfl)) (.inr rfl) (((Lf _ _ _ _).2.2.1 _ aa).trans aej) (Lf _ _ _ _).2.2.2.1 _ (Lf _ _ _ _).2.2.2.2 rfl rfl Sv Ru c p rs hn (.inl (.inl (.inl VW))) ?_ hp (.inl (.inl (.inl zd))) Xn ?_ ?_ rfl rfl rfl rfl rfl cf cs ?_
 ·exact(cell_of (nZ (Lf _ _ _ _).2.2.1 Sv hSn)).trans hs
 ·exact hru _ (Lf _ _ _ _).2.2.1
 ·exact λr hr=>(fw r hr).up λb hb=>.inl (.inl (.inl hb))
 ·exact rG _ (Lf _ _ _ _).2.1 (Lf _ _ _ _).2.2.1
end
section
variable {Fin:bL}{d:Nat}{o:aM}{w:ae}{fn:FuncId}{Q:Exit->Act->aM->ae->Prop}{a:Act}{ops:Array Oper}{i:Nat}{rest:List Nat}{op:Oper}{dd:Option Tmp}{v:Value}{b j:Nat}
def jJ(hF:bO ax L0 o w)(ox:o b)(c:w.cell? ⟨b,j,we⟩=so v)(h:Cl ax L0 o v->eX (XB ax Fin d) fn ops rest Q (a.put dd v) o w)(ho:ops[i]?=so op:=by rfl)(hw:Region.wanted op (yielded ops a.tmps)=true:=by rfl)(jl:tD L0 op.op=true:=by rfl)(f1:(∀j,Cl ax L0 o (.pointer (so ⟨b,j,we⟩)))->∀x∈op.op.operands,Cl ax L0 o (a.eval x):=by
   intro h9 y hy;simp[Op.operands]at hy;subst hy;simp[Act.eval];exact h9 _)(hd:op.dst=dd:=by rfl)(f2:(∀wl,iz o w wl->wl.cell? ⟨b,j,we⟩=so v)->∀wl,iz o w wl->(execOp a.eval op).run ax wl=.ok (.value v) wl:=by
   intro h9 wl aW;simp[go_sem,h9 wl aW]):eX (XB ax Fin d) fn ops (i::rest) Q a o w :=
 dK bS hF ho hw jl (f1 λj=>bX ox) hd (f2 λwl aW=>(aW.cell ox).trans c) h
def sR{B C:Prop}(hF:bO ax L0 o w)(ox:o b)(c:w.cell? ⟨b,j,we⟩=so v)(f1:(∀j,Cl ax L0 o (.pointer (so ⟨b,j,we⟩)))->B:=by
  intro h9 y hy;simp[Op.operands]at hy;subst hy;simp[Act.eval];exact h9 _)(f2:(∀wl,iz o w wl->wl.cell? ⟨b,j,we⟩=so v)->C:=by
   intro h9 wl aW;simp[go_sem,h9 wl aW]):bO ax L0 o w/\B/\C:=⟨hF,f1 λj=>bX ox,f2 λwl aW=>(aW.cell ox).trans c⟩
def dsP{S:(Nat->Option Value)->aM->ae->Prop}{kds:List Kd}{u:Nat->Value}{K:Act->Prop}{l:List Nat}{xs:List Kd}{y:Value}(cJ:∀σ o w,zI ops kds u j σ->S σ o w->bO ax L0 o w/\(∀x∈op.op.operands,Cl ax L0 o (a.eval x))/\∀wl,iz o w wl->(execOp a.eval op).run ax wl=.ok (.value y) wl)(h:dL ax (BE ax (XB ax Fin d) fn ops Q S kds u) ops K u l xs (a.put dd y))(ho:ops[j]?=so op:=by rfl)(hd:op.dst=dd:=by rfl)(hn:CW op.op=true:=by rfl)(hw:Region.wanted op (yielded ops a.tmps)=true:=by rfl)(jl:tD L0 op.op=true:=by rfl):dL ax (BE ax (XB ax Fin d) fn ops Q S kds u) ops K u (j::l) (so (so y)::xs) a :=
 bZ bS ho hd hn hw jl cJ h
end
section
open Go.Lib
def pZ:∀a:List UInt8,compareBytes a a=0
 | []=>rfl
 |x::r=>by
  have h:¬x<x:=UInt8.lt_irrefl x;simp[compareBytes,h,pZ r]
def sS:∀a b:List UInt8,compareBytes a b=0->a=b
 | [],[],_=>rfl
 | [],_::_,h=>by simp[compareBytes]at h
 |_::_,[],h=>by simp[compareBytes]at h
 |x::r,y::s,h=>by
  simp only[compareBytes]at h;split at h
  ·cases h
  ·split at h
   ·cases h
   ·rename_i h1 h2;have e:x=y:=im (aaz.1 h2) (aaz.1 h1);rw[e,sS r s h]
def si:∀a b:List UInt8,compareBytes b a=- compareBytes a b
 | [],[]=>rfl
 | [],_::_=>rfl
 |_::_,[]=>rfl
 |x::r,y::s=>by
  simp only[compareBytes];by_cases h1:x<y
  ·have h2:¬y<x:=UInt8.lt_asymm h1;simp[h1,h2]
  ·by_cases h2:y<x
   ·simp[h1,h2]
   ·simp[h1,h2,si r s]
def nR:∀a b c:List UInt8,compareBytes a b<0->compareBytes b c<0->compareBytes a c<0
 | [],[],_,h,_=>by simp[compareBytes]at h
 |_::_,[],_,h,_=>by simp[compareBytes]at h
 |_,_::_,[],_,h=>by simp[compareBytes]at h
 | [],_::_,_::_,_,_=>by simp[compareBytes]
 |x::r,y::s,z::t,h1,h2=>by
  simp only[compareBytes]at h1 h2 |-;by_cases a1:x<y
  ·by_cases a2:y<z
   ·simp[UInt8.lt_trans a1 a2]
   ·by_cases a3:z<y
    ·simp[a2,a3]at h2
    ·have e:y=z:=im (aaz.1 a3) (aaz.1 a2);subst e;simp[a1]
  ·by_cases a4:y<x
   ·simp[a1,a4]at h1
   ·have e:x=y:=im (aaz.1 a4) (aaz.1 a1);subst e;simp only[UInt8.lt_irrefl,if_false]at h1;by_cases a2:x<z
    ·simp[a2]
    ·by_cases a3:z<x
     ·simp[a2,a3]at h2
     ·simp[a2,a3]at h2 |-;exact nR r s t h1 h2
end
end Go.Proofs.Kz
namespace Go.Proofs
open _root_.Option renaming some → so,none → we
section
open Go.Shelf
end
end Go.Proofs
namespace Go.Proofs.Kz
open Go.Proofs.Tryz
open Go.Proofs.Tryz renaming prog → ax
open _root_.ByteArray renaming empty → aR
open _root_.Option renaming some → so,none → we
open Go.Proofs
section
open Go.RowKit Go.Shelf Go.Lib Go.Sort
def qP(x y:aI):Int:=Lib.compareBytes x.out.data.toList y.out.data.toList
def Qz(x y:aI)(W:ae):Calls ax 146 #[.agg x.cells.toArray,.agg y.cells.toArray] W λe w'=>e=.returned (.int .i64 (qP x y))/\∃q os',w'=grow (W.drewN q) os':=by
 have aek:=λW'=>Tryz.strings_Compare x.out y.out W';show Calls ax _ #[.agg #[.string x.out,.int .i64 x.eO,.slice x.sa x.sl x.sc],.agg #[.string y.out,.int .i64 y.eO,.slice y.sa y.sl y.sc]] W _;unfold qP;generalize Lib.compareBytes x.out.data.toList y.out.data.toList=r at aek |-;go_enter func146,ntmps146;go_wp2_with (go_at_call 187;refine(aek _).mono ?_;rintro e w' ⟨rfl,rfl⟩);go_ret;exact⟨rfl,0,_,by rw[alloc_eq_grow,alloc_eq_grow,Go.Sort.grow_grow];rfl⟩
@[reducible] def EG:Inhabited aI:=⟨⟨aR,0,we,0,0⟩⟩
def Mw(blk off size:Nat)(w:ae):@CmpLays aI EG ax 146 #[] aI.cells 3 qP blk off size w :=
 λ_ _ _ _ x y=>Qz x y _
def GU(n:Nat)(W:ae)(h:n<=12):Calls ax 205 #[.int .u64 n] W λe w'=>(∃l:Int,e=.returned (.int .i64 l))/\w'=W :=
 (Any.bits_Len Tryz.bitsLen n W aa aa).mono λ_ _ ⟨he,hw⟩=>⟨⟨_,he⟩,hw⟩
def Xo(d:Array aI)(i:Nat)(h:i<d.size):(@getElem! (Array aI) Nat aI _ _ EG d i)=d[i]:=by
 letI:Inhabited aI:=EG
 exact eL d i h
def aiH:SWO (ltOf qP):=by
 have hx:∀x y,ltOf qP x y=true↔qP x y<0:=λx y=>by simp[ltOf]
 have hn:∀x y,ltOf qP x y=false↔¬qP x y<0:=λx y=>by simp[ltOf]
 refine⟨λx=>?_,λx y z h1 h2=>?_,λx y z h1 h2=>?_⟩
 ·rw[hn];simp[qP,pZ]
 ·rw[hx]at *;exact nR _ _ _ h1 h2
 ·rw[hn]at *;intro h3;unfold qP at *;rcases Int.lt_or_le 0 (compareBytes x.out.data.toList y.out.data.toList)with h4|h4
  ·have e:=si x.out.data.toList y.out.data.toList;exact h2 (nR _ _ _ aa h3)
  ·have e:compareBytes x.out.data.toList y.out.data.toList=0:=aa;rw[sS _ _ e]at h3;exact h2 h3
def holds_of(w:ae)(b:Nat)(rs:List aI)(h:eT w b rs)(hf:∀j,j<rs.length*3->w.frozen? ⟨b,j,we⟩=false):@HoldsK aI EG aI.cells 3 w b 0 rs.toArray:=by
 intro j hj;have sg:j<rs.length*3:=by simpa using hj
 have cx:j/3<rs.length:=aa;have⟨c0,c1,c2⟩:=h (j/3) cx;rw[bt];refine⟨?_,hf j sg⟩;rw[@get_flatK aI EG aI.cells 3 rs.toArray j (by simpa using sg)];have e:(@getElem! (Array aI) Nat aI _ _ EG rs.toArray (j/3))=rs[j/3]:=by
  rw[Xo _ _ (by simpa using cx)];rfl
 rw[e];have hm:j%3=0\/j%3=1\/j%3=2:=aa;rcases hm with hm|hm|hm
 ·rw[show w.cell? ⟨b,j,we⟩=w.cell? ⟨b,j/3*3,we⟩ from congrArg (λx=>w.cell? ⟨b,x,we⟩) aa,c0,hm];simp[aI.cells]
 ·rw[show w.cell? ⟨b,j,we⟩=w.cell? ⟨b,j/3*3+1,we⟩ from congrArg (λx=>w.cell? ⟨b,x,we⟩) aa,c1,hm];simp[aI.cells]
 ·rw[show w.cell? ⟨b,j,we⟩=w.cell? ⟨b,j/3*3+2,we⟩ from congrArg (λx=>w.cell? ⟨b,x,we⟩) aa,c2,hm];simp[aI.cells]
def Mx(w:ae)(b:Nat)(d:Array aI)(h:@HoldsK aI EG aI.cells 3 w b 0 d):eT w b d.toList:=by
 intro i hi;have ml:i<d.size:=by simpa using hi
 have key:∀c,c<3->w.cell? ⟨b,i*3+c,we⟩=so ((d.toList[i]).cells[c]!):=λc hc=>by
  have:=(h (i*3+c) eP).1;rw[bt]at this;rw[this,@get_flatK aI EG aI.cells 3 d (i*3+c) aa];have e1:(i*3+c)/3=i:=aa;have e2:(i*3+c)%3=c:=aa;rw[e1,e2,Xo d i ml];simp
 exact⟨key 0 aa,key 1 aa,key 2 aa⟩
structure JS(w w':ae)(blk:Nat)(rs b7:List aI):Prop where
 size:w.heap.size<=w'.heap.size
 old:∀b,b<w.heap.size->b≠blk->w'.heap[b]?=w.heap[b]?
 perm:b7.Perm rs
 sorted:∀i j (hi:i<b7.length) (hj:j<b7.length),i<j->¬qP b7[j] b7[i]<0
 at_:eT w' blk b7
def C9(blk cap:Nat)(rs:List aI)(w:ae)(hR:eT w blk rs)(hf:∀j,j<rs.length*3->w.frozen? ⟨blk,j,we⟩=false)(PS:blk<w.heap.size)(p5:rs.length<=12):
  Calls ax 185 #[.slice (so ⟨blk,0,we⟩) rs.length cap,.func (.func 146) #[] #[]] w λe w'=>∃v,e=.returned v/\v=.tuple #[]/\∃b7,JS w w' blk rs b7:=by
 have eg:∀args w,(callFunc 146 args).run ax w=.ok (.enter 146 args) w:=enters_of func146 ai rfl;have hH:=holds_of w blk rs hR hf;have hc:=@AnyQ.slices_SortFunc_small_sorted ax _ aI EG Tryz.Qf 3 isAgg42 sizeOf42 aI.cells (λ_=>rfl) (λx v hv=>by simp[aI.cells]at hv;rcases hv with rfl|rfl|rfl<;>rfl) qP 146 #[] aiH blk 0 cap rs.toArray w eg (Mw blk 0 rs.toArray.size w) hH PS (by simpa using p5) GU;refine Calls.mono hc ?_;rintro e w' ⟨rfl,d',n,os,hp,hs,rfl⟩;have hz:d'.size=rs.length:=by simpa using hp.1
 have pB:blk<(@putRowK aI EG aI.cells 3 (Go.Sort.ahead w n) blk 0 d').heap.size:=by simp[putRowK,putRow,mapBlock,Go.Sort.ahead];exact PS
 refine⟨_,rfl,rfl,d'.toList,?_,?_,?_,?_,?_⟩
 ·simp[sortWorldK,Go.Sort.grow,putRowK,putRow,mapBlock,Go.Sort.ahead]
 ·intro b hb dE;simp only[sortWorldK];rw[heap_grow_old _ _ (by simp[putRowK,putRow,mapBlock,Go.Sort.ahead];exact hb)];simp only[putRowK,putRow,mapBlock,Go.Sort.ahead];rw[aS,if_neg (λe=>dE e.symm)]
 ·have h2:=hp.2.2;rw[iW (by simp[hz]),iW ar]at h2;simpa using h2
 ·intro i j hi hj Fv;have h2:=hs i j (aV _) Fv (by simp at hj |-;omega);rw[Xo d' i (by simpa using hi),Xo d' j (by simpa using hj)]at h2;simp[ltOf]at h2;simp;exact h2
 ·refine Mx _ blk d' ?_;refine holds_grow id _ os blk 0 _ pB ?_;exact holds_putRow id _ blk 0 _ _ hH (by simp[hz])
end
open Go.Ren Go.Conc Go.ConcN
section
variable {Fin:bL}{o:aM}{w:ae}
structure TW(o:aM)(w:ae)(rs:List aI)(v:Value)(o':aM)(w':ae):Prop where
 own:o'=grow o w w'
 aH:bO ax L0 o' w'
 size:w.heap.size<=w'.heap.size
 old:∀b,b<w.heap.size->w'.heap[b]?=w.heap[b]?
 row:w'.ownsRow w.heap.size 42 3 v rs.length (rs.flatMap aI.cells)
def QA(hF:bO ax L0 o w)(Sv Ru c:Nat)(p:Option Addr)(rs:List aI)(hn:rs.length<=8)(VW:o Sv)(hs:w.cell? ⟨Sv,0,we⟩=so (.slice p rs.length c))(hp:rs≠[]->p=so ⟨Ru,0,we⟩)(zd:o Ru)(CH:eT w Ru rs)(fw:∀r∈rs,Cl ax L0 o (.slice r.sa r.sl r.sc)):
  bA ax (XB ax Fin 0) 184 #[.func (.func 186) #[] #[.pointer (so ⟨Sv,0,we⟩)]] o w (TW o w rs):=by
 have W:=bY (P:=ax) (Fin:=Fin) (d:=0);refine bD W func184 ak ?_;refine ay ?_;refine du W rfl ak rfl func203 ai rfl aK rfl ((JR hF Sv Ru c p rs hn VW hs hp zd CH fw).mono λv o' w' hp=>?_);refine ay ?_;obtain⟨h1,h2,h3,h4⟩:=hp;refine⟨.inr trivial,trivial,v,resultsC_tmp (t:=2) ak _,h1,h2,?_,h3,h4⟩;refine de λcx=>?_;have:=h3 _ cx;rw[cH (ah _),aO cx]at this;cases this
def TX(rs:List aI):∀i (h:i<rs.length) c,c<3->(rs.flatMap aI.cells)[i*3+c]?=(rs[i].cells)[c]?:=by
 induction rs with
 |nil=>intro i h;simp at h
 |cons r t ih =>
  intro i h c hc;have hl:r.cells.length=3:=rfl;rw[List.flatMap_cons];cases i with
  |zero=>rw[jG aa];simp
  |succ i =>
   rw[ji aa,hl,show(i+1)*3+c-3=i*3+c by omega,ih i (by simpa using h) c hc];simp
def JU{w:ae}{g cap n:Nat}{cur:Array Value}{rs:List aI}(hg:w.heap[g]?=so (.cells cur 42 (0,0)))(ht:cur.toList.take (rs.length*3)=rs.flatMap aI.cells):eT w g rs/\∀j,w.frozen? ⟨g,j,we⟩=false:=by
 have key:∀i (h:i<rs.length) c,c<3->w.cell? ⟨g,i*3+c,we⟩=(rs[i].cells)[c]?:=λi h c hc=>by
  rw[<- TX rs i h c hc,<- ht,fD aa];simp[World.cell?,hg]
 exact⟨λi h=>⟨key i h 0 aa,key i h 1 aa,key i h 2 aa⟩,λj=>by simp[World.frozen?,hg]⟩
def GV(w:ae):Calls ax 185 #[.slice we 0 0,.func (.func 146) #[] #[]] w λe w'=>∃v,e=.returned v/\v=.tuple #[]/\w'.heap=w.heap:=by
 have hl:=GU 0 w aa;have h2:∀W,Calls ax 214 #[.slice we 0 0,.int .i64 0,.int .i64 0,.func (.func 146) #[] #[]] W λe w'=>e=.returned (.tuple #[])/\w'.heap=W.heap:=λW=>by
  go_enter func214,ntmps214;go_wp2;refine wp_loop_rounds 1 ?_;rw[rounds_succ];go_wp2
  go_end0
  exact⟨rfl,rfl⟩
 have h3:∀W lim,Calls ax 204 #[.slice we 0 0,.int .i64 0,.int .i64 0,.int .i64 lim,.func (.func 146) #[] #[]] W λe w'=>e=.returned (.tuple #[])/\w'.heap=W.heap:=λW lim=>by
  go_enter func204,ntmps204;go_wp2;refine wp_loop_rounds 1 ?_;rw[rounds_succ];go_wp2_with (go_at_call 214;refine(h2 _).mono ?_;rintro e w' ⟨rfl,hw⟩)
  (try simp only[Exit.inBlock,Exit.then])
  refine bodyPost_ret (results_none ai _ _).1 rfl ?_;exact⟨rfl,hw⟩
 go_enter func185,ntmps185;go_wp2_with (first|(go_at_call 205;refine hl.mono ?_;rintro e w' ⟨⟨l,rfl⟩,rfl⟩)|(go_at_call 204;refine(h3 _ _).mono ?_;rintro e w' ⟨rfl,hw⟩))
 go_end0
 exact⟨_,rfl,rfl,hw⟩
structure vx(o:aM)(w:ae)(rs:List aI)(v:Value)(o':aM)(w':ae):Prop where
 own:o'=grow o w w'
 aH:bO ax L0 o' w'
 size:w.heap.size<=w'.heap.size
 old:∀b,b<w.heap.size->w'.heap[b]?=w.heap[b]?
 row:(rs=[]/\v=.slice we 0 0)\/∃g cap b7,v=.slice (so ⟨g,0,we⟩) rs.length cap/\rs.length<=cap/\w.heap.size<=g/\g<w'.heap.size/\b7.Perm rs/\(∀i j (hi:i<b7.length) (hj:j<b7.length),i<j->¬qP b7[j] b7[i]<0)/\eT w' g b7
def TY{o:aM}{w w1 w2:ae}(h1:w.heap.size<=w1.heap.size)(h2:w1.heap.size<=w2.heap.size):grow (grow o w w1) w1 w2=grow o w w2:=grow_grow h1 rfl h2
def aaW{o1:aM}{w1:ae}{rs:List aI}{v:Value}(hn:rs.length<=8)(S:TW o w rs v o1 w1):
  bA ax (XB ax Fin 0) 185 #[v,.func (.func 146) #[] #[]] o1 w1 λv' o2 w2=>v'=.tuple #[]/\vx o w rs v o2 w2:=by
 have⟨hlen,ga⟩:=S.row;rcases ga with⟨rfl,h0⟩|⟨g,cap,cur,rfl,h1,h2,h3,h4,h5,h6⟩
 ·refine sO bS ai S.aH ?_ (R:=λwl v aX=>v=.tuple #[]/\aX.heap=wl.heap) (λwl v w τ d h=>h) (λwl τ d v w' h=>h) (λwl hz aW=>GV wl) ?_
  ·intro f hf;have hb:f.h 146=146:=hf.fn _ (by show L0 146=true;kernel_rfl);simp[val,tL,hb]
  ·rintro wl v aX w' hz aW ⟨rfl,hh⟩ B;have fy:w'.heap.size=w1.heap.size:=by rw[B.size,hh,hz]
   have e:grow o1 w1 w'=o1:=by
    funext b;simp only[grow,eq_iff_iff,fy];exact⟨λh=>h.elim id λh=>aa,.inl⟩
   have hold:∀b,b<w1.heap.size->w'.heap[b]?=w1.heap[b]?:=λb hb=>by
    by_cases ho:o1 b
    ·rw[B.same b (.inl ho),hh,aW b ho]
    ·exact B.rest b hb ho
   have hF:=B.aH;rw[e]at hF |-;have hs:=S.size;refine⟨rfl,by rw[S.own];unfold grow;rw[fy],hF,aa,λb hb=>by rw[hold b aa];exact S.old b hb,.inl ⟨aal.1 h0,rfl⟩⟩
 ·have HM:g<w1.heap.size:=(aad.1 h2).1;have VX:o1 g:=by rw[S.own];exact .inr ⟨h1,HM⟩
  refine sO bS ai S.aH ?_ (R:=λwl v aX=>v=.tuple #[]/\∃b7,JS wl aX g rs b7) (λwl v w τ d h=>?_) (λwl τ d v w' h=>?_) (λwl hz aW=>?_) ?_
  ·intro f hf;have:=dW (P:=ax) (L:=L0) (off:=0) (l:=rs.length) (c:=cap) VX f hf;have hb:f.h 146=146:=hf.fn _ (by show L0 146=true;kernel_rfl);simp[val,tL,hb]at this |-;exact this
  ·obtain⟨k1,b7,k2⟩:=h;exact⟨k1,b7,k2.size,k2.old,k2.perm,k2.sorted,k2.at_⟩
  ·obtain⟨k1,b7,k2⟩:=h;exact⟨k1,b7,k2.size,k2.old,k2.perm,k2.sorted,k2.at_⟩
  ·have⟨k1,k2⟩:=JU (cap:=cap) (n:=rs.length) ((aW g VX).trans h2) h6;exact C9 g cap rs wl k1 (λj _=>k2 j) aa aa
  ·rintro wl v aX w' hz aW ⟨rfl,b7,T⟩ B;have fy:=B.iS;have hs:=S.size;have hold:∀b,b<w1.heap.size->b≠g->w'.heap[b]?=w1.heap[b]?:=λb hb dE=>by
    by_cases ho:o1 b
    ·rw[B.same b (.inl ho),T.old b aa dE,aW b ho]
    ·exact B.rest b hb ho
   have hF:=B.aH;have e:grow o1 w1 w'=grow o w w':=by rw[S.own];exact TY hs fy
   have hsm:=B.same g (.inl VX);rw[e]at hF |-;refine⟨rfl,rfl,hF,aa,λb hb=>by rw[hold b aa aa];exact S.old b hb,.inr ⟨g,cap,b7,rfl,h3,h1,aa,T.perm,T.sorted,λi hi=>?_⟩⟩;have⟨c0,c1,c2⟩:=T.at_ i hi;exact⟨(cell_of hsm).trans c0,(cell_of hsm).trans c1,(cell_of hsm).trans c2⟩
def GW(hF:bO ax L0 o w)(Sv Ru c:Nat)(p:Option Addr)(rs:List aI)(hn:rs.length<=8)(VW:o Sv)(hs:w.cell? ⟨Sv,0,we⟩=so (.slice p rs.length c))(hp:rs≠[]->p=so ⟨Ru,0,we⟩)(zd:o Ru)(CH:eT w Ru rs)(fw:∀r∈rs,Cl ax L0 o (.slice r.sa r.sl r.sc)):
  bA ax (XB ax Fin 0) 144 #[.func (.func 186) #[] #[.pointer (so ⟨Sv,0,we⟩)],.func (.func 146) #[] #[]] o w (vx o w rs):=by
 have W:=bY (P:=ax) (Fin:=Fin) (d:=0);refine bD W func144 ak ?_;refine ay ?_;refine du W rfl ak rfl func184 ai rfl aK rfl ((QA hF Sv Ru c p rs hn VW hs hp zd CH fw).mono λv o1 w1 S=>?_);refine ay ?_;refine du W rfl ak rfl func185 ai rfl (vs:=#[v,.func (.func 146) #[] #[]]) aK rfl ((aaW hn S).mono λv' o2 w2 hq=>?_);obtain⟨rfl,hq⟩:=hq;refine ay ?_;exact⟨.inr trivial,trivial,v,resultsC_tmp (t:=4) ak _,hq⟩
end
section
open Go.RowKit
def eT.below{w w':ae}{b:Nat}{rs:List aI}(h:eT w b rs)(hb:b<w.heap.size)(hw:Below w.heap.size w w'):eT w' b rs:=λk hk=>by
 obtain⟨hc,-⟩:=wv hw;rw[hc _ _ hb,hc _ _ hb,hc _ _ hb];exact h k hk
def My(b c:Nat)(p:Option Addr)(rs:List aI)(w:ae)(hn:rs.length<=100000)(hp:rs≠[]->p=so ⟨b,0,we⟩/\b<w.heap.size)(hv:eT w b rs):
  Calls ax 147 #[.slice p rs.length c] w λe w'=>e=.returned (.slice (so ⟨w.heap.size,0,we⟩) rs.length rs.length)/\Below w.heap.size w w'/\w.heap.size<w'.heap.size /\
   w'.rowIs w.heap.size 9 rs.length (λj=>.string ((rs.map (·.out)).getD j aR)):=by
 have HO:=run_make_row' (P:=ax) 40 9 (.string aR) 16 underlying40 qq rfl .i64 .i64 rs.length aa aa;go_enter func147,ntmps147;go_wp2;go_loopw [11] (λi w'=>∃k:Nat,k<=rs.length/\i=.int .i64 k/\Below w.heap.size w w'/\w.heap.size<w'.heap.size/\w'.rowIs w.heap.size 9 rs.length (λj=>if j<k then .string ((rs.map (·.out)).getD j aR)else .string aR)) (λi _=>rs.length-(intOf i).toNat)
 case atStart=>exact⟨0,aV _,rfl,(Below.refl _ _).alloc (ah _) _,ar,by simpa using World.rowIs_made w _ _ _⟩
 case round =>
  obtain⟨k,hk,rfl,gx,hz,cp⟩:=hrel;by_cases cx:k<rs.length
  ·obtain⟨rfl,hb⟩:=hp (nlt cx);have⟨h1,h2,h3⟩:=hv.below hb gx k cx;have hc:=cp.cell cx;have hf:=cp.frozen k;rw[if_neg aa]at hc;go_wp2;refine⟨⟨k+1,aa,by go_num,(gx.setCell (ah _) _).alloc (by simp[World.setCell];omega) _,by simp[World.setCell];omega,?_⟩,by simp[intOf];omega⟩;refine((cp.set k _).alloc _).congr λj hj=>?_;by_cases e:j=k
   ·subst e;simp[List.getD,cx]
   ·by_cases e':j<k
    ·rw[if_neg e,if_pos e',if_pos aa]
    ·rw[if_neg e,if_neg e',if_neg aa]
  ·go_wp2;go_ret;exact⟨rfl,gx,hz,cp.congr λi hi=>by rw[if_pos aa]⟩
end
section
open Go.RowKit
def tx(w:ae)(b:Nat)(ins:List (Bool×Nat)):Prop:=∀j (h:j<ins.length),w.cell? ⟨b,j*2,we⟩=so (.bool ins[j].1)/\w.cell? ⟨b,j*2+1,we⟩=so (.int .i64 ins[j].2)
def tx.below{w w':ae}{b:Nat}{ins:List (Bool×Nat)}(h:tx w b ins)(hb:b<w.heap.size)(hw:Below w.heap.size w w'):tx w' b ins:=λk hk=>by
 obtain⟨hc,-⟩:=wv hw;rw[hc _ _ hb,hc _ _ hb];exact h k hk
def zP(w:ae)(b:Nat)(zs:List Nat):Prop:=∀j (h:j<zs.length),w.cell? ⟨b,j,we⟩=so (.int .i64 zs[j])
def zP.below{w w':ae}{b:Nat}{zs:List Nat}(h:zP w b zs)(hb:b<w.heap.size)(hw:Below w.heap.size w w'):zP w' b zs:=λk hk=>by
 obtain⟨hc,-⟩:=wv hw;rw[hc _ _ hb];exact h k hk
def yD(b c:Nat)(zs:List Nat)(x:Nat)(w:ae)(hn:zs.length<=100000)(h:zP w b zs):
  Calls ax 190 #[.slice (so ⟨b,0,we⟩) zs.length c,.int .i64 x] w λe w'=>e=.returned (.bool (zs.contains x))/\w'=w:=by
 have:=Tryz.slices_Contains_int b 0 zs.length c (zs.map (λn:Nat=>(n:Int))) x w ar aa (λj hj=>by
  have sg:j<zs.length:=by simpa using hj
  rw[bt,h j sg];simp[sg])
 refine this.mono λe w' hq=>?_;obtain⟨rfl,rfl⟩:=hq;refine⟨?_,rfl⟩
 congr 2
 rw[bV ar];rw[en];simp only[List.contains_iff_mem,List.mem_map];exact⟨λ⟨a,h1,h2⟩=>(show a=x by omega)▸h1,λh=>⟨x,h,rfl⟩⟩
def ng(order:List Nat)(i:Bool×Nat):Bool:=!i.1||order.contains i.2
def GX(b c Ib ic:Nat)(order:List Nat)(ins:List (Bool×Nat))(w:ae)(hn:order.length<=100000)(hi:ins.length<=100000)(hb:b<w.heap.size)(hIb:Ib<w.heap.size)(ho:zP w b order)(hv:tx w Ib ins):
  Calls ax 191 #[.slice (so ⟨b,0,we⟩) order.length c,.slice (so ⟨Ib,0,we⟩) ins.length ic] w λe w'=>e=.returned (.bool (ins.all (ng order)))/\Below w.heap.size w w'/\w.heap.size<=w'.heap.size:=by
 go_enter func191,ntmps191;go_wp2;go_loopw [9] (λi w'=>∃k:Nat,k<=ins.length/\i=.int .i64 k/\Below w.heap.size w w'/\w.heap.size<=w'.heap.size/\(ins.take k).all (ng order)=true) (λi _=>ins.length-(intOf i).toNat)
 case atStart=>exact⟨0,aV _,rfl,Below.refl _ _,ah _,ar⟩
 case round =>
  obtain⟨k,hk,rfl,gx,hz,iJ⟩:=hrel;by_cases cx:k<ins.length
  ·have⟨h1,h2⟩:=hv.below hIb gx k cx;have ho2:=ho.below hb gx;have sD:=take_succ ins k cx;generalize hik:ins[k]=ik at *;obtain⟨io,inn⟩:=ik;cases io
   ·go_wp2;refine⟨⟨k+1,aa,by go_num,gx.alloc aa _,eP,?_⟩,by simp[intOf];omega⟩;rw[sD,List.all_append,iJ];simp[ng]
   ·have tQ:=yD b c order inn (wr.alloc (.cells #[.bool true,.int .i64 inn] 280)) hn (ho.below hb (gx.alloc aa _));have uk:ins.all (ng order)=true->order.contains inn=true:=λh=>by
     have:=aaA.1 h (true,inn) (by rw[<- hik];exact aG cx);simpa[ng] using this
    cases QB:order.contains inn
    ·rw[QB]at tQ;go_wp2_with (go_at_call 190;refine tQ.mono ?_;rintro e w' ⟨rfl,rfl⟩);go_ret;have:ins.all (ng order)=false:=by
      cases h:ins.all (ng order)
      ·rfl
      ·have:=uk h;rw[QB]at this;cases this
     rw[this];exact⟨rfl,gx.alloc aa _,eP⟩
    ·rw[QB]at tQ;go_wp2_with (go_at_call 190;refine tQ.mono ?_;rintro e w' ⟨rfl,rfl⟩);refine⟨⟨k+1,aa,by go_num,gx.alloc aa _,eP,?_⟩,by simp[intOf];omega⟩;rw[sD,List.all_append,iJ];simp[ng];simpa using QB
  ·go_wp2;go_ret;rw[bV aa]at iJ;rw[iJ];exact⟨rfl,gx,hz⟩
end
section
open Go.RowKit
def qt(ins:Nat->List (Bool×Nat))(ord:List Nat)(s:Nat):List Nat:=if ord.contains s=false/\(ins s).all (ng ord)=true then ord++[s] else ord
def nh(ins:Nat->List (Bool×Nat))(ord:List Nat)(k:Nat):List Nat:=(List.range k).foldl (qt ins) ord
def eF(ins:Nat->List (Bool×Nat))(n:Nat):Nat->List Nat
 |0=>[]
 |r+1=>nh ins (eF ins n r) n
def qu(ins:Nat->List (Bool×Nat))(ord:List Nat)(k:Nat):nh ins ord (k+1)=qt ins (nh ins ord k) k:=by
 simp[nh,List.range_succ]
def vy:∀(n:Nat) (l:List Nat),l.Nodup->(∀x∈l,x<n)->l.length<=n
 |0,l,_,h=>by
  cases l with
  |nil=>simp
  |cons x r=>exact absurd (h x ar) aa
 |n+1,l,hd,h=>by
  have h1:=vy n (l.erase n) (hd.erase n) (λx hx=>by
   have h2:=(hd.mem_erase_iff).1 hx;have:=h x h2.2;have:=h2.1;omega)
  have h2:=List.length_erase (a:=n) (l:=l);split at h2<;>omega
def oK(n:Nat)(ord:List Nat):Prop:=ord.Nodup/\∀x∈ord,x<n
def oK.step{n:Nat}{ord:List Nat}(h:oK n ord)(ins:Nat->List (Bool×Nat)){s:Nat}(hs:s<n):oK n (qt ins ord s):=by
 unfold qt;split
 ·rename_i hc;have hm:s∉ord:=λhm=>by have:=hc.1;rw[aan.2 hm]at this;cases this
  refine⟨?_,λx hx=>?_⟩
  ·rw[aaB];refine⟨h.1,ar,λa ha b hb=>?_⟩;simp at hb;subst hb;exact λe=>hm (e▸ha)
  ·simp at hx;rcases hx with hx|rfl
   ·exact h.2 x hx
   ·exact hs
 ·exact h
def oK.pass{n:Nat}{ord:List Nat}(h:oK n ord)(ins:Nat->List (Bool×Nat)):∀k,k<=n->oK n (nh ins ord k)
 |0,_=>by simpa[nh] using h
 |k+1,hk=>by rw[qu];exact(oK.pass h ins k aa).step ins aa
def oK.all(n:Nat)(ins:Nat->List (Bool×Nat)):∀r,oK n (eF ins n r)
 |0=>⟨by simp[eF],by simp[eF]⟩
 |r+1=>(oK.all n ins r).pass ins n (ah _)
def Ol:(ax.info? 3).map (λi=>(i.zero,i.size,i.bytes))=so (so (.int .i64 0),1,8):=ai
structure pO(w:ae)(St n:Nat)(out:Nat->af)(eO:Nat->Int)(ins:Nat->List (Bool×Nat))(cO:Nat->Nat):Prop where
 out:∀s,s<n->w.cell? ⟨St,s*3,we⟩=so (.string (out s))
 eO:∀s,s<n->w.cell? ⟨St,s*3+1,we⟩=so (.int .i64 (eO s))
 Bh:∀s,s<n->w.cell? ⟨St,s*3+2,we⟩=so (.slice (so ⟨cO s,0,we⟩) (ins s).length (ins s).length)
 C0:∀s,s<n->tx w (cO s) (ins s)
 lt:∀s,s<n->cO s<w.heap.size
 short:∀s,s<n->(ins s).length<=100000
def lj(w:ae)(B n:Nat)(ord:List Nat):Prop:=w.rowIs B 3 n λj=>.int .i64 ((ord.getD j 0:Nat):Int)
def lj.nums{w:ae}{B n:Nat}{ord:List Nat}(h:lj w B n ord)(hl:ord.length<=n):zP w B ord:=λj hj=>by
 rw[h.cell aa];simp[hj]
def Da(W:ae)(B n x:Nat)(ord:List Nat)(A:Nat)(h:lj W B n ord)(cx:ord.length<n)(ha:W.cell? ⟨A,0,we⟩=so (.int .i64 x)):
  (Builtin.append_ #[130,130] 130 #[.slice (so ⟨B,0,we⟩) ord.length n,.slice (so ⟨A,0,we⟩) 1 1]).run ax W=.ok (.slice (so ⟨B,0,we⟩) (ord.length+1) n) (W.setCell ⟨B,ord.length,we⟩ (.int .i64 x)):=by
 obtain⟨i,hi,pP⟩:=aaf.1 Ol;simp only[bB]at pP;have:=run_append_room_cells (P:=ax) W 130 130 3 i underlying130 hi B 0 ord.length n ⟨A,0,we⟩ 1 1 [.int .i64 x] (by simp[pP.2.1]) (λj u hj=>by
  cases j with
  |zero=>simp at hj;subst hj;simpa[Addr.add] using ha
  |succ j=>simp at hj) (by simp;rfl) aa (λj hj=>by
   simp at hj;subst hj;rw[pP.2.1];simp[h.cell cx]) (λj hj=>by
   simp at hj;subst hj;rw[pP.2.1];have:=h.frozen ord.length;simpa using this)
 rw[pP.2.1]at this;simpa[World.setCells] using this
def lj.put{w:ae}{B n:Nat}{ord:List Nat}(h:lj w B n ord)(cx:ord.length<n)(x:Nat):lj (w.setCell ⟨B,ord.length,we⟩ (.int .i64 x)) B n (ord++[x]):=by
 refine(World.rowIs.set h ord.length (.int .i64 x)).congr λj hj=>?_;by_cases e:j=ord.length
 ·subst e;simp
 ·rw[if_neg e];by_cases e':j<ord.length
  ·simp[List.getD,e',List.getElem?_append_left e']
  ·simp[List.getD,List.getElem?_eq_none (show ord.length<=j by omega),List.getElem?_eq_none (show(ord++[x]).length<=j by simp;omega)]
end
section
open Go.RowKit
def gp{P:Program}{w w':ae}{ops:Array Oper}{rest:List Oper}{o:Oper}{a:Act}{Q:Exit->Act->ae->Prop}{v xv v':Value}(hgd:o.guard=we)(s x:Operand)(t:TypeId)(ho:o.op=.call {callee:=.builtin .append,args:=#[s,x],argTypes:=#[t,t]})(hs:a.eval s=v)(hx:a.eval x=xv)(hr:(Builtin.append_ #[t,t] o.type #[v,xv]).run P w=.ok v' w')(h:wpList P ops Q rest (a.put o.dst v') w'):wpList P ops Q (o::rest) a w :=
 wpList_plain hgd λ_ hK=>by
  unfold Oper.wp execOp;simp only[ho,resolve,invoke,builtin,Sem.run_bind,Sem.run_pure,Result.andThen_ok,List.map_toArray,aC,aP,hs,hx,hr];exact hK _ _ h
def jQ(w:ae)(x:Obj):(w.alloc x).heap[w.heap.size]?=so x:=by
 show(w.heap.push x)[w.heap.size]?=_;simp
def sT(w:ae)(cs:Array Value)(t:TypeId)(j:Nat):(w.alloc (.cells cs t)).cell? ⟨w.heap.size,j,we⟩=cs[j]?:=by
 simp only[World.cell?];rw[jQ];rfl
def oK.room{n:Nat}{ord:List Nat}(h:oK n ord){s:Nat}(hs:s<n)(hc:ord.contains s=false):ord.length<n:=by
 have hm:s∉ord:=λhm=>by rw[aan.2 hm]at hc;cases hc
 have:=vy n (ord++[s]) (by
  rw[aaB];refine⟨h.1,ar,λa ha b hb=>?_⟩;simp at hb;subst hb;exact λe=>hm (e▸ha)) (λx hx=>by
  simp at hx;rcases hx with hx|rfl
  ·exact h.2 x hx
  ·exact hs)
 simp at this;omega
def JV(St n sc:Nat)(out:Nat->af)(eO:Nat->Int)(ins:Nat->List (Bool×Nat))(cO:Nat->Nat)(w:ae)(hn:n<=1000)(hSt:St<w.heap.size)(eH:pO w St n out eO ins cO):
  Calls ax 150 #[.slice (so ⟨St,0,we⟩) n sc] w λe w'=>e=.returned (.slice (so ⟨w.heap.size,0,we⟩) (eF ins n n).length n)/\Below w.heap.size w w'/\w.heap.size<w'.heap.size/\lj w' w.heap.size n (eF ins n n):=by
 have HO:=Go.run_make_room (P:=ax) 130 3 (.int .i64 0) 8 underlying130 Ol rfl .i64 .i64 n aa aa;go_enter func150,ntmps150;go_wp2;go_loopw [3,11] (λv i w'=>∃r:Nat,r<=n/\i=.int .i64 r/\v=.slice (so ⟨w.heap.size,0,we⟩) (eF ins n r).length n/\Below w.heap.size w w'/\w.heap.size<w'.heap.size/\lj w' w.heap.size n (eF ins n r)) (λv i _=>n-(intOf i).toNat)
 case atStart=>exact⟨0,aV _,rfl,rfl,(Below.refl _ _).alloc (ah _) _,ar,by simpa[lj,eF] using World.rowIs_made w _ _ _⟩
 case round =>
  obtain⟨r,hr,rfl,rfl,gx,hz,cp⟩:=hrel;by_cases cx:r<n
  ·go_wp2;go_loopw [3,15] (λv i w'=>∃k:Nat,k<=n/\i=.int .i64 k/\v=.slice (so ⟨w.heap.size,0,we⟩) (nh ins (eF ins n r) k).length n/\Below w.heap.size w w'/\w.heap.size<w'.heap.size/\lj w' w.heap.size n (nh ins (eF ins n r) k)) (λv i _=>n-(intOf i).toNat)
   case atStart=>exact⟨0,aV _,rfl,by simp[nh],gx,hz,by simpa[nh] using cp⟩
   case round =>
    clear gx hz cp;obtain⟨k,hk,rfl,rfl,gx,hz,cp⟩:=hrel;by_cases Fi:k<n
    ·have jl:oK n (nh ins (eF ins n r) k):=(oK.all n ins r).pass ins k hk;have yE:=qu ins (eF ins n r) k;have hle:=vy n _ jl.1 jl.2;generalize aen:nh ins (eF ins n r) k=ord at *;have c0:=(gx.cell (p:=⟨St,k*3,we⟩) hSt).trans (eH.out k Fi);have c1:=(gx.cell (p:=⟨St,k*3+1,we⟩) hSt).trans (eH.eO k Fi);have c2:=(gx.cell (p:=⟨St,k*3+2,we⟩) hSt).trans (eH.Bh k Fi);have Y1:ord.length<=100000:=aa;generalize hwa:wr.alloc (.cells #[.string (out k),.int .i64 (eO k),.slice (so ⟨cO k,0,we⟩) (ins k).length (ins k).length] 220)=wa;have ca:wa.cell? ⟨wr.heap.size,2,we⟩=so (.slice (so ⟨cO k,0,we⟩) (ins k).length (ins k).length):=by rw[<- hwa];exact sT _ _ _ 2
     have hba:Below w.heap.size w wa:=hwa▸gx.alloc aa _;have vP:wa.heap.size=wr.heap.size+1:=by rw[<- hwa];simp
     have K6:lj wa w.heap.size n ord:=hwa▸World.rowIs.alloc cp _;have tQ:=yD w.heap.size n ord k wa Y1 (K6.nums hle);have hia:tx wa (cO k) (ins k):=(eH.C0 k Fi).below (eH.lt k Fi) hba;have YQ:=eH.lt k Fi;have iJ:=GX w.heap.size n (cO k) (ins k).length ord (ins k) wa Y1 (eH.short k Fi) aa aa (K6.nums hle) hia;cases QB:ord.contains k
     ·rw[QB]at tQ;have hll:ord.length<n:=jl.room Fi QB;cases rU:(ins k).all (ng ord)
      ·rw[rU]at iJ;have Er:qt ins ord k=ord:=by simp only[qt];rw[if_neg];rw[rU];simp
       rw[Er]at yE;go_wp2_with (first|(go_at_call 190;(try rw[hwa]);refine tQ.mono ?_;rintro e w' ⟨rfl,rfl⟩)|(go_at_call 191;refine iJ.mono ?_;rintro e w2 ⟨rfl,pB,TZ⟩));exact⟨⟨k+1,aa,by go_num,by rw[yE],hba.trans (pB.mono aa),aa,by rw[yE];exact World.rowIs.of_block K6 (pB.block _ aa)⟩,by simp[intOf];omega⟩
      ·rw[rU]at iJ;have Er:qt ins ord k=ord++[k]:=by simp only[qt];rw[if_pos ⟨QB,rU⟩]
       rw[Er]at yE;have aiI:∀w2:ae,lj w2 w.heap.size n ord->(Builtin.append_ #[130,130] 130 #[.slice (so ⟨w.heap.size,0,we⟩) ord.length n,.slice (so ⟨w2.heap.size,0,we⟩) 1 1]).run ax (w2.alloc (.cells #[.int .i64 k] 3))=.ok (.slice (so ⟨w.heap.size,0,we⟩) (ord.length+1) n) ((w2.alloc (.cells #[.int .i64 k] 3)).setCell ⟨w.heap.size,ord.length,we⟩ (.int .i64 k)):=λw2 h2=>Da _ w.heap.size n k ord w2.heap.size (World.rowIs.alloc h2 _) hll (sT _ _ _ 0);go_wp2_with (first|(go_at_call 190;(try rw[hwa]);refine tQ.mono ?_;rintro e w' ⟨rfl,rfl⟩)|(go_at_call 191;refine iJ.mono ?_;rintro e w2 ⟨rfl,pB,TZ⟩;have GP:lj w2 w.heap.size n ord:=World.rowIs.of_block K6 (pB.block _ aa);have hap:=aiI w2 GP)|(at_builtin;refine gp rfl _ _ 130 rfl rfl rfl hap ?_));refine⟨⟨k+1,aa,by go_num,by rw[yE];simp,?_,by simp[World.setCell];omega,?_⟩,by simp[intOf];omega⟩
       ·exact((hba.trans (pB.mono aa)).alloc aa _).setCell (ah _) _
       ·rw[yE];exact lj.put (World.rowIs.alloc GP _) hll k
     ·rw[QB]at tQ;have Er:qt ins ord k=ord:=by simp only[qt];rw[if_neg];rw[QB];simp
      rw[Er]at yE;go_wp2_with (go_at_call 190;(try rw[hwa]);refine tQ.mono ?_;rintro e w' ⟨rfl,rfl⟩);exact⟨⟨k+1,aa,by go_num,by rw[yE],hba,aa,by rw[yE];exact K6⟩,by simp[intOf];omega⟩
    ·have e:k=n:=aa;subst e;go_wp2;exact⟨⟨r+1,aa,by go_num,rfl,gx,hz,cp⟩,by simp[intOf];omega⟩
  ·go_wp2;go_ret;have e:r=n:=aa;subst e;exact⟨rfl,gx,hz,cp⟩
end
section
open Go.RowKit
def nS(ins:Nat->List (Bool×Nat))(ord:List Nat):Prop:=∀i (h:i<ord.length),∀m,(true,m)∈ins ord[i]->∃k,∃hk:k<ord.length,k<i/\ord[k]=m
def Db(ins:Nat->List (Bool×Nat))(ord:List Nat)(s x:Nat)(h:x∈ord):x∈qt ins ord s:=by
 unfold qt;split
 ·simp[h]
 ·exact h
def Dc(ins:Nat->List (Bool×Nat))(ord:List Nat)(x:Nat)(h:x∈ord):∀k,x∈nh ins ord k
 |0=>by simpa[nh] using h
 |k+1=>by rw[qu];exact Db _ _ _ _ (Dc ins ord x h k)
def nS.step{ins:Nat->List (Bool×Nat)}{ord:List Nat}(h:nS ins ord)(s:Nat):nS ins (qt ins ord s):=by
 unfold qt;split
 ·rename_i hc;intro i hi m hm;have iJ:=hc.2;rw[aaA]at iJ;by_cases cx:i<ord.length
  ·rw[dI cx]at hm;have⟨k,hk,h1,h2⟩:=h i cx m hm;exact⟨k,eP,h1,by rw[dI hk];exact h2⟩
  ·have e:i=ord.length:=by simp at hi;omega
   subst e;simp at hm;have:=iJ _ hm;simp[ng]at this;have⟨k,hk,e⟩:=a8 this;exact⟨k,eP,hk,by rw[dI hk];exact e⟩
 ·exact h
def nS.pass{ins:Nat->List (Bool×Nat)}{ord:List Nat}(h:nS ins ord):∀k,nS ins (nh ins ord k)
 |0=>by simpa[nh] using h
 |k+1=>by rw[qu];exact(nS.pass h k).step k
def nS.all(ins:Nat->List (Bool×Nat))(n:Nat):∀r,nS ins (eF ins n r)
 |0=>λi h=>by simp[eF]at h
 |r+1=>(nS.all ins n r).pass n
def FI(ins:Nat->List (Bool×Nat))(ord:List Nat)(s:Nat)(h:∀m,(true,m)∈ins s->m∈ord):∀k,s<k->s∈nh ins ord k
 |0,hk=>aa
 |k+1,hk=>by
  rw[qu];by_cases e:s=k
  ·subst e;unfold qt;split
   ·simp
   ·rename_i hc;have iJ:(ins s).all (ng (nh ins ord s))=true:=by
     rw[aaA];rintro⟨b,m⟩ hm;cases b
     ·simp[ng]
     ·have:=Dc ins ord m (h m hm) s;simp[ng,this]
    cases Li:(nh ins ord s).contains s
    ·exact absurd ⟨Li,iJ⟩ hc
    ·simpa using Li
  ·exact Db _ _ _ _ (FI ins ord s h k aa)
def Dd(ins:Nat->List (Bool×Nat))(n:Nat)(rk:Nat->Nat)(VY:∀s,s<n->∀m,(true,m)∈ins s->m<n/\rk m<rk s):∀r s,s<n->rk s<r->s∈eF ins n r
 |0,s,_,h=>aa
 |r+1,s,hs,h=>by
  refine FI ins _ s (λm hm=>?_) n hs;have⟨h1,h2⟩:=VY s hs m hm;exact Dd ins n rk VY r m h1 aa
def Mz(n:Nat)(l:List Nat)(hd:l.Nodup)(hl:∀x∈l,x<n)(h:∀s,s<n->s∈l):l.length=n:=by
 have h1:=vy n l hd hl;have h2:∀k,k<=n->∀l:List Nat,l.Nodup->(∀s,s<k->s∈l)->k<=l.length:=by
  intro k
  induction k with
  |zero=>intro _ l _ _;exact aV _
  |succ k ih =>
   intro hk l hd h;have h3:=ih aa (l.erase k) (hd.erase k) (λs hs=>(hd.mem_erase_iff).2 ⟨aa,h s aa⟩);have h4:=List.length_erase (a:=k) (l:=l);rw[if_pos (h k aa)]at h4;have:0<l.length:=iv (h k aa);omega
 have:=h2 n (ah _) l hd h;omega
def T1(ins:Nat->List (Bool×Nat))(n:Nat)(rk:Nat->Nat)(hb:∀s,s<n->rk s<n)(VY:∀s,s<n->∀m,(true,m)∈ins s->m<n/\rk m<rk s):
  (eF ins n n).length=n/\oK n (eF ins n n)/\(∀s,s<n->s∈eF ins n n)/\nS ins (eF ins n n):=by
 have h1:=oK.all n ins n;have h2:∀s,s<n->s∈eF ins n n:=λs hs=>Dd ins n rk VY n s hs (hb s hs);exact⟨Mz n _ h1.1 h1.2 h2,h1,h2,nS.all ins n n⟩
end
end Go.Proofs.Kz
namespace Go.Proofs
open _root_.Option renaming some → so,none → we
section
open Go.Shelf
end
end Go.Proofs
namespace Go.Proofs.Kz
open Go.Proofs.Tryz
open Go.Proofs.Tryz renaming prog → ax
open _root_.ByteArray renaming empty → aR
open _root_.Option renaming some → so,none → we
open Go.Proofs
section
open Go.RowKit
def uG:∀a b:List UInt8,Op.bytesLess a b=decide (Lib.compareBytes a b<0)
 | [],[]=>by simp[Op.bytesLess,Lib.compareBytes]
 | [],_::_=>by simp[Op.bytesLess,Lib.compareBytes]
 |_::_,[]=>by simp[Op.bytesLess,Lib.compareBytes]
 |x::r,y::s=>by
  simp only[Op.bytesLess,Lib.compareBytes];by_cases h1:x<y
  ·simp[h1]
  ·by_cases h2:y<x
   ·have:x≠y:=λe=>by subst e;exact UInt8.lt_irrefl _ h2
    simp[h1,h2,this]
   ·have e:x=y:=im (aaz.1 h2) (aaz.1 h1);subst e;simp[h1,uG r s]
def GY(less:Nat->Bool)(n:Nat)(hm:∀i j,i<=j->j<n->less j=true->less i=true):∀f lo hi,lo<=hi->hi<=n->hi-lo<=f->(∀t,t<lo->less t=true)->(∀t,hi<=t->t<n->less t=false) ->
  lo<=Lib.bsGo less f lo hi/\Lib.bsGo less f lo hi<=hi/\(∀t,t<Lib.bsGo less f lo hi->less t=true)/\∀t,Lib.bsGo less f lo hi<=t->t<n->less t=false
 |0,lo,hi,h1,h2,h3,h4,h5=>by
  have e:lo=hi:=aa;subst e;exact⟨ah _,ah _,h4,h5⟩
 |f+1,lo,hi,h1,h2,h3,h4,h5=>by
  simp only[Lib.bsGo];by_cases cx:lo<hi
  ·rw[if_pos cx];cases hl:less ((lo+hi)/2)
   ·simp only[aQ,if_false];have⟨k1,k2,k3,k4⟩:=GY less n hm f lo ((lo+hi)/2) aa aa aa h4 (λt ht htn=>by
     cases hq:less t
     ·rfl
     ·have:=hm _ t ht htn hq;rw[hl]at this;cases this)
    exact⟨k1,aa,k3,k4⟩
   ·simp only[if_true];have⟨k1,k2,k3,k4⟩:=GY less n hm f ((lo+hi)/2+1) hi aa h2 aa (λt ht=>hm t _ aa aa hl) h5;exact⟨aa,k2,k3,k4⟩
  ·rw[if_neg cx];have e:lo=hi:=aa;subst e;exact⟨ah _,ah _,h4,h5⟩
def ni(xs:List af)(x:af):Nat:=Lib.bsGo (λt=>Op.bytesLess (xs.getD t aR).toList x.toList) xs.length 0 xs.length
def pQ(xs:List af)(x:af):Bool:=decide (ni xs x<xs.length/\xs.getD (ni xs x) aR=x)
def MA(b c:Nat)(p:Option Addr)(xs:List af)(x:af)(w:ae)(hn:xs.length<=100000)(hp:xs≠[]->p=so ⟨b,0,we⟩)(ht:eN w b 0 xs):
  Calls ax 77 #[.slice p xs.length c,.string x] w λe w'=>e=.returned (.tuple #[.int .i64 (ni xs x:Nat),.bool (pQ xs x)])/\∃q,w'=w.drewN q:=by
 by_cases h0:xs=[]
 ·subst h0;exact(Any2.slices_BinarySearch_string_empty Tryz.Jp p c x w).mono λe w' hq=>by
   obtain⟨rfl,rfl⟩:=hq;exact⟨by simp[ni,pQ,Lib.bsGo],0,rfl⟩
 ·obtain rfl:=hp h0;exact Any2.slices_BinarySearch_string Tryz.Jp b 0 xs.length c (λj=>xs.getD j aR) x w aa λj hj=>by
   rw[ht j hj];simp[hj]
def lO(xs:List af):Prop:=∀i j (hi:i<xs.length) (hj:j<xs.length),i<j->Lib.compareBytes xs[i].toList xs[j].toList<0
def yF(xs:List af)(hs:lO xs)(x:af):pQ xs x=true↔x∈xs:=by
 have NJ:∀i j,i<=j->j<xs.length->Op.bytesLess (xs.getD j aR).toList x.toList=true->Op.bytesLess (xs.getD i aR).toList x.toList=true:=by
  intro i j Fv hj hl;by_cases e:i=j
  ·subst e;exact hl
  ·rw[uG]at *;have hi:i<xs.length:=aa;have h1:=hs i j hi hj aa;simp only[List.getD_eq_getElem?_getD,bm hi,bm hj,bu,decide_eq_true_eq]at *;exact nR _ _ _ h1 hl
 have⟨k1,k2,k3,k4⟩:=GY _ xs.length NJ xs.length 0 xs.length (aV _) (ah _) aa (λt ht=>aa) (λt ht h=>aa);constructor
 ·intro h;simp only[pQ,decide_eq_true_eq]at h;obtain⟨h1,h2⟩:=h;rw[<- h2];simp[h1]
 ·intro hx;obtain⟨j,hj,rfl⟩:=a8 hx;have SU:Op.bytesLess (xs.getD j aR).toList xs[j].toList=false:=by
   rw[uG];simp[hj,pZ]
  have hle:ni xs xs[j]<=j:=de λcx=>by
   have:=k3 j cx;rw[SU]at this;cases this
  have PL:j<=ni xs xs[j]:=de λcx=>by
   have h1:=k4 (ni xs xs[j]) (ah _) aa;have hp:ni xs xs[j]<xs.length:=aa;have h2:=hs (ni xs xs[j]) j hp hj cx;rw[uG]at h1;simp only[List.getD_eq_getElem?_getD,bm hp,bu]at h1;simp at h1;omega
  have e:ni xs xs[j]=j:=aa;simp only[pQ,decide_eq_true_eq];rw[e];exact⟨hj,by simp[hj]⟩
end
section
open Go.RowKit
def Xp:(ax.info? 280).map (λi=>(i.zero,i.size,i.bytes))=so (so (.agg #[.bool false,.int .i64 0]),2,16):=ai
def GZ(w:ae)(n:Nat)(hn:n<=100000):(Instr.makeSlice 218 (.int .i64 (n:Int)) (.int .i64 (n:Int))).run ax w=.ok (.slice (so ⟨w.heap.size,0,we⟩) n n) (w.alloc (.cells (madeCells #[.bool false,.int .i64 0] (n*2)) 280)):=by
 obtain⟨i,hi,hz⟩:=aaf.1 Xp;simp only[bB]at hz;obtain⟨hz,hs,hb⟩:=hz;have:=run_make (P:=ax) w 218 280 i _ underlying218 hi hz .i64 .i64 n n aa (fK _) (by rw[hb];omega) aa;rw[this,hs];simp[Value.cells]
def kO(l:List (Bool×Nat))(j:Nat):Value:=if j%2=0 then .bool (l.getD (j/2) (false,0)).1 else .int .i64 ((l.getD (j/2) (false,0)).2:Nat)
def rq(outs sources:List af)(x:af):Bool×Nat:=(pQ outs x,if pQ outs x then ni outs x else ni sources x)
def uH(b c:Nat)(p:Option Addr)(xs:List af)(x:af)(w:ae)(hn:xs.length<=100000)(hp:xs≠[]->p=so ⟨b,0,we⟩)(ht:eN w b 0 xs):
  Calls ax 77 #[.slice p xs.length c,.string x] w λe w'=>e=.returned (.tuple #[.int .i64 (ni xs x:Nat),.bool (pQ xs x)])/\w'.heap=w.heap/\∀w0 B,Below B w0 w->Below B w0 w' :=
 (MA b c p xs x w hn hp ht).mono λe w' ⟨h1,q,h2⟩=>⟨h1,by rw[h2];rfl,λw0 B hb=>by rw[h2];exact⟨hb.os,hb.tape,hb.output,hb.size,hb.block⟩⟩
def mF{w w':ae}(h:w'.heap=w.heap)(a:Addr):w'.cell? a=w.cell? a:=by simp[World.cell?,h]
def uI{w w':ae}(h:w'.heap=w.heap)(a:Addr):w'.frozen? a=w.frozen? a:=by simp[World.frozen?,h]
def T9{w:ae}{B t n k:Nat}{lk:List (Bool×Nat)}{b:Bool}{m:Nat}(cp:w.rowIs B t (n*2) λj=>if j<k*2 then kO lk j else kO [] j)(hl:lk.getD k (false,0)=(b,m)):
  ((w.setCell ⟨B,k*2,we⟩ (.bool b)).setCell ⟨B,k*2+1,we⟩ (.int .i64 m)).rowIs B t (n*2) λj=>if j<(k+1)*2 then kO lk j else kO [] j:=by
 refine((cp.set (k*2) _).set (k*2+1) _).congr λj hj=>?_;by_cases e1:j=k*2+1
 ·subst e1;rw[if_pos rfl,if_pos aa];have h1:(k*2+1)%2=1:=aa;have h2:(k*2+1)/2=k:=aa;simp only[kO,h1,h2,hl];rfl
 ·by_cases e2:j=k*2
  ·subst e2;rw[if_neg e1,if_pos rfl,if_pos aa];have h1:(k*2)%2=0:=aa;have h2:(k*2)/2=k:=aa;simp only[kO,h1,h2,hl];rfl
  ·rw[if_neg e1,if_neg e2];by_cases e3:j<k*2
   ·rw[if_pos e3,if_pos aa]
   ·rw[if_neg e3,if_neg aa]
def MB(nb nc ob oc sb sc:Nat)(np sp:Option Addr)(names outs sources:List af)(w:ae)(h1:names.length<=100000)(h2:outs.length<=100000)(h3:sources.length<=100000)(vN:names≠[]->np=so ⟨nb,0,we⟩/\nb<w.heap.size)(vJ:sources≠[]->sp=so ⟨sb,0,we⟩/\sb<w.heap.size)(gd:ob<w.heap.size)(hn:eN w nb 0 names)(ho:eN w ob 0 outs)(hs:eN w sb 0 sources):
  Calls ax 149 #[.slice np names.length nc,.slice (so ⟨ob,0,we⟩) outs.length oc,.slice sp sources.length sc] w λe w'=>e=.returned (.slice (so ⟨w.heap.size,0,we⟩) names.length names.length)/\Below w.heap.size w w'/\w.heap.size<w'.heap.size /\
   w'.rowIs w.heap.size 280 (names.length*2) (kO (names.map (rq outs sources))):=by
 have HO:=λw=>GZ w names.length h1;go_enter func149,ntmps149;go_wp2;go_loopw [17] (λi w'=>∃k:Nat,k<=names.length/\i=.int .i64 k/\Below w.heap.size w w'/\w.heap.size<w'.heap.size/\w'.rowIs w.heap.size 280 (names.length*2) (λj=>if j<k*2 then kO (names.map (rq outs sources)) j else kO [] j)) (λi _=>names.length-(intOf i).toNat)
 case atStart =>
  refine⟨0,aV _,rfl,(Below.refl _ _).alloc (ah _) _,ar,_,jQ _ _,by simp[size_madeCells],λj hj=>?_⟩;simp only[madeCells,aL,Array.getElem?_range,hj,if_true,aJ];rcases fj j with e|e<;>simp[e,kO]
 case round =>
  obtain⟨k,hk,rfl,gx,hz,cp⟩:=hrel;by_cases cx:k<names.length
  ·obtain⟨rfl,Gv⟩:=vN (nlt cx);have c0:=hn.below Gv gx k cx;rw[bt]at c0;have WW:=uH ob oc (so ⟨ob,0,we⟩) outs names[k] wr h2 (λ_=>rfl) (ho.below gd gx);have hss:∀w2:ae,w2.heap=wr.heap->Calls ax 77 #[.slice sp sources.length sc,.string names[k]] w2 λe w'=>e=.returned (.tuple #[.int .i64 (ni sources names[k]:Nat),.bool (pQ sources names[k])])/\w'.heap=w2.heap/\∀w0 B,Below B w0 w2->Below B w0 w':=λw2 vh =>
    uH sb sc sp sources names[k] w2 h3 (λh=>(vJ h).1) (λj hj=>by
     have⟨_,YF⟩:=vJ (nlt hj);rw[mF vh];exact hs.below YF gx j hj)
   have d0:wr.cell? ⟨w.heap.size,k*2,we⟩=so (.bool false):=by rw[cp.cell aa,if_neg aa];simp[kO]
   have d1:wr.cell? ⟨w.heap.size,k*2+1,we⟩=so (.int .i64 0):=by rw[cp.cell aa,if_neg aa];simp[kO]
   have f0:∀j,wr.frozen? ⟨w.heap.size,j,we⟩=false:=λj=>cp.frozen j;have Om:(names.map (rq outs sources)).getD k (false,0)=rq outs sources names[k]:=by simp[cx]
   generalize hx:names[k]=x at *;have Pu:rq outs sources x=(pQ outs x,if pQ outs x then ni outs x else ni sources x):=rfl;clear hn ho hs vN;generalize pQ outs x=ho at *;generalize ni outs x=po at *;generalize ni sources x=ps at *;generalize pQ sources x=ts at *;generalize names.map (rq outs sources)=lk at *;generalize rq outs sources x=lx at *;cases ho
   ·go_wp2_with (first|(go_at_call 77;refine Cx.mono ?_;rintro e w3 ⟨rfl,RY,xB⟩;have g0:=(mF (RY.trans vh) _).trans d0;have g1:=(mF (RY.trans vh) _).trans d1;have g2:=λj=>(uI (RY.trans vh) _).trans (f0 j))|(go_at_call 77;refine WW.mono ?_;rintro e w2 ⟨rfl,vh,pB⟩;have Cx:=hss w2 vh));refine⟨⟨k+1,aa,by go_num,((xB _ _ (pB _ _ gx)).setCell (ah _) _).setCell (ah _) _,?_,?_⟩,by simp[intOf];omega⟩
    ·simp[World.setCell,RY,vh];exact hz
    ·exact T9 (cp.of_block (by rw[RY,vh])) (by rw[Om,Pu];rfl)
   ·go_wp2_with (go_at_call 77;refine WW.mono ?_;rintro e w2 ⟨rfl,vh,pB⟩;have g0:=(mF vh _).trans d0;have g1:=(mF vh _).trans d1;have g2:=λj=>(uI vh _).trans (f0 j));refine⟨⟨k+1,aa,by go_num,((pB _ _ gx).setCell (ah _) _).setCell (ah _) _,?_,?_⟩,by simp[intOf];omega⟩
    ·simp[World.setCell,vh];exact hz
    ·exact T9 (cp.of_block (by rw[vh])) (by rw[Om,Pu];rfl)
  ·go_wp2;go_ret;exact⟨rfl,gx,hz,cp.congr λi hi=>by rw[if_pos aa]⟩
end
section
open Go.RowKit
def tA(outs:List af)(l:List af):List af:=l.filter λx=>!Lib.containsS outs x
def lF(outs:List af)(nm:Nat->List af):Nat->List af
 |0=>[]
 |k+1=>lF outs nm k++tA outs (nm k)
def oM(outs:List af)(nm:Nat->List af)(n:Nat)(h:∀i,i<n->(nm i).length<=4):∀k,k<=n->(lF outs nm k).length<=4*k
 |0,_=>by simp[lF]
 |k+1,hk=>by
  have h1:=oM outs nm n h k aa;have h2:=h k aa;have h3:(tA outs (nm k)).length<=(nm k).length:=fi _ _;simp[lF];omega
def MC(outs:List af)(l:List af)(j:Nat)(h:j<l.length):tA outs (l.take (j+1))=tA outs (l.take j)++(if Lib.containsS outs l[j] then[] else[l[j]]):=by
 rw[take_succ l j h];simp only[tA,List.filter_append,List.filter_cons,List.filter_nil];cases Lib.containsS outs l[j]<;>simp
structure yG(w:ae)(b:Nat)(rs:List aI)(nm:Nat->List af)(nb:Nat->Nat):Prop where
 at_:eT w b rs
 len:∀i (h:i<rs.length),rs[i].sl=(nm i).length
 ptr:∀i (h:i<rs.length),nm i≠[]->rs[i].sa=so ⟨nb i,0,we⟩/\nb i<w.heap.size
 txt:∀i,i<rs.length->eN w (nb i) 0 (nm i)
 four:∀i,i<rs.length->(nm i).length<=4
def yH(b c:Nat)(xs:List af)(x:af)(w:ae)(hn:xs.length<=100000)(ht:eN w b 0 xs):
  Calls ax 80 #[.slice (so ⟨b,0,we⟩) xs.length c,.string x] w λe w'=>e=.returned (.bool (Lib.containsS xs x))/\w'=w:=by
 have:=Tryz.slices_Contains_string b 0 xs.length c xs x w (ah _) aa (λj hj=>by rw[ht j hj];simp[hj]);rw[cC]at this;exact this
def qw(W:ae)(lo:Nat)(v:Value)(xs:List af)(x:af)(A:Nat)(h:W.ownsRow lo 9 1 v xs.length (xs.map .string))(hn:xs.length<=100000)(zb:lo<=W.heap.size)(ha:W.cell? ⟨A,0,we⟩=so (.string x)):
  ∃v' W',(Builtin.append_ #[40,40] 40 #[v,.slice (so ⟨A,0,we⟩) 1 1]).run ax W=.ok v' W'/\W'.ownsRow lo 9 1 v' (xs++[x]).length ((xs++[x]).map .string)/\W.grownBy W' v.ownBlock:=by
 obtain⟨i,hi,pP⟩:=aaf.1 qq;simp only[bB]at pP;have⟨v',W',e1,e2,e3,_⟩:=run_append_own (P:=ax) W lo 40 40 9 i _ 1 16 underlying40 hi pP.1 pP.2.1 pP.2.2 rfl aa v xs.length (xs.map .string) h ⟨A,0,we⟩ 1 1 [.string x] rfl (λj u hj=>by
  cases j with
  |zero=>simp at hj;subst hj;simpa[Addr.add] using ha
  |succ j=>simp at hj) (by simp;rfl) (by simp[maxLen];omega) aa zb
 exact⟨v',W',e1,by simpa using e2,e3⟩
def zR{w:ae}{lo e sz n:Nat}{v:Value}{xs:List Value}(h:w.ownsRow lo e sz v n xs):∀k,v.ownBlock=so k->lo<=k:=λk hk=>by
 obtain⟨_,hc⟩:=h;rcases hc with⟨rfl,_⟩|⟨g,cap,cur,rfl,h1,_⟩
 ·cases hk
 ·cases hk;exact h1
end
section
open Go.RowKit
def p6{w:ae}{lo e sz n:Nat}{v:Value}{xs:List Value}(h:w.ownsRow lo e sz v n xs)(x:Obj):(w.alloc x).ownsRow lo e sz v n xs:=dC h λg hg TT=>by
 obtain⟨_,hc⟩:=h;rcases hc with⟨rfl,_⟩|⟨g',cap,cur,rfl,h5,h6,_⟩
 ·cases hg
 ·have e:g=g':=aT hg;subst e;exact Below.heap_alloc _ _ _ (aad.1 h6).1
def G0(b c ob oc:Nat)(p:Option Addr)(rs:List aI)(nm:Nat->List af)(nb:Nat->Nat)(outs:List af)(w:ae)(h1:rs.length<=1000)(h2:outs.length<=100000)(hp:rs≠[]->p=so ⟨b,0,we⟩/\b<w.heap.size)(gd:ob<w.heap.size)(hr:yG w b rs nm nb)(ho:eN w ob 0 outs){S C:ae->Value->ae->Prop}(RQ:∀W v,W.ownsRow w.heap.size 9 1 v (lF outs nm rs.length).length ((lF outs nm rs.length).map .string)->Calls ax 188 #[v] W λe w'=>e=.returned (.tuple #[])/\S W v w')(hco:∀W v W1,W.ownsRow w.heap.size 9 1 v (lF outs nm rs.length).length ((lF outs nm rs.length).map .string)->S W v W1->Calls ax 189 #[v] W1 λe w'=>∃v',e=.returned v'/\C W v' w'):
  Calls ax 148 #[.slice p rs.length c,.slice (so ⟨ob,0,we⟩) outs.length oc] w λe w'=>∃v' W,e=.returned v'/\Below w.heap.size w W/\w.heap.size<=W.heap.size/\C W v' w':=by
 go_enter func148,ntmps148;go_wp2;go_loopw [5,12] (λv i w'=>∃k:Nat,k<=rs.length/\i=.int .i64 k/\Below w.heap.size w w'/\w.heap.size<=w'.heap.size/\w'.ownsRow w.heap.size 9 1 v (lF outs nm k).length ((lF outs nm k).map .string)) (λv i _=>rs.length-(intOf i).toNat)
 case atStart=>exact⟨0,aV _,rfl,Below.refl _ _,ah _,by simp[lF],.inl ⟨rfl,rfl⟩⟩
 case round =>
  obtain⟨k,hk,rfl,gx,hz,cp⟩:=hrel;by_cases cx:k<rs.length
  ·obtain⟨rfl,hb⟩:=hp (nlt cx);have⟨c0,c1,c2⟩:=hr.at_.below hb gx k cx;have hlen:=hr.len k cx;have aeo:=hr.ptr k cx;have Jw:=hr.txt k cx;have h4:=hr.four k cx;have YX:=oM outs nm rs.length hr.four k hk;have EH:lF outs nm (k+1)=lF outs nm k++tA outs (nm k):=rfl;generalize lF outs nm k=raw at *;generalize hri:rs[k]=r at *;obtain⟨out,eO,sa,sl,sc⟩:=r;simp only at c0 c1 c2 hlen aeo;subst hlen;go_wp2;go_loopw [5,19] (λv i w'=>∃j:Nat,j<=(nm k).length/\i=.int .i64 j/\Below w.heap.size w w'/\w.heap.size<=w'.heap.size/\w'.ownsRow w.heap.size 9 1 v (raw++tA outs ((nm k).take j)).length ((raw++tA outs ((nm k).take j)).map .string)) (λv i _=>(nm k).length-(intOf i).toNat)
   case atStart=>exact⟨0,aV _,rfl,gx.alloc aa _,eP,by simpa[tA] using p6 cp _⟩
   case round =>
    clear gx hz cp;obtain⟨j,hj,rfl,gx,hz,cp⟩:=hrel;by_cases tK:j<(nm k).length
    ·obtain⟨rfl,Gv⟩:=aeo (nlt tK);have d0:=Jw.below Gv gx j tK;rw[bt]at d0;have tQ:=yH ob oc outs (nm k)[j] wr h2 (ho.below gd gx);have RZ:=MC outs (nm k) j tK;generalize hx:(nm k)[j]=x at *;have Bi:(tA outs ((nm k).take j)).length<=j:=aY (fi _ _) eP;cases QB:Lib.containsS outs x
     ·rw[QB]at tQ RZ;simp only[aQ,if_false]at RZ;have⟨v',W',e1,e2,e3⟩:=qw (wr.alloc (.cells #[.string x] 9)) w.heap.size _ _ x wr.heap.size (p6 cp _) eP eP (sT _ _ _ 0);have xB:=Below.grown (gx.alloc aa _) e3 eP (zR cp);go_wp2_with (first|(go_at_call 80;refine tQ.mono ?_;rintro e w' ⟨rfl,rfl⟩)|(at_builtin;refine gp rfl _ _ 40 rfl rfl rfl e1 ?_));exact⟨⟨j+1,aa,by go_num,xB,xB.size,by rw[RZ,<- List.append_assoc];exact e2⟩,by simp[intOf];omega⟩
     ·rw[QB]at tQ RZ;simp only[if_true,List.append_nil]at RZ;go_wp2_with (go_at_call 80;refine tQ.mono ?_;rintro e w' ⟨rfl,rfl⟩);exact⟨⟨j+1,aa,by go_num,gx,hz,by rw[RZ];exact cp⟩,by simp[intOf];omega⟩
    ·have e:j=(nm k).length:=aa;subst e;rw[cC]at cp;go_wp2;exact⟨⟨k+1,aa,by go_num,gx,hz,by rw[EH];exact cp⟩,by simp[intOf];omega⟩
  ·have e:k=rs.length:=aa;subst e;have hs:=RQ _ _ cp;go_wp2_with (first|(go_at_call 188;refine hs.mono ?_;rintro e w' ⟨rfl,hS⟩;have hc:=hco _ _ _ cp hS)|(go_at_call 189;refine hc.mono ?_;rintro e w2 ⟨v',rfl,hC⟩));go_ret;exact⟨v',wr,rfl,gx,hz,hC⟩
end
section
open Go.RowKit Go.Sort Go.Lib
def bytesOf(x:af):List UInt8:=x.data.toList
def ki(raw:List af):List (List UInt8):=(raw.map bytesOf).mergeSort λx y=>decide (x<=y)
def cZ(raw:List af):List af:=(Lib.compact (ki raw)).map λl=>⟨l.toArray⟩
def Ua(w:ae):Calls ax 188 #[.slice we 0 0] w λe w'=>e=.returned (.tuple #[])/\w'.heap=w.heap:=by
 have hl:=GU 0 w aa;have h2:∀W,Calls ax 225 #[.slice we 0 0,.int .i64 0,.int .i64 0] W λe w'=>e=.returned (.tuple #[])/\w'.heap=W.heap:=λW=>by
  go_enter func225,ntmps225;go_wp2;refine wp_loop_rounds 1 ?_;rw[rounds_succ];go_wp2
  go_end0
  exact⟨rfl,rfl⟩
 have h3:∀W lim,Calls ax 207 #[.slice we 0 0,.int .i64 0,.int .i64 0,.int .i64 lim] W λe w'=>e=.returned (.tuple #[])/\w'.heap=W.heap:=λW lim=>by
  go_enter func207,ntmps207;go_wp2;refine wp_loop_rounds 1 ?_;rw[rounds_succ];go_wp2_with (go_at_call 225;refine(h2 _).mono ?_;rintro e w' ⟨rfl,hw⟩)
  (try simp only[Exit.inBlock,Exit.then])
  refine bodyPost_ret (results_none ai _ _).1 rfl ?_;exact⟨rfl,hw⟩
 go_enter func188,ntmps188;go_wp2_with (first|(go_at_call 205;refine hl.mono ?_;rintro e w' ⟨⟨l,rfl⟩,rfl⟩)|(go_at_call 207;refine(h3 _ _).mono ?_;rintro e w' ⟨rfl,hw⟩))
 go_end0
 exact⟨rfl,hw⟩
def Ub(lo:Nat)(raw:List af)(W:ae)(v:Value)(W1:ae):Prop :=
 (v=.slice we 0 0/\raw=[]/\W1.heap=W.heap)\/∃g cap,v=.slice (so ⟨g,0,we⟩) raw.length cap/\raw.length<=cap/\lo<=g/\g<W.heap.size/\W.heap.size<=W1.heap.size/\(∀b,b<W.heap.size->b≠g->W1.heap[b]?=W.heap[b]?)/\Holds encStr W1 g 0 (ki raw).toArray
def sj(raw:List af):(ki raw).length=raw.length:=by simp[ki,List.length_mergeSort]
def Uc(lo:Nat)(raw:List af)(W:ae)(v:Value)(h:W.ownsRow lo 9 1 v raw.length (raw.map .string))(hn:raw.length<=100000):
  Calls ax 188 #[v] W λe w'=>e=.returned (.tuple #[])/\Ub lo raw W v w':=by
 obtain⟨_,hc⟩:=h;rcases hc with⟨rfl,h0⟩|⟨g,cap,cur,rfl,h1,h2,h3,h4,h5,h6⟩
 ·exact(Ua W).mono λe w' ⟨h1,h2⟩=>⟨h1,.inl ⟨rfl,aal.1 h0,h2⟩⟩
 ·have hg:g<W.heap.size:=(aad.1 h2).1;have hH:Holds encStr W g 0 (raw.map bytesOf).toArray:=λj hj=>by
   have sg:j<raw.length:=by simpa using hj
   rw[bt];refine⟨?_,by simp[World.frozen?,h2]⟩;have e:(raw.map Value.string)[j]?=cur[j]?:=by
    rw[<- h6,fD aa,Array.getElem?_toList]
   simp only[World.cell?,h2];simp only[Option.isSome_none,aQ,if_false];rw[<- e];simp[sg,encStr,bytesOf]
  have hs:=Tryz.slices_Sort_string g 0 cap (raw.map bytesOf) W hH hg eP;rw[bT]at hs;refine hs.mono λe w' hq=>?_;obtain⟨rfl,n,os,rfl⟩:=hq;have pB:g<(putRow encStr (Go.Sort.ahead W n) g 0 (ki raw).toArray).heap.size:=by simp[putRow,mapBlock,Go.Sort.ahead];exact hg
  refine⟨rfl,.inr ⟨g,cap,rfl,h3,h1,hg,?_,λb hb dE=>?_,?_⟩⟩
  ·simp[Go.Sort.grow,putRow,mapBlock,Go.Sort.ahead]
  ·rw[heap_grow_old _ _ (by simp[putRow,mapBlock,Go.Sort.ahead];exact hb)];simp only[putRow,mapBlock,Go.Sort.ahead];rw[aS,if_neg (λe=>dE e.symm)]
  ·exact holds_grow encStr _ os g 0 _ pB (holds_putRow encStr _ g 0 _ _ hH (by simp[List.length_mergeSort]))
end
section
open Go.RowKit Go.Sort Go.Lib
def aa1(lo:Nat)(raw:List af)(W:ae)(v:Value)(W1:ae):Prop :=
 (v=.slice we 0 0/\cZ raw=[]/\W1.heap=W.heap)\/∃g cap,v=.slice (so ⟨g,0,we⟩) (cZ raw).length cap/\(cZ raw).length<=cap/\lo<=g/\g<W.heap.size/\W.heap.size<=W1.heap.size/\(∀b,b<W.heap.size->b≠g->W1.heap[b]?=W.heap[b]?)/\eN W1 g 0 (cZ raw)
def De{α:Type}[Inhabited α][DecidableEq α](zs:List α):(Lib.compact zs).length<=zs.length:=by
 unfold Lib.compact Lib.compactUpTo;rw[bT];exact aY (fi _ _) ar
def JW(lo:Nat)(raw:List af)(W:ae)(v:Value)(W1:ae)(hn:raw.length<=100000)(hS:Ub lo raw W v W1):
  Calls ax 189 #[v] W1 λe w'=>∃v',e=.returned v'/\aa1 lo raw W v' w':=by
 rcases hS with⟨rfl,rfl,h0⟩|⟨g,cap,rfl,h1,h2,h3,h4,h5,h6⟩
 ·refine(Tryz.slices_Compact_string_empty we 0 W1).mono λe w' hq=>?_;obtain⟨rfl,rfl⟩:=hq;exact⟨_,rfl,.inl ⟨rfl,by simp[cZ,ki,Lib.compact,Lib.compactUpTo],h0⟩⟩
 ·have hc:=Tryz.slices_Compact_string g 0 cap (ki raw) W1 h6 (by rw[sj];omega) (by rw[sj];exact h1);rw[sj]at hc;refine hc.mono λe w' hq=>?_;obtain⟨rfl,q,rfl⟩:=hq;have hle:(Lib.compact (ki raw)).length<=raw.length:=by rw[<- sj raw];exact De _
  have hl:(cZ raw).length=(Lib.compact (ki raw)).length:=by simp[cZ]
  refine⟨_,rfl,.inr ⟨g,cap,by rw[hl],aa,h2,h3,?_,λb hb dE=>?_,λk hk=>?_⟩⟩
  ·simp[putRow,mapBlock,Go.Sort.ahead];exact h4
  ·simp only[putRow,mapBlock,Go.Sort.ahead];rw[aS,if_neg (λe=>dE e.symm)];exact h5 b hb dE
  ·have lD:k<(Lib.compact (ki raw)).length:=aa;have:=(holds_putRow encStr (Go.Sort.ahead W1 q) g 0 _ (Lib.compact (ki raw)++List.replicate (raw.length-(Lib.compact (ki raw)).length) []).toArray h6 (by simp[sj];omega) k eP).1;rw[this];rw[eL _ k eP];simp only[List.getElem_toArray];rw[dI lD];simp[cZ,encStr]
def EI(b c ob oc:Nat)(p:Option Addr)(rs:List aI)(nm:Nat->List af)(nb:Nat->Nat)(outs:List af)(w:ae)(h1:rs.length<=1000)(h2:outs.length<=100000)(hp:rs≠[]->p=so ⟨b,0,we⟩/\b<w.heap.size)(gd:ob<w.heap.size)(hr:yG w b rs nm nb)(ho:eN w ob 0 outs):
  Calls ax 148 #[.slice p rs.length c,.slice (so ⟨ob,0,we⟩) outs.length oc] w λe w'=>∃v' W,e=.returned v'/\Go.RowKit.Below w.heap.size w W/\w.heap.size<=W.heap.size/\aa1 w.heap.size (lF outs nm rs.length) W v' w':=by
 have hl:=oM outs nm rs.length hr.four rs.length (ah _);exact G0 b c ob oc p rs nm nb outs w h1 h2 hp gd hr ho (S:=Ub w.heap.size (lF outs nm rs.length)) (C:=aa1 w.heap.size (lF outs nm rs.length)) (λW v h=>Uc _ _ W v h aa) (λW v W1 _ hS=>JW _ _ W v W1 aa hS)
end
section
open Go.Lib
def aa2(a b:List UInt8):a<b↔compareBytes a b<0:=by
 have h1:=uG a b;rw[bytesLess_eq]at h1;exact decide_eq_decide.1 h1
def MD(a b:List UInt8):a<=b↔compareBytes a b<=0:=by
 have h:=si a b;rw[show a<=b↔¬b<a from da,aa2];omega
def G7(a b c:List UInt8)(h1:compareBytes a b<=0)(h2:compareBytes b c<=0):compareBytes a c<=0:=by
 rcases gQ h1 with h3|h3
 ·rcases gQ h2 with h4|h4
  ·exact Int.le_of_lt (nR a b c h3 h4)
  ·rw[<- sS b c h4];omega
 ·rw[sS a b h3];exact h2
def QC(a b c:List UInt8)(h1:compareBytes a b<=0)(h2:compareBytes b c<0):compareBytes a c<0:=by
 rcases gQ h1 with h3|h3
 ·exact nR a b c h3 h2
 ·rw[sS a b h3];exact h2
def G8(raw:List af):(ki raw).Pairwise λx y=>compareBytes x y<=0:=by
 have h:=List.pairwise_mergeSort (le:=λx y:List UInt8=>decide (x<=y)) (λa b c h1 h2=>by
  simp only[decide_eq_true_eq,MD]at *;exact G7 a b c h1 h2) (λa b=>by
  have:=si a b;simp only[Bool.or_eq_true,decide_eq_true_eq,MD];omega) (raw.map bytesOf)
 exact h.imp λh=>(MD _ _).1 (by simpa using h)
def uJ(d:Array (List UInt8))(hs:∀i j,i<j->j<d.size->compareBytes d[i]! d[j]!<=0):∀m,m<=d.size->(compactUpTo d m).Pairwise (λx y=>compareBytes x y<0)/\(∀x,x∈compactUpTo d m↔∃j,j<m/\x=d[j]!)
 |0,_=>by simp[compactUpTo]
 |m+1,hm=>by
  have⟨k1,k2⟩:=uJ d hs m aa;rw[compactUpTo_succ];cases hk:keeps d m
  ·simp only[keeps,decide_eq_false_iff_not,not_or]at hk;have e:d[m]! = d[m-1]!:=Classical.not_not.1 hk.2;simp only[aQ,if_false,List.append_nil];refine⟨k1,λx=>⟨λh=>?_,λ⟨j,hj,hx⟩=>?_⟩⟩
   ·obtain⟨j,hj,hx⟩:=(k2 x).1 h;exact⟨j,aa,hx⟩
   ·by_cases ej:j=m
    ·subst ej;rw[e]at hx;exact(k2 x).2 ⟨j-1,aa,hx⟩
    ·exact(k2 x).2 ⟨j,aa,hx⟩
  ·simp only[if_true];refine⟨?_,λx=>⟨λh=>?_,λ⟨j,hj,hx⟩=>?_⟩⟩
   ·rw[List.pairwise_append];refine⟨k1,ar,λx hx y hy=>?_⟩;simp at hy;subst hy;obtain⟨j,hj,rfl⟩:=(k2 x).1 hx;simp only[keeps,decide_eq_true_eq]at hk;have lD:d[m]!≠d[m-1]!:=hk.resolve_left aa;have h1:compareBytes d[m-1]! d[m]!<0:=by
     have:=hs (m-1) m aa aa;rcases gQ this with h|h
     ·exact h
     ·exact absurd (sS _ _ h).symm lD
    by_cases ej:j=m-1
    ·subst ej;exact h1
    ·exact QC _ _ _ (hs j (m-1) aa aa) h1
   ·rw[fN]at h;rcases h with h|h
    ·obtain⟨j,hj,hx⟩:=(k2 x).1 h;exact⟨j,aa,hx⟩
    ·simp at h;exact⟨m,aa,h⟩
   ·rw[fN];by_cases ej:j=m
    ·subst ej;exact .inr (by simp[hx])
    ·exact .inl ((k2 x).2 ⟨j,aa,hx⟩)
def oO(raw:List af):lO (cZ raw)/\∀x,x∈cZ raw↔x∈raw:=by
 have hs:=G8 raw;have⟨k1,k2⟩:=uJ (ki raw).toArray (λi j Fv hj=>by
  have sg:j<(ki raw).length:=by simpa using hj
  rw[eL _ i eP,eL _ j hj];exact aaj.1 hs i j aa sg Fv) (ki raw).length ar
 refine⟨λi j hi hj Fv=>?_,λx=>?_⟩
 ·have ml:i<(Lib.compact (ki raw)).length:=by simpa[cZ] using hi
  have sg:j<(Lib.compact (ki raw)).length:=by simpa[cZ] using hj
  have:=aaj.1 k1 i j ml sg Fv;simp only[cZ,List.getElem_map,ByteArray.toList_mk];exact this
 ·have hb:∀l:List UInt8,l∈Lib.compact (ki raw)↔l∈raw.map bytesOf:=λl=>by
   have h1:l∈Lib.compact (ki raw)↔l∈ki raw:=by
    rw[show Lib.compact (ki raw)=compactUpTo (ki raw).toArray (ki raw).length from rfl,k2];constructor
    ·rintro⟨j,hj,rfl⟩;rw[eL _ j (by simpa using hj)];simp
    ·intro h;obtain⟨j,hj,rfl⟩:=a8 h;exact⟨j,hj,by rw[eL _ j (by simpa using hj)];simp⟩
   rw[h1];simp[ki,List.mem_mergeSort]
  simp only[cZ,List.mem_map];constructor
  ·rintro⟨l,hl,rfl⟩;have:=(hb l).1 hl;rw[aag]at this;obtain⟨y,hy,rfl⟩:=this;exact hy
  ·intro hx;exact⟨bytesOf x,(hb _).2 (aag.2 ⟨x,hx,rfl⟩),rfl⟩
end
open Go.Ren Go.Conc Go.ConcN
section
variable {Fin:bL}{o:aM}{w:ae}
structure fT(o:aM)(w:ae)(v:Value)(o':aM)(w':ae):Prop where
 own:o'=grow o w w'
 aH:bO ax L0 o' w'
 size:w.heap.size<=w'.heap.size
 old:∀b,b<w.heap.size->w'.heap[b]?=w.heap[b]?
 cl:Cl ax L0 o' v
def On{P:Program}{L:Nat->Bool}{o:aM}{vs:Array Value}(h:∀x∈vs,Cl P L o x):∀g,(mI P L o).has g->vs.map (val g)=vs:=λg hg=>by
 apply jr;intro i;rw[aL];cases e:vs[i]? with
 |none=>rfl
 |some x=>rw[aJ,h x (fg e) g hg]
def ek{f:FuncId}{vs:Array Value}(hL:L0 f=true)(hF:bO ax L0 o w)(uo:∀x∈vs,Cl ax L0 o x){Q:ae->Value->ae->Prop}(hQ:∀wl AP v w1 w2,AP.heap=wl.heap->w2.heap=w1.heap->Q wl v w1->Q AP v w2)(hC:∀wl,wl.heap.size=w.heap.size->(∀b,o b->wl.heap[b]?=w.heap[b]?)->Calls ax f vs wl λe w'=>∃v,e=.returned v/\wl.heap.size<=w'.heap.size/\(∀b,b<wl.heap.size->w'.heap[b]?=wl.heap[b]?)/\Q wl v w'):
  bA ax (XB ax Fin 0) f vs o w λv o' w'=>fT o w v o' w'/\∃wl aX,wl.heap.size=w.heap.size/\aX.heap.size=w'.heap.size/\(∀b,w.heap.size<=b->b<w'.heap.size->w'.heap[b]?=aX.heap[b]?)/\Q wl v aX:=by
 refine sO bS hL hF (On uo) (R:=λwl v aX=>wl.heap.size<=aX.heap.size/\(∀b,b<wl.heap.size->aX.heap[b]?=wl.heap[b]?)/\Q wl v aX) (λwl v w1 τ d h=>⟨h.1,h.2.1,hQ wl wl v w1 (WT w1 τ d) rfl rfl h.2.2⟩) (λwl τ d v w' h=>⟨h.1,h.2.1,hQ (WT wl τ d) wl v w' w' rfl rfl h.2.2⟩) (λwl hz aW=>hC wl hz aW) ?_;rintro wl v aX w' hz aW ⟨h1,h2,h3⟩ B;refine⟨⟨rfl,B.aH,B.iS,λb hb=>?_,B.val⟩,wl,aX,hz,B.size.symm,λb hb nz=>B.same b (.inr ⟨hb,nz⟩),h3⟩;by_cases ho:o b
 ·rw[B.same b (.inl ho),h2 b aa,aW b ho]
 ·exact B.rest b hb ho
def gR{w w':ae}{b:Nat}{rs:List aI}(h:eT w b rs)(e:w'.heap[b]?=w.heap[b]?):eT w' b rs:=λi hi=>by
 have⟨c0,c1,c2⟩:=h i hi;exact⟨(cell_of e).trans c0,(cell_of e).trans c1,(cell_of e).trans c2⟩
def cD{w w':ae}{b off:Nat}{ts:List af}(h:eN w b off ts)(e:w'.heap[b]?=w.heap[b]?):eN w' b off ts:=λi hi=>(cell_of e).trans (h i hi)
def Ud(hF:bO ax L0 o w)(b c:Nat)(p:Option Addr)(rs:List aI)(hn:rs.length<=100000)(hp:rs≠[]->p=so ⟨b,0,we⟩/\o b)(hv:eT w b rs)(hc:Cl ax L0 o (.slice p rs.length c)):
  bA ax (XB ax Fin 0) 147 #[.slice p rs.length c] o w λv o' w'=>fT o w v o' w'/\v=.slice (so ⟨w.heap.size,0,we⟩) rs.length rs.length/\w.heap.size<w'.heap.size/\eN w' w.heap.size 0 (rs.map (·.out)):=by
 have fw:∀x∈#[Value.slice p rs.length c],Cl ax L0 o x:=λx hx=>by
  simp at hx;subst hx;exact hc
 refine bA.mono (ek ai hF fw (Q:=λwl v w'=>v=.slice (so ⟨wl.heap.size,0,we⟩) rs.length rs.length/\wl.heap.size<w'.heap.size/\w'.rowIs wl.heap.size 9 rs.length (λj=>.string ((rs.map (·.out)).getD j aR))) (λwl AP v w1 w2 e1 e2 h=>?_) (λwl hz aW=>?_)) (λv o' w' hq=>?_)
 ·rw[e1,e2];exact⟨h.1,h.2.1,h.2.2.of_block (by rw[e2])⟩
 ·refine(My b c p rs wl hn (λh=>⟨(hp h).1,by rw[hz];exact hF.lt (hp h).2⟩) ?_).mono λe w' hq=>?_
  ·intro i hi;exact gR hv (aW b (hp (nlt hi)).2) i hi
  ·obtain⟨rfl,h1,h2,h3⟩:=hq;exact⟨_,rfl,h1.size,λb hb=>h1.block b hb,rfl,h2,h3⟩
 ·obtain⟨hN,wl,aX,z1,z2,hs,rfl,h2,h3⟩:=hq;rw[z1]at h2 h3 hN |-;refine⟨hN,rfl,aa,λk hk=>?_⟩;have lD:k<rs.length:=by simpa using hk
  have:=(h3.of_block (hs _ (ah _) aa)).cell lD;rw[bt,this];simp[lD]
def jA{w w':ae}{St n:Nat}{out:Nat->af}{eO:Nat->Int}{ins:Nat->List (Bool×Nat)}{cO:Nat->Nat}(h:pO w St n out eO ins cO)(e:w'.heap[St]?=w.heap[St]?)(ei:∀s,s<n->w'.heap[cO s]?=w.heap[cO s]?)(hz:w.heap.size<=w'.heap.size):pO w' St n out eO ins cO where
 out s hs:=(cell_of e).trans (h.out s hs)
 eO s hs:=(cell_of e).trans (h.eO s hs)
 Bh s hs:=(cell_of e).trans (h.Bh s hs)
 C0 s hs j hj:=⟨(cell_of (ei s hs)).trans (h.C0 s hs j hj).1,(cell_of (ei s hs)).trans (h.C0 s hs j hj).2⟩
 lt s hs:=bz (h.lt s hs) hz
 short:=h.short
def QD(hF:bO ax L0 o w)(St n sc:Nat)(out:Nat->af)(eO:Nat->Int)(ins:Nat->List (Bool×Nat))(cO:Nat->Nat)(hn:n<=1000)(hSt:o St)(eH:pO w St n out eO ins cO)(hio:∀s,s<n->o (cO s)):
  bA ax (XB ax Fin 0) 150 #[.slice (so ⟨St,0,we⟩) n sc] o w λv o' w'=>fT o w v o' w'/\v=.slice (so ⟨w.heap.size,0,we⟩) (eF ins n n).length n/\w.heap.size<w'.heap.size/\lj w' w.heap.size n (eF ins n n):=by
 have fw:∀x∈#[Value.slice (so ⟨St,0,we⟩) n sc],Cl ax L0 o x:=λx hx=>by
  simp at hx;subst hx;exact dW hSt
 refine bA.mono (ek ai hF fw (Q:=λwl v w'=>v=.slice (so ⟨wl.heap.size,0,we⟩) (eF ins n n).length n/\wl.heap.size<w'.heap.size/\lj w' wl.heap.size n (eF ins n n)) (λwl AP v w1 w2 e1 e2 h=>?_) (λwl hz aW=>?_)) (λv o' w' hq=>?_)
 ·rw[e1,e2];exact⟨h.1,h.2.1,World.rowIs.of_block h.2.2 (by rw[e2])⟩
 ·refine(JV St n sc out eO ins cO wl hn (by rw[hz];exact hF.lt hSt) (jA eH (aW St hSt) (λs hs=>aW _ (hio s hs)) aa)).mono λe w' hq=>?_;obtain⟨rfl,h1,h2,h3⟩:=hq;exact⟨_,rfl,h1.size,λb hb=>h1.block b hb,rfl,h2,h3⟩
 ·obtain⟨hN,wl,aX,z1,z2,hs,rfl,h2,h3⟩:=hq;rw[z1]at h2 h3 hN |-;exact⟨hN,rfl,aa,World.rowIs.of_block h3 (hs _ (ah _) aa)⟩
def Ue(hF:bO ax L0 o w)(nb nc ob oc sb sc:Nat)(np sp:Option Addr)(names outs sources:List af)(h1:names.length<=100000)(h2:outs.length<=100000)(h3:sources.length<=100000)(vN:names≠[]->np=so ⟨nb,0,we⟩/\o nb)(vJ:sources≠[]->sp=so ⟨sb,0,we⟩/\o sb)(gd:o ob)(hn:eN w nb 0 names)(ho:eN w ob 0 outs)(hs:eN w sb 0 sources)(Wu:Cl ax L0 o (.slice np names.length nc))(Yv:Cl ax L0 o (.slice sp sources.length sc)):
  bA ax (XB ax Fin 0) 149 #[.slice np names.length nc,.slice (so ⟨ob,0,we⟩) outs.length oc,.slice sp sources.length sc] o w λv o' w'=>fT o w v o' w'/\v=.slice (so ⟨w.heap.size,0,we⟩) names.length names.length/\w.heap.size<w'.heap.size /\
   w'.rowIs w.heap.size 280 (names.length*2) (kO (names.map (rq outs sources))):=by
 have fw:∀x∈#[Value.slice np names.length nc,.slice (so ⟨ob,0,we⟩) outs.length oc,.slice sp sources.length sc],Cl ax L0 o x:=λx hx=>by
  simp at hx;rcases hx with rfl|rfl|rfl
  ·exact Wu
  ·exact dW gd
  ·exact Yv
 refine bA.mono (ek ai hF fw (Q:=λwl v w'=>v=.slice (so ⟨wl.heap.size,0,we⟩) names.length names.length/\wl.heap.size<w'.heap.size/\w'.rowIs wl.heap.size 280 (names.length*2) (kO (names.map (rq outs sources)))) (λwl AP v w1 w2 e1 e2 h=>?_) (λwl hz aW=>?_)) (λv o' w' hq=>?_)
 ·rw[e1,e2];exact⟨h.1,h.2.1,World.rowIs.of_block h.2.2 (by rw[e2])⟩
 ·refine(MB nb nc ob oc sb sc np sp names outs sources wl h1 h2 h3 (λh=>⟨(vN h).1,by rw[hz];exact hF.lt (vN h).2⟩) (λh=>⟨(vJ h).1,by rw[hz];exact hF.lt (vJ h).2⟩) (by rw[hz];exact hF.lt gd) ?_ (cD ho (aW _ gd)) ?_).mono λe w' hq=>?_
  ·intro i hi;exact cD hn (aW nb (vN (nlt hi)).2) i hi
  ·intro i hi;exact cD hs (aW sb (vJ (nlt hi)).2) i hi
  obtain⟨rfl,h1,h2,h3⟩:=hq;exact⟨_,rfl,h1.size,λb hb=>h1.block b hb,rfl,h2,h3⟩
 ·obtain⟨hN,wl,aX,z1,z2,hs,rfl,h2,h3⟩:=hq;rw[z1]at h2 h3 hN |-;exact⟨hN,rfl,aa,World.rowIs.of_block h3 (hs _ (ah _) aa)⟩
end
def ME(v:Value)(p:Option Addr)(n c:Nat)(w:ae):Calls ax 145 #[.slice p n c] w λe w'=>e=.returned (.func (.func 186) #[] #[.pointer (so ⟨w.heap.size,0,we⟩)])/\w'=w.alloc (.cells #[.slice p n c] 35):=by
 go_enter func145,ntmps145;go_wp2;go_ret;exact⟨rfl,rfl⟩
section
variable {Fin:bL}{o:aM}{w:ae}
def Uf(hF:bO ax L0 o w)(p:Option Addr)(n c:Nat)(hc:Cl ax L0 o (.slice p n c)):
  bA ax (XB ax Fin 0) 145 #[.slice p n c] o w λv o' w'=>fT o w v o' w'/\v=.func (.func 186) #[] #[.pointer (so ⟨w.heap.size,0,we⟩)]/\w.heap.size<w'.heap.size/\w'.heap[w.heap.size]?=so (.cells #[.slice p n c] 35):=by
 have fw:∀x∈#[Value.slice p n c],Cl ax L0 o x:=λx hx=>by
  simp at hx;subst hx;exact hc
 refine bA.mono (ek ai hF fw (Q:=λwl v w'=>v=.func (.func 186) #[] #[.pointer (so ⟨wl.heap.size,0,we⟩)]/\wl.heap.size<w'.heap.size/\w'.heap[wl.heap.size]?=so (.cells #[.slice p n c] 35)) (λwl AP v w1 w2 e1 e2 h=>?_) (λwl hz aW=>?_)) (λv o' w' hq=>?_)
 ·rw[e1,e2];exact h
 ·refine(ME undef p n c wl).mono λe w' hq=>?_;obtain⟨rfl,rfl⟩:=hq;exact⟨_,rfl,ar,λb hb=>Go.RowKit.Below.heap_alloc _ _ b hb,rfl,ar,jQ _ _⟩
 ·obtain⟨hN,wl,aX,z1,z2,hs,rfl,h2,h3⟩:=hq;rw[z1]at h2 h3 hN |-;exact⟨hN,rfl,aa,(hs _ (ah _) aa).trans h3⟩
def gY(lo:Nat)(ts:List af)(v:Value)(w':ae):Prop:=(v=.slice we 0 0/\ts=[])\/∃g cap,v=.slice (so ⟨g,0,we⟩) ts.length cap/\ts.length<=cap/\lo<=g/\g<w'.heap.size/\eN w' g 0 ts
def JX(hF:bO ax L0 o w)(b c ob oc:Nat)(p:Option Addr)(rs:List aI)(nm:Nat->List af)(nb:Nat->Nat)(outs:List af)(h1:rs.length<=1000)(h2:outs.length<=100000)(hp:rs≠[]->p=so ⟨b,0,we⟩/\o b)(gd:o ob)(hr:yG w b rs nm nb)(Ha:∀i,i<rs.length->nm i≠[]->o (nb i))(ho:eN w ob 0 outs)(hc:Cl ax L0 o (.slice p rs.length c)):
  bA ax (XB ax Fin 0) 148 #[.slice p rs.length c,.slice (so ⟨ob,0,we⟩) outs.length oc] o w λv o' w'=>fT o w v o' w'/\gY w.heap.size (cZ (lF outs nm rs.length)) v w':=by
 have fw:∀x∈#[Value.slice p rs.length c,.slice (so ⟨ob,0,we⟩) outs.length oc],Cl ax L0 o x:=λx hx=>by
  simp at hx;rcases hx with rfl|rfl
  ·exact hc
  ·exact dW gd
 refine bA.mono (ek ai hF fw (Q:=λwl v w'=>gY wl.heap.size (cZ (lF outs nm rs.length)) v w') (λwl AP v w1 w2 e1 e2 h=>?_) (λwl hz aW=>?_)) (λv o' w' hq=>?_)
 ·rcases h with h|⟨g,cap,k1,k2,k3,k4,k5⟩
  ·exact .inl h
  ·exact .inr ⟨g,cap,k1,k2,by rw[e1];exact k3,by rw[e2];exact k4,cD k5 (by rw[e2])⟩
 ·have VP:yG wl b rs nm nb:=by
   refine⟨λi hi=>gR hr.at_ (aW b (hp (nlt hi)).2) i hi,hr.len,λi hi dE=>⟨(hr.ptr i hi dE).1,by rw[hz];exact(hr.ptr i hi dE).2⟩,λi hi j hj=>?_,hr.four⟩;exact cD (hr.txt i hi) (aW _ (Ha i hi (nlt hj))) j hj
  refine(EI b c ob oc p rs nm nb outs wl h1 h2 (λh=>⟨(hp h).1,by rw[hz];exact hF.lt (hp h).2⟩) (by rw[hz];exact hF.lt gd) VP (cD ho (aW _ gd))).mono λe w' hq=>?_;obtain⟨v',W,rfl,hB,hW,hC⟩:=hq;rcases hC with⟨rfl,k1,k2⟩|⟨g,cap,k1,k2,k3,k4,k5,k6,k7⟩
  ·exact⟨_,rfl,by rw[k2];exact hW,λb hb=>by rw[k2];exact hB.block b hb,.inl ⟨rfl,k1⟩⟩
  ·exact⟨_,rfl,aa,λb hb=>(k6 b aa aa).trans (hB.block b hb),.inr ⟨g,cap,k1,k2,k3,aa,k7⟩⟩
 ·obtain⟨hN,wl,aX,z1,z2,hs,hq⟩:=hq;refine⟨hN,?_⟩;rw[z1]at hq;rcases hq with h|⟨g,cap,k1,k2,k3,k4,k5⟩
  ·exact .inl h
  ·exact .inr ⟨g,cap,k1,k2,k3,aa,cD k5 (hs g k3 aa)⟩
end
section
open Go.RowKit
def JY:(ax.info? 65).map (λi=>(i.zero,i.size,i.bytes))=so (so (.agg #[.string aR,.string aR,.bool false]),3,40):=ai
def zS(w:ae)(n:Nat)(hn:n<=100000):(Instr.makeSlice 46 (.int .i64 (n:Int)) (.int .i64 (n:Int))).run ax w=.ok (.slice (so ⟨w.heap.size,0,we⟩) n n) (w.alloc (.cells (madeCells #[.string aR,.string aR,.bool false] (n*3)) 65)):=by
 obtain⟨i,hi,hz⟩:=aaf.1 JY;simp only[bB]at hz;obtain⟨hz,hs,hb⟩:=hz;have:=run_make (P:=ax) w 46 65 i _ underlying46 hi hz .i64 .i64 n n aa (fK _) (by rw[hb];omega) aa;rw[this,hs];simp[Value.cells]
def gS(out:Nat->af)(res:Nat->V)(k j:Nat):Value :=
 if j<k*3 then(if j%3=0 then .string (out (j/3))else if j%3=1 then .string (res (j/3)).2 else .bool (!(res (j/3)).1))
 else(if j%3=0 then .string aR else if j%3=1 then .string aR else .bool false)
def Xq{w:ae}{B t n k:Nat}{out:Nat->af}{res:Nat->V}(h:w.rowIs B t (n*3) (gS out res k)):
  (((w.setCell ⟨B,k*3,we⟩ (.string (out k))).setCell ⟨B,k*3+1,we⟩ (.string (res k).2)).setCell ⟨B,k*3+2,we⟩ (.bool (!(res k).1))).rowIs B t (n*3) (gS out res (k+1)):=by
 refine(((h.set (k*3) _).set (k*3+1) _).set (k*3+2) _).congr λj hj=>?_;by_cases e2:j=k*3+2
 ·subst e2;have h1:(k*3+2)%3=2:=aa;have h2:(k*3+2)/3=k:=aa;simp[gS,h1,h2,show k*3+2<(k+1)*3 by omega]
 ·by_cases e1:j=k*3+1
  ·subst e1;have h1:(k*3+1)%3=1:=aa;have h2:(k*3+1)/3=k:=aa;simp[gS,h1,h2,show k*3+1<(k+1)*3 by omega]
  ·by_cases e0:j=k*3
   ·subst e0;have h1:(k*3)%3=0:=aa;have h2:(k*3)/3=k:=aa;simp[gS,h1,h2,show k*3<(k+1)*3 by omega]
   ·rw[if_neg e2,if_neg e1,if_neg e0];by_cases e3:j<k*3
    ·simp only[gS,if_pos e3,if_pos (show j<(k+1)*3 by omega)]
    ·simp only[gS,if_neg e3,if_neg (show ¬j<(k+1)*3 by omega)]
structure pR(w:ae)(bn Lb Lo St Rb Nb n:Nat)(out:Nat->af)(eO:Nat->Int)(ins:Nat->List (Bool×Nat))(cO:Nat->Nat)(res:Nat->V)(gD:Nat->Bool):Prop where
 b0:w.cell? ⟨bn,0,we⟩=so (.pointer (so ⟨Lb,Lo,we⟩))
 b2:w.cell? ⟨bn,2,we⟩=so (.slice (so ⟨Rb,0,we⟩) n n)
 b3:w.cell? ⟨bn,3,we⟩=so (.slice (so ⟨Nb,0,we⟩) n n)
 st:w.cell? ⟨Lb,Lo,we⟩=so (.slice (so ⟨St,0,we⟩) n n)
 steps:pO w St n out eO ins cO
 r2:∀s,s<n->w.cell? ⟨Rb,s*4+2,we⟩=so (.bool (res s).1)
 r3:∀s,s<n->w.cell? ⟨Rb,s*4+3,we⟩=so (.string (res s).2)
 gD:∀s,s<n->w.cell? ⟨Nb,s,we⟩=so (.bool (gD s))
 lbn:bn<w.heap.size
 lLb:Lb<w.heap.size
 lSt:St<w.heap.size
 lRb:Rb<w.heap.size
 lNb:Nb<w.heap.size
def JZ(bn Lb Lo St Rb Nb n:Nat)(out:Nat->af)(eO:Nat->Int)(ins:Nat->List (Bool×Nat))(cO:Nat->Nat)(res:Nat->V)(gD:Nat->Bool)(w:ae)(hn:n<=1000)(h:pR w bn Lb Lo St Rb Nb n out eO ins cO res gD):
  Calls ax 75 #[.pointer (so ⟨bn,0,we⟩)] w λe w'=>e=.returned (.slice (so ⟨w.heap.size,0,we⟩) n n)/\Below w.heap.size w w'/\w.heap.size<w'.heap.size/\w'.rowIs w.heap.size 65 (n*3) (gS out res n):=by
 have HO:=λw=>zS w n aa;obtain⟨b0,b2,b3,st,eH,r2,r3,rr,l1,l2,l3,l4,l5⟩:=h;have cA:∀(w':ae),Below w.heap.size w w'->∀b off,b<w.heap.size->w'.cell? ⟨b,off,we⟩=w.cell? ⟨b,off,we⟩:=λw' hb b off hl=>(wv hb).1 _ _ hl;have a0:∀x,(w.alloc x).cell? ⟨bn,0,we⟩=so (.pointer (so ⟨Lb,Lo,we⟩)):=λx=>by rw[cA _ ((Below.refl _ _).alloc (ah _) _) _ _ l1];exact b0
 have a1:∀x,(w.alloc x).cell? ⟨Lb,Lo,we⟩=so (.slice (so ⟨St,0,we⟩) n n):=λx=>by rw[cA _ ((Below.refl _ _).alloc (ah _) _) _ _ l2];exact st
 go_enter func75,ntmps75;go_wp2;go_loopw [24] (λi w'=>∃k:Nat,k<=n/\i=.int .i64 k/\Below w.heap.size w w'/\w.heap.size<w'.heap.size/\w'.rowIs w.heap.size 65 (n*3) (gS out res k)) (λi _=>n-(intOf i).toNat)
 case atStart =>
  refine⟨0,aV _,rfl,(Below.refl _ _).alloc (ah _) _,ar,_,jQ _ _,by simp[size_madeCells],λj hj=>?_⟩;simp only[madeCells,aL,Array.getElem?_range,hj,if_true,aJ,gS,Nat.zero_mul,Nat.not_lt_zero,if_false];have hm:j%3=0\/j%3=1\/j%3=2:=aa;rcases hm with e|e|e<;>simp[e]
 case round =>
  obtain⟨k,hk,rfl,gx,hz,cp⟩:=hrel;by_cases cx:k<n
  ·have c0:=(cA _ gx St (k*3) l3).trans (eH.out k cx);have c1:=(cA _ gx St (k*3+1) l3).trans (eH.eO k cx);have c2:=(cA _ gx St (k*3+2) l3).trans (eH.Bh k cx);have c3:=(cA _ gx bn 2 l1).trans b2;have c4:=(cA _ gx Rb (k*4+2) l4).trans (r2 k cx);have c5:=(cA _ gx Rb (k*4+3) l4).trans (r3 k cx);have d0:wr.cell? ⟨w.heap.size,k*3,we⟩=so (.string aR):=by rw[cp.cell aa];simp[gS]
   have d1:wr.cell? ⟨w.heap.size,k*3+1,we⟩=so (.string aR):=by
    have h1:(k*3+1)%3=1:=aa;rw[cp.cell aa];simp[gS,h1,show ¬k*3+1<k*3 by omega]
   have d2:wr.cell? ⟨w.heap.size,k*3+2,we⟩=so (.bool false):=by
    have h1:(k*3+2)%3=2:=aa;rw[cp.cell aa];simp[gS,h1,show ¬k*3+2<k*3 by omega]
   have f0:=cp.frozen;have g1:bn<wr.heap.size:=aa;have g4:Rb<wr.heap.size:=aa;have p3:∀x y,((wr.alloc x).alloc y).cell? ⟨bn,2,we⟩=so (.slice (so ⟨Rb,0,we⟩) n n):=λx y=>by rw[cA _ ((gx.alloc aa _).alloc eP _) _ _ l1];exact b2
   have q3:∀x,(wr.alloc x).cell? ⟨bn,2,we⟩=so (.slice (so ⟨Rb,0,we⟩) n n):=λx=>by rw[cA _ (gx.alloc aa _) _ _ l1];exact b2
   have q4:∀x,(wr.alloc x).cell? ⟨Rb,k*4+2,we⟩=so (.bool (res k).1):=λx=>by rw[cA _ (gx.alloc aa _) _ _ l4];exact r2 k cx
   have q5:∀x,(wr.alloc x).cell? ⟨Rb,k*4+3,we⟩=so (.string (res k).2):=λx=>by rw[cA _ (gx.alloc aa _) _ _ l4];exact r3 k cx
   clear eH r2 r3 rr cA a0 a1;go_wp2;refine⟨⟨k+1,aa,by go_num,((((gx.setCell (ah _) _).setCell (ah _) _).setCell (ah _) _).alloc (by simp[World.setCell];omega) _).alloc (by simp[World.setCell];omega) _,by simp[World.setCell];omega,?_⟩,by simp[intOf];omega⟩;exact((Xq cp).alloc _).alloc _
  ·go_wp2;go_ret;have:k=n:=aa;subst this;exact⟨rfl,gx,hz,cp⟩
def mw(out:Nat->af)(gD:Nat->Bool):Nat->List af
 |0=>[]
 |k+1=>mw out gD k++(if gD k then[out k] else[])
def Df(out:Nat->af)(gD:Nat->Bool):∀k,(mw out gD k).length<=k
 |0=>by simp[mw]
 |k+1=>by
  have:=Df out gD k;simp only[mw,List.length_append];split<;>simp<;>omega
def J0(bn Lb Lo St Rb Nb n:Nat)(out:Nat->af)(eO:Nat->Int)(ins:Nat->List (Bool×Nat))(cO:Nat->Nat)(res:Nat->V)(gD:Nat->Bool)(w:ae)(hn:n<=1000)(h:pR w bn Lb Lo St Rb Nb n out eO ins cO res gD):
  Calls ax 76 #[.pointer (so ⟨bn,0,we⟩)] w λe w'=>∃v,e=.returned v/\Below w.heap.size w w'/\w.heap.size<=w'.heap.size/\w'.ownsRow w.heap.size 9 1 v (mw out gD n).length ((mw out gD n).map .string):=by
 obtain⟨b0,b2,b3,st,eH,r2,r3,rr,l1,l2,l3,l4,l5⟩:=h;have cA:∀(w':ae),Below w.heap.size w w'->∀b off,b<w.heap.size->w'.cell? ⟨b,off,we⟩=w.cell? ⟨b,off,we⟩:=λw' hb b off hl=>(wv hb).1 _ _ hl;go_enter func76,ntmps76;clear cA;go_wp2;have cA:∀(w':ae),Below w.heap.size w w'->∀b off,b<w.heap.size->w'.cell? ⟨b,off,we⟩=w.cell? ⟨b,off,we⟩:=λw' hb b off hl=>(wv hb).1 _ _ hl;go_loopw [3,14] (λv i w'=>∃k:Nat,k<=n/\i=.int .i64 k/\Below w.heap.size w w'/\w.heap.size<=w'.heap.size/\w'.ownsRow w.heap.size 9 1 v (mw out gD k).length ((mw out gD k).map .string)) (λv i _=>n-(intOf i).toNat)
 case atStart=>exact⟨0,aV _,rfl,Below.refl _ _,ah _,by simp[mw],.inl ⟨rfl,rfl⟩⟩
 case round =>
  obtain⟨k,hk,rfl,gx,hz,cp⟩:=hrel;by_cases cx:k<n
  ·have c0:=(cA _ gx St (k*3) l3).trans (eH.out k cx);have c1:=(cA _ gx St (k*3+1) l3).trans (eH.eO k cx);have c2:=(cA _ gx St (k*3+2) l3).trans (eH.Bh k cx);have q3:∀x,(wr.alloc x).cell? ⟨bn,3,we⟩=so (.slice (so ⟨Nb,0,we⟩) n n):=λx=>by rw[cA _ (gx.alloc aa _) _ _ l1];exact b3
   have q4:∀x,(wr.alloc x).cell? ⟨Nb,k,we⟩=so (.bool (gD k)):=λx=>by rw[cA _ (gx.alloc aa _) _ _ l5];exact rr k cx
   have g1:bn<wr.heap.size:=aa;have g5:Nb<wr.heap.size:=aa;have hl:=Df out gD k;have EH:mw out gD (k+1)=mw out gD k++(if gD k then[out k] else[]):=rfl;generalize mw out gD k=raw at *;generalize jl:out k=x at *;generalize VY:gD k=rk at *;clear eH r2 r3 rr cA;have e0:=p6 cp (.cells #[.string x,.int .i64 (eO k),.slice (so ⟨cO k,0,we⟩) (ins k).length (ins k).length] 220);cases rk
   ·go_wp2;refine⟨⟨k+1,aa,by go_num,gx.alloc aa _,eP,?_⟩,by simp[intOf];omega⟩;rw[EH];simpa using e0
   ·have⟨v',W',e1,e2,e3⟩:=qw ((wr.alloc (.cells #[.string x,.int .i64 (eO k),.slice (so ⟨cO k,0,we⟩) (ins k).length (ins k).length] 220)).alloc (.cells #[.string x] 9)) w.heap.size _ _ x (wr.heap.size+1) (p6 e0 _) aa eP ar;have xB:=Below.grown ((gx.alloc aa _).alloc eP _) e3 eP (zR cp);go_wp2_with (at_builtin;refine gp rfl _ _ 40 rfl rfl rfl e1 ?_);exact⟨⟨k+1,aa,by go_num,xB,xB.size,by rw[EH];exact e2⟩,by simp[intOf];omega⟩
  ·go_wp2;go_ret;have:k=n:=aa;subst this;exact⟨_,rfl,gx,hz,cp⟩
end
def QE:(ax.info? 220).map (λi=>(i.zero,i.size,i.bytes))=so (so (.agg #[.string aR,.int .i64 0,.slice we 0 0]),3,48):=ai
def Dg(w:ae)(n:Nat)(hn:n<=100000):(Instr.makeSlice 143 (.int .i64 (n:Int)) (.int .i64 (n:Int))).run ax w=.ok (.slice (so ⟨w.heap.size,0,we⟩) n n) (w.alloc (.cells (madeCells #[.string aR,.int .i64 0,.slice we 0 0] (n*3)) 220)):=by
 obtain⟨i,hi,hz⟩:=aaf.1 QE;simp only[bB]at hz;obtain⟨hz,hs,hb⟩:=hz;have:=run_make (P:=ax) w 143 220 i _ underlying143 hi hz .i64 .i64 n n aa (fK _) (by rw[hb];omega) aa;rw[this,hs];simp[Value.cells]
def gq(out:Nat->af)(eO:Nat->Int)(ins:Nat->List (Bool×Nat))(cO:Nat->Nat)(k j:Nat):Value :=
 if j<k*3 then(if j%3=0 then .string (out (j/3))else if j%3=1 then .int .i64 (eO (j/3))else .slice (so ⟨cO (j/3),0,we⟩) (ins (j/3)).length (ins (j/3)).length)
 else(if j%3=0 then .string aR else if j%3=1 then .int .i64 0 else .slice we 0 0)
def QF(w:ae)(n:Nat)(out:Nat->af)(eO:Nat->Int)(ins:Nat->List (Bool×Nat))(cO:Nat->Nat)(St:Nat)(h:w.heap[St]?=so (.cells (madeCells #[.string aR,.int .i64 0,.slice we 0 0] (n*3)) 220)):w.rowIs St 220 (n*3) (gq out eO ins cO 0):=by
 refine⟨_,h,by simp[size_madeCells],λj hj=>?_⟩;simp only[madeCells,aL,Array.getElem?_range,hj,if_true,aJ,gq,Nat.zero_mul,Nat.not_lt_zero,if_false];have hm:j%3=0\/j%3=1\/j%3=2:=aa;rcases hm with e|e|e<;>simp[e]
def Ug{w:ae}{St n k:Nat}{out:Nat->af}{eO:Nat->Int}{ins:Nat->List (Bool×Nat)}{cO:Nat->Nat}(h:w.rowIs St 220 (n*3) (gq out eO ins cO k)):
  (((w.setCell ⟨St,k*3,we⟩ (.string (out k))).setCell ⟨St,k*3+1,we⟩ (.int .i64 (eO k))).setCell ⟨St,k*3+2,we⟩ (.slice (so ⟨cO k,0,we⟩) (ins k).length (ins k).length)).rowIs St 220 (n*3) (gq out eO ins cO (k+1)):=by
 refine(((h.set (k*3) _).set (k*3+1) _).set (k*3+2) _).congr λj hj=>?_;by_cases e2:j=k*3+2
 ·subst e2;have h1:(k*3+2)%3=2:=aa;have h2:(k*3+2)/3=k:=aa;simp[gq,h1,h2,show k*3+2<(k+1)*3 by omega]
 ·by_cases e1:j=k*3+1
  ·subst e1;have h1:(k*3+1)%3=1:=aa;have h2:(k*3+1)/3=k:=aa;simp[gq,h1,h2,show k*3+1<(k+1)*3 by omega]
  ·by_cases e0:j=k*3
   ·subst e0;have h1:(k*3)%3=0:=aa;have h2:(k*3)/3=k:=aa;simp[gq,h1,h2,show k*3<(k+1)*3 by omega]
   ·rw[if_neg e2,if_neg e1,if_neg e0];by_cases e3:j<k*3
    ·simp only[gq,if_pos e3,if_pos (show j<(k+1)*3 by omega)]
    ·simp only[gq,if_neg e3,if_neg (show ¬j<(k+1)*3 by omega)]
def QG{w:ae}{b t n:Nat}{l:List (Bool×Nat)}(hn:n=l.length)(h:w.rowIs b t (n*2) (kO l)):tx w b l:=λj hj=>by
 have h0:(j*2)%2=0:=aa;have h1:(j*2+1)%2=1:=aa;have d0:(j*2)/2=j:=aa;have d1:(j*2+1)/2=j:=aa;refine⟨?_,?_⟩
 ·rw[h.cell aa];simp only[kO,h0,d0];simp[hj]
 ·rw[h.cell aa];simp only[kO,h1,d1];simp[hj]
def QH{w:ae}{St n:Nat}{out:Nat->af}{eO:Nat->Int}{ins:Nat->List (Bool×Nat)}{cO:Nat->Nat}(h:w.rowIs St 220 (n*3) (gq out eO ins cO n))(hi:∀s,s<n->tx w (cO s) (ins s))(hl:∀s,s<n->cO s<w.heap.size)(hs:∀s,s<n->(ins s).length<=100000):pO w St n out eO ins cO where
 out s hs:=by
  have h1:(s*3)%3=0:=aa;have h2:(s*3)/3=s:=aa;rw[h.cell aa];simp[gq,h1,h2,show s*3<n*3 by omega]
 eO s hs:=by
  have h1:(s*3+1)%3=1:=aa;have h2:(s*3+1)/3=s:=aa;rw[h.cell aa];simp[gq,h1,h2,show s*3+1<n*3 by omega]
 Bh s hs:=by
  have h1:(s*3+2)%3=2:=aa;have h2:(s*3+2)/3=s:=aa;rw[h.cell aa];simp[gq,h1,h2,show s*3+2<n*3 by omega]
 C0:=hi
 lt:=hl
 short:=hs
end Go.Proofs.Kz
namespace Go.Ren
open _root_.Option renaming some → so,none → we
open Go.Conc Go.ConcN
section
variable {w w':ae}{b:Nat}{t:TypeId}{x y z u v x' y' z' u' v':Value}
def Dh(h:w.heap[b]?=so (.cells #[x] t)):w.cell? ⟨b,0,we⟩=so x/\w.frozen? ⟨b,0,we⟩=false:=by simp[World.cell?,World.frozen?,h]
def dY(h:w.heap[b]?=so (.cells #[x,y] t)):w.cell? ⟨b,0,we⟩=so x/\w.cell? ⟨b,1,we⟩=so y/\w.frozen? ⟨b,0,we⟩=false/\w.frozen? ⟨b,1,we⟩=false:=by simp[World.cell?,World.frozen?,h]
def fa(h:w.heap[b]?=so (.cells #[x,y,z] t)):w.cell? ⟨b,0,we⟩=so x/\w.cell? ⟨b,1,we⟩=so y/\w.cell? ⟨b,2,we⟩=so z/\w.frozen? ⟨b,0,we⟩=false/\w.frozen? ⟨b,1,we⟩=false/\w.frozen? ⟨b,2,we⟩=false:=by simp[World.cell?,World.frozen?,h]
def Uh(h:w.heap[b]?=so (.cells #[x,y] t)):((w.setCell ⟨b,0,we⟩ x').setCell ⟨b,1,we⟩ y').heap[b]?=so (.cells #[x',y'] t):=by simp[World.setCell,aS,h]
def MF(h:w.heap[b]?=so (.cells #[x,y,z] t)):(((w.setCell ⟨b,0,we⟩ x').setCell ⟨b,1,we⟩ y').setCell ⟨b,2,we⟩ z').heap[b]?=so (.cells #[x',y',z'] t):=by simp[World.setCell,aS,h]
def eM(b:Nat)(w w':ae):Prop:=w'.heap.size=w.heap.size/\∀c,c≠b->w'.heap[c]?=w.heap[c]?
def eM.refl:eM b w w:=⟨rfl,λ_ _=>rfl⟩
def eM.set{a:Addr}(h:eM b w w')(ha:a.block=b):eM b w (w'.setCell a v):=by
 refine⟨by simp[World.setCell,h.1],λc hc=>?_⟩;rw[<- h.2 c hc];obtain⟨ab,ao,az⟩:=a;simp only at ha;subst ha;simp[World.setCell,aS];exact λe=>absurd e.symm hc
def eM.at(h:eM b w w')(off:Nat)(v:Value):eM b w (w'.setCell ⟨b,off,we⟩ v):=h.set rfl
def iX(w:ae)(b i:Nat)(x:Value):eM b w (w.setCell ⟨b,i,we⟩ x):=eM.refl.at i x
def AQ(w:ae)(b i j:Nat)(x y:Value):eM b w ((w.setCell ⟨b,i,we⟩ x).setCell ⟨b,j,we⟩ y):=(iX w b i x).at j y
def wC(w:ae)(b i j k:Nat)(x y z:Value):eM b w (((w.setCell ⟨b,i,we⟩ x).setCell ⟨b,j,we⟩ y).setCell ⟨b,k,we⟩ z):=(AQ w b i j x y).at k z
end
section
variable {P:Program}{L:Nat->Bool}{o:aM}{w w' wl aX:ae}{v:Value}
def lJ.only(h:lJ P L o w w' aX v)(ha:iz o w wl){A:Nat}(hA:o A)(hs:eM A wl aX):eM A w w'/\w'.heap[A]?=aX.heap[A]?/\grow o w w'=o:=by
 have⟨h1,h2,h3,h4⟩:=h.store ha hA hs.1 hs.2;exact⟨⟨h1,h2⟩,h3,h4⟩
end
end Go.Ren
namespace Go.Proofs.Kz
open Go.Proofs.Tryz
open Go.Proofs.Tryz renaming prog → ax
open _root_.ByteArray renaming empty → aR
open _root_.Option renaming some → so,none → we
open Go.Ren Go.Conc Go.Proofs Go.ConcN
section
variable {Fin:bL}{o:aM}{w:ae}
def vx.view{rs:List aI}{v:Value}{o':aM}{w':ae}(S:vx o w rs v o' w')(hF:bO ax L0 o w)(ZT:∃b,o b):∃g p cap b7,v=.slice p b7.length cap/\(b7≠[]->p=so ⟨g,0,we⟩/\w.heap.size<=g)/\o' g/\eT w' g b7/\b7.Perm rs/\(∀i j (hi:i<b7.length) (hj:j<b7.length),i<j->¬qP b7[j] b7[i]<0)/\Cl ax L0 o' (.slice p b7.length cap):=by
 rcases S.row with⟨rfl,rfl⟩|⟨g,cap,b7,h1,h2,h3,h4,h5,h6,h7⟩
 ·obtain⟨b,hb⟩:=ZT;exact⟨b,we,0,[],rfl,λh=>absurd rfl h,by rw[S.own];exact .inl hb,λi hi=>by simp at hi,List.Perm.refl _,λi j hi=>by simp at hi,iP⟩
 ·have hg:o' g:=by rw[S.own];exact .inr ⟨h3,h4⟩
  exact⟨g,_,cap,b7,by rw[h1,h5.length_eq],λ_=>⟨rfl,h3⟩,hg,h7,h5,h6,dW hg⟩
def lX(rs:List aI)(i:Nat):af:=((rs[i]?).map (·.out)).getD aR
def zT(rs:List aI)(i:Nat):Int:=((rs[i]?).map (·.eO)).getD 0
def D8(NM:aI->List af)(rs:List aI)(i:Nat):List af:=((rs[i]?).map NM).getD []
def nbF(NB:aI->Nat)(rs:List aI)(i:Nat):Nat:=((rs[i]?).map NB).getD 0
def dZ(NM:aI->List af)(rs:List aI):List af:=cZ (lF (rs.map (·.out)) (D8 NM rs) rs.length)
def mz(NM:aI->List af)(rs:List aI)(i:Nat):List (Bool×Nat):=(D8 NM rs i).map (rq (rs.map (·.out)) (dZ NM rs))
def uK(raw:List af):(cZ raw).length<=raw.length:=by
 unfold cZ;rw[bT];refine aY (De _) ?_;simp[ki]
structure wD(lo:Nat)(NM:aI->List af)(b7:List aI)(St Or:Nat)(cO:Nat->Nat)(sv v:Value)(w':ae):Prop where
 val:v=.agg #[.slice (so ⟨St,0,we⟩) b7.length b7.length,.slice (so ⟨Or,0,we⟩) (eF (mz NM b7) b7.length b7.length).length b7.length,sv]
 steps:pO w' St b7.length (lX b7) (zT b7) (mz NM b7) cO
 ord:lj w' Or b7.length (eF (mz NM b7) b7.length b7.length)
 src:gY lo (dZ NM b7) sv w'
 st:lo<=St/\St<w'.heap.size
 or:lo<=Or/\Or<w'.heap.size
 ib:∀s,s<b7.length->lo<=cO s
def AS{w w':ae}{b:Nat}{l:List (Bool×Nat)}(h:tx w b l)(e:w'.heap[b]?=w.heap[b]?):tx w' b l:=λj hj=>⟨(cell_of e).trans (h j hj).1,(cell_of e).trans (h j hj).2⟩
def EJ{out:Nat->af}{eO:Nat->Int}{ins:Nat->List (Bool×Nat)}{cO yI:Nat->Nat}{k:Nat}(h:∀s,s<k->cO s=yI s)(j:Nat):gq out eO ins cO k j=gq out eO ins yI k j:=by
 unfold gq;by_cases hj:j<k*3
 ·rw[if_pos hj,if_pos hj,h (j/3) aa]
 ·rw[if_neg hj,if_neg hj]
def Hb{o:aM}{w w1 w2:ae}(h:w1.heap.size=w2.heap.size):grow o w w1=grow o w w2:=by unfold grow;rw[h]
def ll{lo Ui:Nat}{ts:List af}{v:Value}{w w':ae}(h:gY lo ts v w)(zb:Ui<=lo)(hz:w.heap.size<=w'.heap.size)(e:∀b,lo<=b->b<w.heap.size->w'.heap[b]?=w.heap[b]?):gY Ui ts v w':=by
 rcases h with h|⟨g,cap,h1,h2,h3,h4,h5⟩
 ·exact .inl h
 ·exact .inr ⟨g,cap,h1,h2,aa,aa,cD h5 (e g h3 h4)⟩
structure aiM(o6:aM)(w6:ae)(R St ob n:Nat)(q:Option Addr)(cap:Nat)(sv:Value)(out:Nat->af)(eO:Nat->Int)(ins:Nat->List (Bool×Nat))(k:Nat)(a:Act)(o':aM)(w':ae):Prop where
 size:a.tmps.size=46
 df:a.defers=[]
 t2:a.eval (.tmp 2)=.pointer (so ⟨R,0,we⟩)
 t4:a.eval (.tmp 4)=.slice (so ⟨ob,0,we⟩) n n
 t5:a.eval (.tmp 5)=sv
 t6:a.eval (.tmp 6)=.slice (so ⟨St,0,we⟩) n n
 t20:a.eval (.tmp 20)=.slice q n cap
 t21:a.eval (.tmp 21)=.int .i64 n
 t22:a.eval (.tmp 22)=.int .i64 k
 own:o'=grow o6 w6 w'
 aH:bO ax L0 o' w'
 iS:w6.heap.size<=w'.heap.size
 old:∀b,b<w6.heap.size->b≠St->w'.heap[b]?=w6.heap[b]?
 row:∃cO:Nat->Nat,w'.rowIs St 220 (n*3) (gq out eO ins cO k)/\∀s,s<k->tx w' (cO s) (ins s)/\w6.heap.size<=cO s/\cO s<w'.heap.size
def Hc(hF:bO ax L0 o w)(Ru c:Nat)(p:Option Addr)(rs:List aI)(hn:rs.length<=8)(hp:rs≠[]->p=so ⟨Ru,0,we⟩)(zd:o Ru)(CH:eT w Ru rs)(fw:∀r∈rs,Cl ax L0 o (.slice r.sa r.sl r.sc))(hc:Cl ax L0 o (.slice p rs.length c))(NM:aI->List af)(NB:aI->Nat)(vq:∀r∈rs,r.sl=(NM r).length/\(NM r≠[]->r.sa=so ⟨NB r,0,we⟩/\o (NB r))/\eN w (NB r) 0 (NM r)/\(NM r).length<=4):
  bA ax (XB ax Fin 0) 112 #[.slice p rs.length c] o w λv o' w'=>fT o w v o' w'/\∃b7 St Or cO sv,b7.Perm rs/\(∀i j (hi:i<b7.length) (hj:j<b7.length),i<j->¬qP b7[j] b7[i]<0)/\wD w.heap.size NM b7 St Or cO sv v w':=by
 have W:=bY (P:=ax) (Fin:=Fin) (d:=0);refine eD W func112 ak ?_;refine ay ?_;refine dm bS hF rfl ak ak nf rfl (R:=λwl v aX=>v=.pointer (so ⟨wl.heap.size,0,we⟩)/\aX=wl.alloc (Obj.cells #[.slice we 0 0,.slice we 0 0,.slice we 0 0] 145)) (λwl aW=>⟨_,_,fS,rfl,rfl⟩) λwl v1 aX w1 aW hR bP=>?_;obtain⟨rfl,hR⟩:=hR;have⟨z1,k1,k2⟩:=bP.alloc hF aW hR;have lz:=bP.aH;rw[aW.size];clear hR bP aW wl aX;refine ay ?_;refine du W rfl ak rfl func145 ai rfl aK rfl ((Uf lz p rs.length c (hc.up jf)).mono λv2 o2 w2 hq=>?_);obtain⟨N2,rfl,z2,kb⟩:=hq;walk_nrm;have u2:∀b,o b->o2 b:=λb hb=>by rw[N2.own];exact .inl (.inl hb)
 have aep:∀b,b<w.heap.size->w2.heap[b]?=w.heap[b]?:=λb hb=>(N2.old b aa).trans (k1 b hb);have Qt:o2 w1.heap.size:=by rw[N2.own];exact .inr ⟨ah _,z2⟩
 refine du W rfl ak rfl func144 ai rfl aK rfl ((GW N2.aH w1.heap.size Ru c p rs hn Qt (by simp[World.cell?,kb]) hp (u2 _ zd) (gR CH (aep Ru (hF.lt zd))) (λr hr=>(fw r hr).up u2)).mono λv3 o3 w3 S=>?_);refine ay ?_;obtain⟨g,q,cap,b7,rfl,hq,VX,EE,hpm,RQ,hcq⟩:=S.view N2.aH ⟨_,Qt⟩;have hl':b7.length<=8:=by rw[hpm.length_eq];exact hn
 refine du W rfl ak rfl func147 ai rfl aK rfl ((Ud S.aH g cap q b7 aa (λh=>⟨(hq h).1,VX⟩) EE hcq).mono λv4 o4 w4 hq4=>?_);obtain⟨N4,rfl,z4,t4⟩:=hq4;refine ay ?_;have zz2:=N2.size;have zz3:=S.size;have zz4:=N4.size;have u4:∀b,o2 b->o4 b:=λb hb=>by rw[N4.own,S.own];exact .inl (.inl hb)
 have u34:∀b,o3 b->o4 b:=λb hb=>by rw[N4.own];exact .inl hb
 have TR:∀b,b<w.heap.size->w4.heap[b]?=w.heap[b]?:=λb hb=>(N4.old b aa).trans ((S.old b aa).trans (aep b hb));have ho4:o4 w3.heap.size:=by rw[N4.own];exact .inr ⟨ah _,z4⟩
 have pg:∀i (h:i<b7.length),b7[i]∈rs:=λi h=>hpm.subset (aG h);obtain⟨nm,Uj⟩:∃nm,D8 NM b7=nm:=⟨_,rfl⟩;obtain⟨nb,aiO⟩:∃nb,nbF NB b7=nb:=⟨_,rfl⟩;have enm:∀i (h:i<b7.length),nm i=NM b7[i]:=λi h=>by simp[<- Uj,D8,h]
 have enb:∀i (h:i<b7.length),nb i=NB b7[i]:=λi h=>by simp[<- aiO,nbF,h]
 have Xr:yG w4 g b7 nm nb:=by
  refine⟨gR EE (N4.old g (S.aH.lt VX)),λi h=>?_,λi h dE=>?_,λi h=>?_,λi h=>?_⟩
  ·rw[enm i h];exact(vq _ (pg i h)).1
  ·rw[enm i h]at dE;rw[enb i h];have:=(vq _ (pg i h)).2.1 dE;exact⟨this.1,by have:=hF.lt this.2;omega⟩
  ·rw[enm i h,enb i h];intro k hk;have h3:=(vq _ (pg i h)).2.1 (nlt hk);exact cD (vq _ (pg i h)).2.2.1 (TR _ (hF.lt h3.2)) k hk
  ·rw[enm i h];exact(vq _ (pg i h)).2.2.2
 have Ha:∀i,i<b7.length->nm i≠[]->o4 (nb i):=λi h dE=>by
  rw[enm i h]at dE;rw[enb i h];exact u4 _ (u2 _ ((vq _ (pg i h)).2.1 dE).2)
 have aer:=JX (Fin:=Fin) N4.aH g cap w3.heap.size b7.length q b7 nm nb (b7.map (·.out)) aa eP (λh=>⟨(hq h).1,u34 _ VX⟩) ho4 Xr Ha t4 (hcq.up u34);rw[bT]at aer;refine du W rfl ak rfl func148 ai rfl aK rfl (aer.mono λv5 o5 w5 hq5=>?_);obtain⟨N5,t5⟩:=hq5;refine ay ?_;refine dm bS N5.aH rfl ak ak ?_ rfl (R:=λwl v aX=>v=.slice (so ⟨wl.heap.size,0,we⟩) b7.length b7.length/\aX=wl.alloc (.cells (madeCells #[.string aR,.int .i64 0,.slice we 0 0] (b7.length*3)) 220)) (λwl aW=>⟨_,_,by simp[go_sem,Dg wl b7.length aa],rfl,rfl⟩) λwl v6 aX w6 aW hR bP=>?_
 ·exact mo dV
 obtain⟨rfl,hR⟩:=hR;have⟨z6,k6,kb6⟩:=bP.alloc N5.aH aW hR;have EF:=bP.aH;rw[aW.size];clear hR bP aW wl aX;refine ay ?_;have apR:=EF;have ho6:grow o5 w5 w6 w5.heap.size:=.inr ⟨ah _,aa⟩;obtain⟨out,Y2⟩:∃f,lX b7=f:=⟨_,rfl⟩;obtain⟨eO,Y3⟩:∃f,zT b7=f:=⟨_,rfl⟩;obtain⟨ins,J1⟩:∃f,mz NM b7=f:=⟨_,rfl⟩;rw[<- Uj,show cZ (lF (b7.map (·.out)) (D8 NM b7) b7.length)=dZ NM b7 from rfl]at t5;have aes:(dZ NM b7).length<=100000:=by
  have h1:=uK (lF (b7.map (·.out)) (D8 NM b7) b7.length);have h2:=oM (b7.map (·.out)) nm b7.length Xr.four b7.length (ah _);rw[<- Uj]at h2;have:(dZ NM b7).length<=(lF (b7.map (·.out)) (D8 NM b7) b7.length).length:=h1;omega
 obtain⟨SR,aa3⟩:∃f,dZ NM b7=f:=⟨_,rfl⟩;rw[aa3]at t5 aes;have hv5:∃sp sb sc,v5=.slice sp SR.length sc/\(SR≠[]->sp=so ⟨sb,0,we⟩/\o5 sb)/\eN w5 sb 0 SR:=by
  rcases t5 with⟨h1,h2⟩|⟨g2,c2,h1,h2,h3,h4,h5⟩
  ·exact⟨we,0,0,by rw[h1,h2];rfl,λh=>absurd h2 h,λi hi=>by rw[h2]at hi;simp at hi⟩
  ·exact⟨_,g2,c2,h1,λ_=>⟨rfl,by rw[N5.own];exact .inr ⟨h3,h4⟩⟩,h5⟩
 obtain⟨sp,sb,sc,rfl,vJ,aet⟩:=hv5;refine gT W (λm a o' w'=>∃k,m+k=b7.length/\aiM (grow o5 w5 w6) w6 w.heap.size w5.heap.size w3.heap.size b7.length q cap (.slice sp SR.length sc) out eO ins k a o' w') (N:=b7.length) ⟨0,ar,?_⟩ ?_
 ·refine⟨rfl,rfl,aK,aK,aK,aK,aK,aK,aK,(cm _ _).symm,EF,ah _,λ_ _ _=>rfl,λ_=>0,QF _ _ _ _ _ _ _ kb6,λs hs=>aa⟩
 have hgw:g<w5.heap.size:=by have:=S.aH.lt VX;have:=N5.size;omega
 have u5:∀b,o4 b->o5 b:=λb hb=>by rw[N5.own];exact .inl hb
 have zz5:=N5.size;rintro m a o1 w7 ⟨k,HO,fy,kN,i2,i4,i5,i6,i20,i21,i22,rfl,J2,Y4,aeu,cO,aev,MG⟩;obtain⟨gs,rfl⟩:=il fy kN;clear fy kN;simp only[List.range,List.range.loop,aC,aP]at i2 i4 i5 i6 i20 i21 i22 |-;simp[Act.eval]at i2 i4 i5 i6 i20 i21 i22;simp only[i2,i4,i5,i6,i20,i21,i22];clear i2 i4 i5 i6 i20 i21 i22;have u7:∀b,o5 b->grow (grow o5 w5 w6) w6 w7 b:=λb hb=>.inl (.inl hb);have Uk:∀b,b<w5.heap.size->w7.heap[b]?=w5.heap[b]?:=λb hb=>(aeu b aa aa).trans (k6 b hb);have hr7:eT w7 g b7:=gR Xr.at_ ((Uk g hgw).trans (N5.old g (by have:=S.aH.lt VX;omega)));have Xs:grow (grow o5 w5 w6) w6 w7 g:=u7 _ (u5 _ (u34 _ VX));generalize ho7:grow (grow o5 w5 w6) w6 w7=o7 at *;rcases bg m with hm|hm
 ·have hk:k=b7.length:=aa;subst hk;have aew:o7 w5.heap.size:=by rw[<- ho7];exact .inl ho6
  have hio:∀s,s<b7.length->o7 (cO s):=λs hs=>by rw[<- ho7];exact .inr ⟨(MG s hs).2.1,(MG s hs).2.2⟩
  have aex:pO w7 w5.heap.size b7.length out eO ins cO:=QH aev (λs hs=>(MG s hs).1) (λs hs=>(MG s hs).2.2) (λs hs=>by
   have h4:=Xr.four s hs;rw[<- J1];simp only[mz,List.length_map,Uj];omega)
  have EK:grow o w w1 w.heap.size:=.inr ⟨ah _,aa⟩;have hR2:o2 w.heap.size:=by rw[N2.own];exact .inl EK
  have hR7:o7 w.heap.size:=u7 _ (u5 _ (u4 _ hR2));have kR7:w7.heap[w.heap.size]?=so (Obj.cells #[.slice we 0 0,.slice we 0 0,.slice we 0 0] 145):=by
   rw[Uk _ aa,N5.old _ aa,N4.old _ aa,S.old _ aa,N2.old _ aa];exact k2
  refine ay ?_;refine du W rfl ak rfl func150 ai rfl aK rfl ((QD J2 w5.heap.size b7.length b7.length out eO ins cO aa aew aex hio).mono λv8 o8 w8 hq8=>?_);obtain⟨N8,rfl,z8,aen⟩:=hq8;refine ay ?_;have u8:∀b,o7 b->o8 b:=λb hb=>by rw[N8.own];exact .inl hb
  have hOr:o8 w7.heap.size:=by rw[N8.own];exact .inr ⟨ah _,z8⟩
  have kR8:=(N8.old w.heap.size (J2.lt hR7)).trans kR7;generalize hol:(eF ins b7.length b7.length).length=ol;have Xi:Cl ax L0 o8 (.agg #[.slice (so ⟨w5.heap.size,0,we⟩) b7.length b7.length,.slice (so ⟨w7.heap.size,0,we⟩) ol b7.length,.slice sp SR.length sc]):=fW (vs:=[_,_,_]) (λx hx=>by
   simp at hx;rcases hx with rfl|rfl|rfl
   ·exact dW (u8 _ aew)
   ·exact dW hOr
   ·exact N5.cl.up λb hb=>u8 _ (u7 _ hb))
  refine dA bS N8.aH rfl ak ak ?_ rfl (R:=λwl aX=>aX=((wl.setCell ⟨w.heap.size,0,we⟩ (.slice (so ⟨w5.heap.size,0,we⟩) b7.length b7.length)).setCell ⟨w.heap.size,1,we⟩ (.slice (so ⟨w7.heap.size,0,we⟩) ol b7.length)).setCell ⟨w.heap.size,2,we⟩ (.slice sp SR.length sc)) (λwl aW=>⟨_,?_,rfl⟩) λwl aX w9 aW hR bP=>?_
  ·refine jF ?_ ?_
   ·exact bX (u8 _ hR7)
   ·exact Xi
  ·have⟨e0,e1,e2,f0,f1,f2⟩:=fa ((aW.heap _ (u8 _ hR7)).trans kR8);simp[go_sem,e0,e1,e2,f0,f1,f2]
  have hO:eM w.heap.size wl aX:=by rw[hR];exact wC _ _ _ _ _ _ _ _
  have⟨lR,oh,e9⟩:=bP.only aW (u8 _ hR7) hO;rw[hR,MF ((aW.heap _ (u8 _ hR7)).trans kR8)]at oh;have nT:=bP.aH;rw[e9]at nT |-;clear hR bP aW hO wl aX kR8 e9;refine ay ?_;have c9:∀n,(w9.at n).cell? ⟨w.heap.size,0,we⟩=so (.slice (so ⟨w5.heap.size,0,we⟩) b7.length b7.length)/\(w9.at n).cell? ⟨w.heap.size,1,we⟩=so (.slice (so ⟨w7.heap.size,0,we⟩) ol b7.length)/\(w9.at n).cell? ⟨w.heap.size,2,we⟩=so (.slice sp SR.length sc):=λn=>⟨(fa oh).1,(fa oh).2.1,(fa oh).2.2.1⟩;have zz8:=N8.size;have z9:=lR.1;refine⟨.inr trivial,trivial,.agg #[.slice (so ⟨w5.heap.size,0,we⟩) b7.length b7.length,.slice (so ⟨w7.heap.size,0,we⟩) ol b7.length,.slice sp SR.length sc],xc (λn=>?_) (λn e he=>?_),⟨?_,nT,aa,λb hb=>?_,Xi⟩,b7,w5.heap.size,w7.heap.size,cO,.slice sp SR.length sc,hpm,RQ,?_⟩
  ·have⟨c0,c1,c2⟩:=c9 n;simp[results,results112,go_sem,c0,c1,c2]
  ·have⟨c0,c1,c2⟩:=c9 n;simp[results,results112,go_sem,c0,c1,c2]at he;rcases he with rfl|rfl|rfl;all_goals exact⟨_,_,_,rfl,u8 _ hR7⟩
  ·rw[N8.own,<- ho7,grow_grow Y4 rfl zz8,grow_grow (w:=w5) aa rfl aa,N5.own,grow_grow zz5 rfl aa,N4.own,grow_grow zz4 rfl aa,S.own,grow_grow zz3 rfl aa,N2.own,grow_grow zz2 rfl aa,grow_grow (w:=w) aa rfl aa];exact Hb z9.symm
  ·rw[lR.2 b aa,N8.old b aa,Uk b aa,N5.old b aa];exact TR b hb
  ·have aa4:∀b,b<w7.heap.size->b≠w.heap.size->w9.heap[b]?=w7.heap[b]?:=λb hb dE=>(lR.2 b dE).trans (N8.old b hb);refine⟨by rw[J1,hol],?_,?_,?_,⟨aa,aa⟩,⟨aa,aa⟩,λs hs=>by have:=(MG s hs).2.1;omega⟩
   ·rw[Y2,Y3,J1];exact jA aex (aa4 _ aa aa) (λs hs=>by obtain⟨-,h1,h2⟩:=MG s hs;exact aa4 _ h2 aa) aa
   ·rw[J1];exact World.rowIs.of_block aen (lR.2 _ aa)
   ·rw[aa3];exact ll t5 aa aa λb h1 h2=>(aa4 b aa aa).trans (Uk b h2)
 ·have hk:k<b7.length:=aa;have R1:(k:Int)<(b7.length:Int):=aa;obtain⟨rfl,TT⟩:=hq (nlt hk);refine ay ?_;have⟨c0,c1,c2⟩:=hr7 k hk;generalize tu:b7[k].out=ro at c0;generalize hrr:b7[k].eO=rr at c1;generalize K6:b7[k].sa=ra at c2;generalize YX:b7[k].sl=rl at c2;generalize GD:b7[k].sc=rc at c2;refine dK bS J2 rfl ak ak ?_ rfl (v:=.agg #[.string ro,.int .i64 rr,.slice ra rl rc]) (λwl aW=>?_) λXl=>?_
  ·exact mo (bX Xs)
  ·simp[go_sem,(aW.cell Xs).trans c0,(aW.cell Xs).trans c1,(aW.cell Xs).trans c2]
  refine ay ?_;refine dm bS J2 rfl ak ak nf rfl (R:=λwl v aX=>v=.pointer (so ⟨wl.heap.size,0,we⟩)/\aX=wl.alloc (Obj.cells #[.string aR,.int .i64 0,.slice we 0 0] 42)) (λwl aW=>⟨_,_,by simp[go_sem];rfl,rfl,rfl⟩) λwl v8 aX w8 aW hR bP=>?_;obtain⟨rfl,hR⟩:=hR;have⟨z8,k8,kb8⟩:=bP.alloc J2 aW hR;have J3:=bP.aH;rw[aW.size];clear hR bP aW wl aX;refine ay ?_;have QI:grow o7 w7 w8 w7.heap.size:=.inr ⟨ah _,aa⟩;refine dA bS J3 rfl ak ak ?_ rfl (R:=λwl aX=>aX=((wl.setCell ⟨w7.heap.size,0,we⟩ (.string ro)).setCell ⟨w7.heap.size,1,we⟩ (.int .i64 rr)).setCell ⟨w7.heap.size,2,we⟩ (.slice ra rl rc)) (λwl aW=>⟨_,?_,rfl⟩) λwl aX w9 aW hR bP=>?_
  ·refine jF ?_ ?_
   ·exact bX QI
   ·exact Xl.up jf
  ·have⟨e0,e1,e2,f0,f1,f2⟩:=fa ((aW.heap _ QI).trans kb8);simp[go_sem,e0,e1,e2,f0,f1,f2]
  have hO:eM w7.heap.size wl aX:=by rw[hR];exact wC _ _ _ _ _ _ _ _
  have⟨lR,oh,e9⟩:=bP.only aW QI hO;rw[hR,MF ((aW.heap _ QI).trans kb8)]at oh;have nT:=bP.aH;rw[e9]at nT |-;clear hR bP aW hO wl aX kb8 e9;have Xt:∀b,b<w7.heap.size->w9.heap[b]?=w7.heap[b]?:=λb hb=>(lR.2 b aa).trans (k8 b hb);have z9:w9.heap.size=w7.heap.size+1:=by rw[lR.1,z8]
  have e89:grow o7 w7 w8=grow o7 w7 w9:=by unfold grow;rw[lR.1]
  rw[e89]at nT QI |-;clear lR k8 z8 J3 e89;clear w8;walk_nrm;refine ya W ?_;simp only[ij,dz,if_true,if_false,reduceIte,Nat.reduceEqDiff];have Hd:ins k=(nm k).map (rq (b7.map (·.out)) SR):=by rw[<- J1,<- Uj,<- aa3];rfl
  have aiR:out k=ro:=by rw[<- Y2,<- tu];simp[lX,hk]
  have aiS:eO k=rr:=by rw[<- Y3,<- hrr];simp[zT,hk]
  have aa5:(nm k).length=rl:=by rw[<- YX];exact(Xr.len k hk).symm
  have Ul:∀b,b<w5.heap.size->w9.heap[b]?=w5.heap[b]?:=λb hb=>(Xt b aa).trans (Uk b hb);have u9:∀b,o5 b->grow o7 w7 w9 b:=λb hb=>.inl (u7 b hb);obtain⟨a0,a1,a2,-⟩:=fa oh;have aey:Cl ax L0 (grow o7 w7 w9) (.slice ra rl rc):=by rw[<- K6,<- YX,<- GD];exact(fw _ (pg k hk)).up (λb hb=>u9 b (u5 b (u4 b (u2 b hb))))
  have aiT:nm k≠[]->ra=so ⟨nb k,0,we⟩:=λh=>by rw[<- K6];exact(Xr.ptr k hk h).1
  clear tu hrr K6 YX GD c0 c1 c2;obtain⟨o9,ho9⟩:∃x,x=grow o7 w7 w9:=⟨_,rfl⟩;rw[<- ho9]at nT QI u9 aey |-;have hAw:w7.heap.size<w9.heap.size:=aa;refine dH mixed ai [so we,so we,so we,so (so (.string ro)),so we,so (so (.int .i64 rr)),so we,so (so (.slice ra rl rc)),so we,so we,we,so we,so we,we]
   (S:=λσ o' w'=>(σ 13=we/\(o'=grow o9 w9 w'/\bO ax L0 o' w'/\w9.heap.size<=w'.heap.size/\(∀b,b<w9.heap.size->w'.heap[b]?=w9.heap[b]?))/\(σ 10=we->o'=o9/\w'=w9)/\(∀y,σ 10=so y->y=.slice (so ⟨w9.heap.size,0,we⟩) rl rl/\w9.heap.size<w'.heap.size/\w'.rowIs w9.heap.size 280 (rl*2) (kO (ins k)))) \/
    (σ 13≠we/\o'=grow (grow o5 w5 w6) w6 w'/\bO ax L0 o' w'/\w6.heap.size<=w'.heap.size/\(∀b,b<w6.heap.size->b≠w5.heap.size->w'.heap[b]?=w6.heap[b]?)/\∃cO:Nat->Nat,w'.rowIs w5.heap.size 220 (b7.length*3) (gq out eO ins cO (k+1))/\∀s,s<k+1->tx w' (cO s) (ins s)/\w6.heap.size<=cO s/\cO s<w'.heap.size)) ?_ λv=>?_
  ·exact .inl ⟨rfl,⟨(cm _ _).symm,nT,ah _,λ_ _=>rfl⟩,λ_=>⟨rfl,rfl⟩,λy hy=>by cases hy⟩
  refine dN ?_;refine cq ?_;refine dsP (λσ o' w' H hS=>?_) ?_
  ·rcases hS with⟨Bj,⟨e1,e2,e3,e4⟩,-,-⟩|⟨Bj,-⟩
   ·have Y5:o' w7.heap.size:=by rw[e1];exact .inl QI
    refine⟨e2,λy hy=>?_,λwl aW=>?_⟩
    ·simp[Op.operands]at hy;subst hy;simp[Act.eval];exact bX Y5
    ·simp[go_sem,(aW.cell Y5).trans ((cell_of (e4 _ hAw)).trans a0)]
   ·exact absurd (H.xA 13 ai) Bj
  refine cq ?_;refine dsP (λσ o' w' H hS=>?_) ?_
  ·rcases hS with⟨Bj,⟨e1,e2,e3,e4⟩,-,-⟩|⟨Bj,-⟩
   ·have Y5:o' w7.heap.size:=by rw[e1];exact .inl QI
    refine⟨e2,λy hy=>?_,λwl aW=>?_⟩
    ·simp[Op.operands]at hy;subst hy;simp[Act.eval];exact bX Y5
    ·simp[go_sem,(aW.cell Y5).trans ((cell_of (e4 _ hAw)).trans a1)]
   ·exact absurd (H.xA 13 ai) Bj
  refine cq ?_;refine dsP (λσ o' w' H hS=>?_) ?_
  ·rcases hS with⟨Bj,⟨e1,e2,e3,e4⟩,-,-⟩|⟨Bj,-⟩
   ·have Y5:o' w7.heap.size:=by rw[e1];exact .inl QI
    refine⟨e2,λy hy=>?_,λwl aW=>?_⟩
    ·simp[Op.operands]at hy;subst hy;simp[Act.eval];exact bX Y5
    ·simp[go_sem,(aW.cell Y5).trans ((cell_of (e4 _ hAw)).trans a2)]
   ·exact absurd (H.xA 13 ai) Bj
  refine cq ?_;refine vt rfl rfl ak rfl func149 ai rfl (av:=#[.slice ra rl rc,.slice (so ⟨w3.heap.size,0,we⟩) b7.length b7.length,.slice sp SR.length sc]) aK (λσ o' w' H nD hS=>?_) ?_
  ·rcases hS with⟨Bj,-,h5,-⟩|⟨Bj,-⟩
   ·obtain⟨rfl,rfl⟩:=h5 nD;have aez:nm k≠[]->nb k<w4.heap.size:=λh=>(Xr.ptr k hk h).2;have hL:=Ue (Fin:=Fin) nT (nb k) rc w3.heap.size b7.length sb sc ra sp (nm k) (b7.map (·.out)) SR (by have:=Xr.four k hk;omega) eP aes (λh=>⟨aiT h,u9 _ (u5 _ (Ha k hk h))⟩) (λh=>⟨(vJ h).1,u9 _ (vJ h).2⟩) (u9 _ (u5 _ ho4)) (λi hi=>?_) (cD t4 ((Ul _ aa).trans (N5.old _ aa))) (λi hi=>?_) (aa5.symm▸aey) ?_
    ·rw[bT,aa5,<- Hd]at hL;refine hL.mono ?_;rintro y o2 w2 ⟨N,rfl,h1,h2⟩;refine .inl ⟨by simpa[fM] using Bj,⟨N.own,N.aH,N.size,N.old⟩,λh=>by simp[fM]at h,λy hy=>?_⟩;simp only[fM,if_true,aA]at hy;subst hy;exact⟨rfl,h1,h2⟩
    ·have dE:nm k≠[]:=λe=>by rw[e]at hi;simp at hi
     have:=aez dE;exact cD (Xr.txt k hk) ((Ul _ aa).trans (N5.old _ (aez dE))) i hi
    ·have dE:SR≠[]:=λe=>by rw[e]at hi;simp at hi
     have:=N5.aH.lt (vJ dE).2;exact cD aet (Ul _ this) i hi
    ·exact N5.cl.up u9
   ·exact absurd (H.xA 13 ai) Bj
  walk_nrm;refine yq (v 10=.slice (so ⟨w9.heap.size,0,we⟩) rl rl) (.agg #[.string ro,.int .i64 rr,.slice (so ⟨w9.heap.size,0,we⟩) rl rl]) rfl rfl rfl ak (λσ o' w' H hS=>?_) (λhv w1=>?_) (λhv w1=>?_) λy38 aiW=>?_
  ·rcases hS with⟨-,-,-,h6⟩|⟨Bj,-⟩
   ·exact(h6 _ (H.done 10 ai rfl)).1
   ·exact absurd (H.xA 13 ai) Bj
  ·simp[go_sem,Act.eval,hv]
  ·simp[go_sem,Act.eval,hv]
  refine cq ?_;have hlen:(ins k).length=rl:=by rw[Hd,bT,aa5]
  have aiX:w5.heap.size<w7.heap.size:=aa;have aiY:o9 w5.heap.size:=by rw[ho9,<- ho7];exact .inl (.inl ho6)
  refine pM bS rfl rfl rfl ak ak (λσ o' w' H Bj hS=>?_) ?_
  ·rcases hS with⟨-,⟨e1,e2,e3,e4⟩,-,h6⟩|⟨aiZ,-⟩
   ·have⟨hy,hz,cp⟩:=h6 _ (H.done 10 ai rfl);have Xu:o' w5.heap.size:=by rw[e1];exact .inl aiY
    have hn':o' w9.heap.size:=by rw[e1];exact .inr ⟨ah _,hz⟩
    have aeA:=aiW hy;subst aeA;obtain⟨yI,Y6⟩:∃f:Nat->Nat,f=λs=>if s=k then w9.heap.size else cO s:=⟨_,rfl⟩
    have hib:yI k=w9.heap.size:=by rw[Y6];simp
    have aeB:∀s,s<k->cO s=yI s:=λs hs=>by rw[Y6];simp[show ¬s=k by omega]
    have aeC:w'.rowIs w5.heap.size 220 (b7.length*3) (gq out eO ins yI k):=(World.rowIs.of_block aev ((e4 _ aa).trans (Xt _ aiX))).congr λj _=>EJ aeB j;refine⟨e2,λy Oo=>?_,λwl aX=>aX=((wl.setCell ⟨w5.heap.size,k*3,we⟩ (.string ro)).setCell ⟨w5.heap.size,k*3+1,we⟩ (.int .i64 rr)).setCell ⟨w5.heap.size,k*3+2,we⟩ (.slice (so ⟨w9.heap.size,0,we⟩) rl rl),λwl aW=>⟨_,?_,rfl⟩,λwl aX w2 aW hR bP=>?_⟩
    ·simp[Op.operands]at Oo;rcases Oo with rfl|rfl
     ·simp[Act.eval];exact bX Xu
     ·simp[Act.eval];exact fW (vs:=[_,_,_]) (λx hx=>by
       simp at hx;rcases hx with rfl|rfl|rfl
       ·exact bQ
       ·exact dV
       ·exact dW hn')
    ·have rl':=World.rowIs.of_block aeC (aW.heap _ Xu);have q0:=rl'.cell (i:=k*3) aa;have q1:=rl'.cell (i:=k*3+1) aa;have q2:=rl'.cell (i:=k*3+2) aa;have f:=rl'.frozen;simp[go_sem,q0,q1,q2,f]
    ·have hO:eM w5.heap.size wl aX:=by rw[hR];exact wC _ _ _ _ _ _ _ _
     have⟨on,kbS,eg⟩:=bP.only aW Xu hO;have rj:=bP.aH;have aeD:=Ug (World.rowIs.of_block aeC (aW.heap _ Xu));rw[aiR,aiS,hib,hlen,<- hR]at aeD;have ai0:=World.rowIs.of_block aeD kbS;refine .inr ⟨by simp[fM],?_,rj,by have:=on.1;omega,λb hb dE=>?_,yI,ai0,λs hs=>?_⟩
     ·rw[eg,e1,ho9,<- ho7,grow_grow (w:=w7) (w1:=w9) aa rfl e3,grow_grow Y4 rfl aa];exact Hb on.1.symm
     ·rw[on.2 b dE,e4 b aa,Xt b aa];exact aeu b hb dE
     ·by_cases hsk:s=k
      ·subst hsk;rw[hib];exact⟨AS (QG hlen.symm cp) (on.2 _ aa),aa,by rw[on.1];exact hz⟩
      ·have⟨p1,p2,p3⟩:=MG s aa;rw[<- aeB s aa];exact⟨AS p1 (by rw[on.2 _ aa,e4 _ aa,Xt _ p3]),p2,by rw[on.1];omega⟩
   ·exact absurd Bj aiZ
  walk_nrm;refine cu λσ o' w' lP hS=>?_;rcases hS with⟨Bj,-⟩|⟨-,e1,e2,e3,e4,yI,e5,e6⟩
  ·rw[lP 13 eB rfl]at Bj;cases Bj
  clear vJ aet vq fw;simp only[ij,dz,if_true,if_false,reduceIte,Nat.reduceEqDiff];refine ay ?_;have zy:IntKind.i64.wrap ((k:Int)+1)=((k+1:Nat):Int):=by rw[IntKind.wrap_i64]<;>omega
  refine⟨m-1,aa,k+1,aa,rfl,rfl,rfl,rfl,rfl,rfl,rfl,rfl,by simp[Act.eval,zy],e1,e2,e3,e4,yI,e5,e6⟩
end
end Go.Proofs.Kz
namespace Go.Ren
open _root_.Option renaming some → so,none → we
open Go.Conc Go.ConcN
section
variable {P:Program}{Fin:bL}{d:Nat}{o:aM}{w:ae}{fn:FuncId}{Q:Exit->Act->aM->ae->Prop}{a:Act}{ops:Array Oper}{i:Nat}{rest:List Nat}{op:Oper}
def rA{f:FuncId}{fc:Func}{args:Array Operand}{sE:Array TypeId}{e:Array Value->Sem Value}(ho:ops[i]?=so op)(hw:Region.wanted op (yielded ops a.tmps)=true)(eW:op.op=.call {callee:=.value (.func f),args,argTypes:=sE})(hf:P.funcs[f]?=so fc)(gN:(fc.name == "runtime.NumGoroutine")=false)(hb:fc.body.isNone=true)(hn:Extern.findNext fc=we)(he:Extern.find fc=so e){vs:Array Value}(LQ:args.map a.eval=vs){v:Value}{t:ae->ae}{evs:Array Event}{dd:Option Tmp}(hd:op.dst=dd)(pj:∀n,t (w.at n)=(t w).at n)(fy:(t w).heap.size=w.heap.size)(cJ:∀n,(e vs).run P (w.at n)=.ok v (t (w.at n)))(jb:∀n,(e vs).events P (w.at n) #[⟨.mark (.extern f),false,true⟩]=#[⟨.mark (.extern f),false,true⟩]++evs)(hs:∀x∈evs,x.sync=true/\(∀g,x.loc≠.mark (.extern g))/\x.loc≠.mark .disable/\x.loc≠.mark .enable)(h:eX (XB P Fin d) fn ops rest Q (a.put dd v) o (t w))(Ss:(t w).os=w.os/\(t w).output=w.output:=by exact⟨rfl,rfl⟩):eX (XB P Fin d) fn ops (i::rest) Q a o w:=λb k cs nz hk hc =>
 zE ho hw hk eW hf gN hb hn he hd pj fy (λn=>by rw[LQ];exact cJ n) (λn=>by rw[LQ];exact jb n) hs (h b k cs nz hk hc) Ss
def MH(ho:ops[i]?=so op)(hw:Region.wanted op (yielded ops a.tmps)=true){v:Value}{dd:Option Tmp}(hd:op.dst=dd)(hr:∀n,(execOp a.eval op).run P (w.at n)=.ok (.value v) (w.at n))(jb:∀n,∀x∈(execOp a.eval op).events P (w.at n) #[],EvF Fin o x/\x.loc≠.mark .disable/\x.loc≠.mark .enable)(h:eX (XB P Fin d) fn ops rest Q (a.put dd v) o w):eX (XB P Fin d) fn ops (i::rest) Q a o w:=λb k cs nz hk hc=>I8 ho hw hk hd hr jb (h b k cs nz hk hc)
def Di(ho:ops[i]?=so op)(hw:Region.wanted op (yielded ops a.tmps)=true){v:Value}{dd:Option Tmp}(hd:op.dst=dd)(hr:∀n,(execOp a.eval op).run P (w.at n)=.ok (.value v) (w.at n))(jb:∀n,∀x∈(execOp a.eval op).events P (w.at n) #[],WA o x/\x.loc≠.mark .disable/\x.loc≠.mark .enable)(h:eX (XB P Fin d) fn ops rest Q (a.put dd v) o w):eX (XB P Fin d) fn ops (i::rest) Q a o w:=λb k cs nz hk hc=>yk ho hw hk hd hr jb (h b k cs nz hk hc)
end
section
variable {P:Program}{L:Nat->Bool}{Fin:bL}{d:Nat}{fn:FuncId}{Q:Exit->Act->aM->ae->Prop}{a:Act}{ops:Array Oper}{S:(Nat->Option Value)->aM->ae->Prop}{kds:List Kd}{v:Nat->Value}{K:Act->Prop}{j:Nat}{l:List Nat}{xs:List Kd}{op:Oper}{dd:Option Tmp}
def Um{f:FuncId}{fc:Func}{args:Array Operand}{sE:Array TypeId}{e:Array Value->Sem Value}(ho:ops[j]?=so op)(hd:op.dst=dd)(hw:Region.wanted op (yielded ops a.tmps)=true)(eW:op.op=.call {callee:=.value (.func f),args,argTypes:=sE})(hf:P.funcs[f]?=so fc)(gN:(fc.name == "runtime.NumGoroutine")=false)(hb:fc.body.isNone=true)(hn:Extern.findNext fc=we)(he:Extern.find fc=so e){av:Array Value}(has:args.map a.eval=av)(cJ:∀σ o w,zI ops kds v j σ->σ j=we->S σ o w->∃(y:Value) (t:ae->ae) (evs:Array Event),(∀n,t (w.at n)=(t w).at n)/\((t w).heap.size=w.heap.size/\(t w).os=w.os/\(t w).output=w.output)/\(∀n,(e av).run P (w.at n)=.ok y (t (w.at n)))/\(∀n,(e av).events P (w.at n) #[⟨.mark (.extern f),false,true⟩]=#[⟨.mark (.extern f),false,true⟩]++evs)/\(∀x∈evs,x.sync=true/\(∀g,x.loc≠.mark (.extern g))/\x.loc≠.mark .disable/\x.loc≠.mark .enable)/\S (fM σ j y) o (t w))(h:dL P (BE P (XB P Fin d) fn ops Q S kds v) ops K v l xs (a.put dd (v j))):dL P (BE P (XB P Fin d) fn ops Q S kds v) ops K v (j::l) (we::xs) a:=by
 refine gj ho hd (λA rest σ o w h1 h2 h3 h4 hS hc=>?_) rfl h;have⟨y,t,evs,k1,k2,k3,k4,k5,k6⟩:=cJ σ o w h3 (h4 rfl) hS;exact rA ho (h2.trans hw) eW hf gN hb hn he ((pJ eW h1).trans has) rfl k1 k2.1 k3 k4 k5 (hc y o (t w) k6) k2.2
end
section
variable {P:Program}{w:ae}{ad:Addr}
def EL{k:IntKind}{x:Int}(hc:w.cell? ad=so (.int k x)):(Extern.Atomic.loadT (.int k) #[.pointer (so ad)]).run P w=.ok (.int k x) w:=by
 change Sem.run P (do Extern.Atomic.read (.int k) (<- asAddr (.pointer (so ad)))) w=_;simp[Extern.Atomic.read,asAddr,hc]
def zU{k:IntKind}{x:Int}(hc:w.cell? ad=so (.int k x))(es:Array Event):(Extern.Atomic.loadT (.int k) #[.pointer (so ad)]).events P w es=es.push ⟨.cell ad,false,true⟩:=by
 change Sem.events P (do Extern.Atomic.read (.int k) (<- asAddr (.pointer (so ad)))) w _=_;simp[Extern.Atomic.read,asAddr,hc,events_load]
def EM{p:Option Addr}(hc:w.cell? ad=so (.pointer p)):(Extern.Atomic.loadT .ptr #[.pointer (so ad)]).run P w=.ok (.pointer p) w:=by
 change Sem.run P (do Extern.Atomic.read .ptr (<- asAddr (.pointer (so ad)))) w=_;simp[Extern.Atomic.read,asAddr,hc]
def zV{p:Option Addr}(hc:w.cell? ad=so (.pointer p))(es:Array Event):(Extern.Atomic.loadT .ptr #[.pointer (so ad)]).events P w es=es.push ⟨.cell ad,false,true⟩:=by
 change Sem.events P (do Extern.Atomic.read .ptr (<- asAddr (.pointer (so ad)))) w _=_;simp[Extern.Atomic.read,asAddr,hc,events_load]
def Dj{v u:Value}(hc:w.cell? ad=so u)(hz:w.frozen? ad=false)(hv:v.oneCell'=true):(Extern.Atomic.storeT #[.pointer (so ad),v]).run P w=.ok (.tuple #[]) (w.setCell ad v):=by
 change Sem.run P (do
  store (<- asAddr (.pointer (so ad))) v .atomic
  pure Extern.Atomic.none_) w=_
 simp[asAddr,Extern.Atomic.none_,run_store P w ad v .atomic hv,hc,hz]
def wE{v u:Value}(hc:w.cell? ad=so u)(hz:w.frozen? ad=false)(hv:v.oneCell'=true)(es:Array Event):(Extern.Atomic.storeT #[.pointer (so ad),v]).events P w es=es.push ⟨.cell ad,true,true⟩:=by
 change Sem.events P (do
  store (<- asAddr (.pointer (so ad))) v .atomic
  pure Extern.Atomic.none_) w _=_
 simp[asAddr,hc,hz,events_store P w _ ad v .atomic hv]
end
section
variable {P:Program}{m:Bool}{R:aM->ae->ae->Prop}{Gu:aM->ae->ae->Array Event->Prop}{X:aM->aZ->ae->Prop}{o:aM}{w:ae}{f:FuncId}{Post:Value->aM->ae->Prop}
def He(W:fH P m R Gu X){g:FuncId}{gc:Func}{c:Code}{args tm:Array Value}{ds:List Deferred}(hg:P.funcs[g]?=so gc)(gN:(gc.name == "runtime.NumGoroutine")=false)(fF:gc.body=so c)(h:wq X g c (λe a' o' w'=>(e=.normal\/e=.ret)/\a'.defers=[]/\(∃v,ResultsC P gc a'.tmps v)/\jI X f Post ⟨tm,ds⟩ o' w') {tmps:=args++Array.replicate (gc.ntmps-args.size) undef,defers:=[]} o w):
  jI X f Post ⟨tm,{target:=.fn (.func g) #[],args}::ds⟩ o w:=by
 intro cf cs todo hc;refine W.go rfl (λw1=>stepG_unwind_enter rfl hg gN fF) ?_;have leave:∀(a':Act) (o':aM) (w':ae) (td:List Item),a'.defers=[]->(∃v,ResultsC P gc a'.tmps v)->jI X f Post ⟨tm,ds⟩ o' w'->X o' (G {(baseD g).at a' td with mode:=.returning} ({(base f).at ⟨tm,ds⟩ todo with mode:=.returning}::cf::cs)) w':=by
  rintro a' o' w' td hd ⟨v,hr⟩ hl;exact W.go rfl (λw1=>stepG_leave_deferred (b:=baseD g) rfl hd hg (hr w1).1 (hr w1).2 rfl) (hl cf cs todo hc)
 refine h (baseD g) [] _ rfl (by simp[baseD]) λe a' o' w' q=>?_;obtain⟨he,hd,hr,hl⟩:=q;rcases he with rfl|rfl
 ·exact W.go rfl (λ_=>ew) (leave a' o' w' [] hd hr hl)
 ·exact λtd=>leave a' o' w' td hd hr hl
end
end Go.Ren
namespace Go.Proofs.Kz
open Go.Proofs.Tryz
open Go.Proofs.Tryz renaming prog → ax
open _root_.ByteArray renaming empty → aR
open _root_.Option renaming some → so,none → we
open Go.Ren Go.Conc Go.Proofs Go.ConcN
section
variable {Fin:bL}{o:aM}{w:ae}
def xl(K off:Nat)(x:Int)(hc:w.cell? ⟨K,off,we⟩=so (.int .u32 x)):
  bA ax (XB ax Fin 0) 142 #[.pointer (so ⟨K,off,we⟩)] o w λv o' w'=>v=.bool (x != 0)/\o'=o/\w'=w:=by
 have W:=bY (P:=ax) (Fin:=Fin) (d:=0);refine bD W func142 rfl ?_;walk_nrmf Tryz.f142;refine ay ?_;refine rA rfl ak rfl func182 ai ai ai (e:=Extern.Atomic.loadT (.int .u32)) ai (vs:=#[.pointer (so ⟨K,off,we⟩)]) aK (t:=id) rfl (λn=>rfl) rfl (λn=>EL hc) (λn=>by rw[zU (w:=w.at n) hc];rfl) (yC _ _) ?_;refine ay ?_;exact⟨.inr trivial,trivial,_,resultsC_tmp (t:=2) ak _,aK⟩
def aeE:bA ax (XB ax Fin 0) 202 #[.bool true] o w λv o' w'=>v=.int .u32 1/\o'=o/\w'=w:=by
 have W:=bY (P:=ax) (Fin:=Fin) (d:=0);refine bD W func202 rfl ?_;walk_nrmf Tryz.f202;refine ay ?_;exact⟨.inr trivial,trivial,_,resultsC_tmp (t:=2) ak _,aK⟩
def MI{f:FuncId}{Post:Value->aM->ae->Prop}(K off:Nat)(x:Int)(hc:w.cell? ⟨K,off,we⟩=so (.int .u32 x))(hz:w.frozen? ⟨K,off,we⟩=false)(hF:bO ax L0 o w)(tm:Array Value)(ds:List Deferred)(h:jI (XB ax Fin 0) f Post ⟨tm,ds⟩ o (w.setCell ⟨K,off,we⟩ (.int .u32 1))):jI (XB ax Fin 0) f Post ⟨tm,{target:=.fn (.func 183) #[],args:=#[.pointer (so ⟨K,off,we⟩),.bool true]}::ds⟩ o w:=by
 have W:=bY (P:=ax) (Fin:=Fin) (d:=0);refine He W func183 ai rfl ?_;walk_nrmf Tryz.f183;refine dH mixed ai [so we,so we,so we,so we,so (so (.int .u32 1)),we] (S:=λσ o' w'=>o'=o/\(σ 5=we->w'=w)/\∀y,σ 5=so y->w'=w.setCell ⟨K,off,we⟩ (.int .u32 1)) ⟨rfl,λ_=>rfl,λy hy=>by cases hy⟩ λv=>?_;refine dN ?_;refine cq ?_;refine jO rfl rfl ak rfl func202 ai rfl (av:=#[.bool true]) aK (λσ o' w' H hS=>aeE.mono ?_) ?_
 ·rintro v o2 w2 ⟨rfl,rfl,rfl⟩;exact⟨rfl,hS⟩
 walk_nrm;refine Um rfl rfl ak rfl func201 ai ai ai (e:=Extern.Atomic.storeT) ai (av:=#[.pointer (so ⟨K,off,we⟩),.int .u32 1]) aK (λσ o' w' H h5 hS=>?_) ?_
 ·obtain⟨rfl,h1,-⟩:=hS;obtain rfl:=h1 h5;exact⟨.tuple #[],λw=>w.setCell ⟨K,off,we⟩ (.int .u32 1),#[⟨.cell ⟨K,off,we⟩,true,true⟩],λn=>rfl,⟨yB _ _ _,rfl,rfl⟩,λn=>Dj hc hz rfl,λn=>by rw[wE (w:=World.at _ n) hc hz rfl];rfl,yC _ _,rfl,λh=>by simp[fM]at h,λy _=>rfl⟩
 walk_nrm;refine cu λσ o' w' lP hS=>?_;obtain⟨rfl,-,h2⟩:=hS;obtain rfl:=h2 _ (lP 5 eB rfl);exact⟨.inl trivial,rfl,⟨.tuple #[],λw1=>results_none ai _ _⟩,h⟩
def wF{f:FuncId}{Post:Value->aM->ae->Prop}(K off:Nat)(YW:o K)(hc:w.cell? ⟨K,off,we⟩=so (.int .i32 1))(hz:w.frozen? ⟨K,off,we⟩=false)(tm:Array Value)(ds:List Deferred)(h:jI (XB ax Fin 0) f Post ⟨tm,ds⟩ o (w.setCell ⟨K,off,we⟩ (.int .i32 0))):jI (XB ax Fin 0) f Post ⟨tm,{target:=.fn (.func 46) #[],args:=#[.pointer (so ⟨K,off,we⟩)]}::ds⟩ o w :=
 λcf cs todo Li=>JM K off YW hc hz (base f) tm ds todo (cf::cs) (h cf cs todo Li)
def xm{P:Program}{src dst u e:TypeId}{j:TypeInfo}{cells:Nat}(a:Addr)(hs:P.underlying src=so .unsafePointer)(hd:P.underlying dst=so (.pointer u))(hu:P.info? u=so j)(tJ:w.shape? a.block=so (e,cells))(aeF:liesAt P P.depth e (cells/P.cellsOf e) a.off u 1=true)(es:Array Event):
  (convert src dst (.pointer (so a))).events P w es=es:=by
 simp[convert,run_underlying hs,run_underlying hd,Conv.unsafePointer,Conv.seenAt,viewAt,tJ,variablesAt,aeF,sizeOf,typeInfo,hu,Result.evThen]
def setInfo:∃j,ax.info? 59=so j/\j.size≠0:=by
 have:(ax.info? 59).map (λi=>decide (i.size≠0))=so true:=ai;obtain⟨j,h1,h2⟩:=aaf.1 this;exact⟨j,h1,by simpa using h2⟩
def FJ(K off:Nat)(A:Nat)(x y z:Value)(hc:w.cell? ⟨K,off,we⟩=so (.pointer (so ⟨A,0,we⟩)))(hA:w.heap[A]?=so (.cells #[x,y,z] 59)):
  bA ax (XB ax Fin 0) 49 #[.pointer (so ⟨K,off,we⟩)] o w λv o' w'=>v=.pointer (so ⟨A,0,we⟩)/\o'=o/\w'=w:=by
 have W:=bY (P:=ax) (Fin:=Fin) (d:=0);refine bD W func49 rfl ?_;walk_nrmf Tryz.f49;refine ay ?_;refine rA rfl ak rfl func81 ai ai ai (e:=Extern.Atomic.loadT .ptr) ai (vs:=#[.pointer (so ⟨K,off,we⟩)]) aK (t:=id) rfl (λn=>rfl) rfl (λn=>EM hc) (λn=>by rw[zV (w:=w.at n) hc];rfl) (yC _ _) ?_;walk_nrm;refine Di rfl ak (v:=.pointer (so ⟨A,0,we⟩)) rfl (λn=>?_) (λn x hx=>?_) ?_
 ·obtain⟨j,hj,-⟩:=setInfo;have:=Lib.run_from_unsafe (P:=ax) (w:=w.at n) (src:=116) (dst:=113) (e:=59) (cells:=3) ⟨A,0,we⟩ underlying116 underlying113 hj (by simp[World.shape?,World.at,hA]) ai;simp[go_sem,this]
 ·obtain⟨j,hj,-⟩:=setInfo;have:=xm (P:=ax) (w:=w.at n) (src:=116) (dst:=113) (e:=59) (cells:=3) ⟨A,0,we⟩ underlying116 underlying113 hj (by simp[World.shape?,World.at,hA]) ai #[];simp[go_sem,this]at hx
 refine ay ?_;exact⟨.inr trivial,trivial,_,resultsC_tmp (t:=2) ak _,aK⟩
def Dk(K off:Nat)(A:Nat)(x y z u:Value)(hc:w.cell? ⟨K,off,we⟩=so u)(hz:w.frozen? ⟨K,off,we⟩=false)(hA:w.heap[A]?=so (.cells #[x,y,z] 59)):
  bA ax (XB ax Fin 0) 61 #[.pointer (so ⟨K,off,we⟩),.pointer (so ⟨A,0,we⟩)] o w λv o' w'=>v=.tuple #[]/\o'=o/\w'=w.setCell ⟨K,off,we⟩ (.pointer (so ⟨A,0,we⟩)):=by
 have W:=bY (P:=ax) (Fin:=Fin) (d:=0);refine bD W func61 rfl ?_;walk_nrmf Tryz.f61;refine ay ?_;obtain⟨hA0,-⟩:=fa hA;have hcv:=λn=>run_convert_to_unsafe (P:=ax) (w:=w.at n) underlying113 underlying116 ai hA0;have hce:=λn es=>events_convert_to_unsafe (P:=ax) (w:=w.at n) underlying113 underlying116 ai hA0 es;refine Di rfl ak (v:=.pointer (so ⟨A,0,we⟩)) rfl (λn=>by simp[go_sem,hcv n]) (λn x hx=>by simp[go_sem,hce n]at hx) ?_;walk_nrm;refine rA rfl ak rfl func99 ai ai ai (e:=Extern.Atomic.storeT) ai (vs:=#[.pointer (so ⟨K,off,we⟩),.pointer (so ⟨A,0,we⟩)]) aK (t:=λw=>w.setCell ⟨K,off,we⟩ (.pointer (so ⟨A,0,we⟩))) rfl (λn=>rfl) (yB _ _ _) (λn=>Dj hc hz rfl) (λn=>by rw[wE (w:=w.at n) hc hz rfl];rfl) (yC _ _) ?_;refine ay ?_;exact⟨.inl trivial,trivial,.tuple #[],λw1=>results_none ai _ _,ar⟩
def wD.keep{lo:Nat}{NM:aI->List af}{b7:List aI}{St Or:Nat}{cO:Nat->Nat}{sv v:Value}{w w':ae}(h:wD lo NM b7 St Or cO sv v w)(hz:w.heap.size<=w'.heap.size)(e:∀b,lo<=b->b<w.heap.size->w'.heap[b]?=w.heap[b]?):wD lo NM b7 St Or cO sv v w' where
 val:=h.val
 steps:=jA h.steps (e St h.st.1 h.st.2) (λs hs=>e _ (h.ib s hs) (h.steps.lt s hs)) hz
 ord:=World.rowIs.of_block h.ord (e Or h.or.1 h.or.2)
 src:=ll h.src (ah _) hz e
 st:=⟨h.st.1,by have:=h.st.2;omega⟩
 or:=⟨h.or.1,by have:=h.or.2;omega⟩
 ib:=h.ib
structure lG(o:aM)(w:ae)(p:Option Addr)(Ru c:Nat)(rs:List aI)(NM:aI->List af)(NB:aI->Nat):Prop where
 gF:rs.length<=8
 ptr:rs≠[]->p=so ⟨Ru,0,we⟩
 own:o Ru
 at_:eT w Ru rs
 clr:∀r∈rs,Cl ax L0 o (.slice r.sa r.sl r.sc)
 cl:Cl ax L0 o (.slice p rs.length c)
 nm:∀r∈rs,r.sl=(NM r).length/\(NM r≠[]->r.sa=so ⟨NB r,0,we⟩/\o (NB r))/\eN w (NB r) 0 (NM r)/\(NM r).length<=4
def lG.keep{p:Option Addr}{Ru c:Nat}{rs:List aI}{NM:aI->List af}{NB:aI->Nat}{o':aM}{w':ae}(h:lG o w p Ru c rs NM NB)(nZ:∀b,o b->o' b)(e0:w'.heap[Ru]?=w.heap[Ru]?)(e:∀r∈rs,NM r≠[]->w'.heap[NB r]?=w.heap[NB r]?):lG o' w' p Ru c rs NM NB where
 gF:=h.gF
 ptr:=h.ptr
 own:=nZ _ h.own
 at_:=gR h.at_ e0
 clr r hr:=(h.clr r hr).up nZ
 cl:=h.cl.up nZ
 nm r hr:=by
  have⟨h1,h2,h3,h4⟩:=h.nm r hr;refine⟨h1,λhn=>⟨(h2 hn).1,nZ _ (h2 hn).2⟩,λk hk=>?_,h4⟩;have dE:NM r≠[]:=λe=>by rw[e]at hk;simp at hk
  exact cD h3 (e r hr dE) k hk
def MJ(o:aM)(w:ae)(rs:List aI)(NM:aI->List af)(v:Value)(o':aM)(w':ae):Prop :=
 fT o w v o' w'/\∃b7 St Or cO sv,b7.Perm rs/\(∀i j (hi:i<b7.length) (hj:j<b7.length),i<j->¬qP b7[j] b7[i]<0)/\wD w.heap.size NM b7 St Or cO sv v w'
def nU{w:ae}{b:Nat}{t:TypeId}{c0 c1 c2 c3 c4 c5 c6 c7:Value}(h:w.heap[b]?=so (.cells #[c0,c1,c2,c3,c4,c5,c6,c7] t)):w.cell? ⟨b,0,we⟩=so c0/\w.cell? ⟨b,1,we⟩=so c1/\w.cell? ⟨b,2,we⟩=so c2/\w.cell? ⟨b,3,we⟩=so c3/\w.cell? ⟨b,4,we⟩=so c4/\w.cell? ⟨b,5,we⟩=so c5/\w.cell? ⟨b,6,we⟩=so c6/\w.cell? ⟨b,7,we⟩=so c7/\∀k,w.frozen? ⟨b,k,we⟩=false:=by
 simp[World.cell?,World.frozen?,h]
abbrev K7(c0 c1 c2 c3 c4 c5 c6 c7:Value):Obj:=.cells #[c0,c1,c2,c3,c4,c5,c6,c7] 150
def Xv(hF:bO ax L0 o w)(bb bx Ru c:Nat)(p:Option Addr)(rs:List aI)(NM:aI->List af)(NB:aI->Nat)(hR:lG o w p Ru c rs NM NB)(uL:o bb)(JH:o bx)(c1 c2 c3 c4 c5 c6 c7:Value)(hb:w.heap[bb]?=so (K7 (.slice p rs.length c) c1 c2 c3 c4 c5 c6 c7))(hx:w.cell? ⟨bx,0,we⟩=so (.pointer (so ⟨bb,0,we⟩))):
  bA ax (XB ax Fin 0) 111 #[.pointer (so ⟨bx,0,we⟩)] o w λv o' w'=>v=.tuple #[]/\bO ax L0 o' w'/\∃y0 y1 y2 w2,MJ o w rs NM (.agg #[y0,y1,y2]) o' w2/\eM bb w2 w'/\w'.heap[bb]?=so (K7 (.slice p rs.length c) c1 c2 c3 y0 y1 y2 c7):=by
 have W:=bY (P:=ax) (Fin:=Fin) (d:=0);refine bD W func111 ak ?_;walk_nrmf Tryz.f111;have gx:=hF.lt uL;have hxw:=hF.lt JH;refine dH mixed ai [so (so (.pointer (so ⟨bb,0,we⟩))),so (so (.pointer (so ⟨bb,0,we⟩))),so we,so we,so (so (.slice p rs.length c)),we,so we,so we,we]
  (S:=λσ o' w'=>(σ 8=we/\(o'=grow o w w'/\bO ax L0 o' w'/\w.heap.size<=w'.heap.size/\(∀b,b<w.heap.size->w'.heap[b]?=w.heap[b]?))/\(σ 5=we->o'=o/\w'=w)/\∀y,σ 5=so y->MJ o w rs NM y o' w') \/
   (σ 8≠we/\bO ax L0 o' w'/\∃y0 y1 y2 w2,MJ o w rs NM (.agg #[y0,y1,y2]) o' w2/\eM bb w2 w'/\w'.heap[bb]?=so (K7 (.slice p rs.length c) c1 c2 c3 y0 y1 y2 c7))) ?_ λv=>?_
 ·exact .inl ⟨rfl,⟨(cm _ _).symm,hF,ah _,λ_ _=>rfl⟩,λ_=>⟨rfl,rfl⟩,λy hy=>by cases hy⟩
 refine dN ?_
 iterate 2
  refine dsP (λσ o' w' H hS=>?_) ?_
  ·rcases hS with⟨h8,⟨e1,e2,e3,e4⟩,-,-⟩|⟨h8,-⟩
   ·have mm:o' bx:=by rw[e1];exact .inl JH
    refine⟨e2,mo (bX mm),λwl aW=>?_⟩;simp[go_sem,(aW.cell mm).trans ((cell_of (e4 _ hxw)).trans hx)]
   ·exact absurd (H.xA 8 ai) h8
 refine cq ?_;refine dsP (λσ o' w' H hS=>?_) ?_
 ·rcases hS with⟨h8,⟨e1,e2,e3,e4⟩,-,-⟩|⟨h8,-⟩
  ·have mm:o' bb:=by rw[e1];exact .inl uL
   refine⟨e2,λy hy=>?_,λwl aW=>?_⟩
   ·simp[Op.operands]at hy;subst hy;simp[Act.eval];exact bX mm
   ·simp[go_sem,(aW.cell mm).trans ((cell_of (e4 _ gx)).trans (nU hb).1)]
  ·exact absurd (H.xA 8 ai) h8
 walk_nrm;refine vt rfl rfl ak rfl func112 ai rfl (av:=#[.slice p rs.length c]) aK (λσ o' w' H h5 hS=>?_) ?_
 ·rcases hS with⟨h8,-,hS,-⟩|⟨h8,-⟩
  ·obtain⟨rfl,rfl⟩:=hS h5;refine(Hc hF Ru c p rs hR.gF hR.ptr hR.own hR.at_ hR.clr hR.cl NM NB hR.nm).mono λy o2 w2 hq=>?_;refine .inl ⟨by simpa[fM] using h8,⟨hq.1.own,hq.1.aH,hq.1.size,hq.1.old⟩,λh=>by simp[fM]at h,λz hz=>?_⟩;simp only[fM,if_true,aA]at hz;subst hz;exact hq
  ·exact absurd (H.xA 8 ai) h8
 refine cq ?_;refine pM bS rfl rfl rfl ak ak (λσ o' w' H h8 hS=>?_) ?_
 ·rcases hS with⟨-,⟨e1,e2,e3,e4⟩,-,h6⟩|⟨h8',-⟩
  ·have hq:=h6 _ (H.done 5 ai rfl);have Bs:=hq;obtain⟨N,b7,St,Or,cO,sv,-,-,hL⟩:=Bs;have nK:=hL.val;generalize hol:(eF (mz NM b7) b7.length b7.length).length=ol at nK;have mm:o' bb:=by rw[e1];exact .inl uL
   have nz:=(e4 bb gx).trans hb;refine⟨e2,λy hy=>?_,λwl aX=>aX=((wl.setCell ⟨bb,4,we⟩ (.slice (so ⟨St,0,we⟩) b7.length b7.length)).setCell ⟨bb,5,we⟩ (.slice (so ⟨Or,0,we⟩) ol b7.length)).setCell ⟨bb,6,we⟩ sv,λwl aW=>⟨_,?_,rfl⟩,λwl aX w2 aW hR' bP=>?_⟩
   ·simp[Op.operands]at hy;rcases hy with rfl|rfl
    ·simp[Act.eval];exact bX mm
    ·simp[Act.eval];exact N.cl
   ·obtain⟨-,-,-,-,d4,d5,d6,-,f⟩:=nU ((aW.heap _ mm).trans nz);have hs:=hL.src;rcases hs with⟨rfl,-⟩|⟨g,cap,rfl,-⟩
    ·simp[go_sem,nK,d4,d5,d6,f]
    ·simp[go_sem,nK,d4,d5,d6,f]
   ·have hO:eM bb wl aX:=by rw[hR'];exact wC _ _ _ _ _ _ _ _
    have⟨on,kb,eg⟩:=bP.only aW mm hO;have rj:=bP.aH;rw[eg]at rj |-;refine .inr ⟨by simp[fM],rj,_,_,_,w',nK▸hq,on,?_⟩;rw[kb,hR'];simp[World.setCell,aS,(aW.heap _ mm).trans nz]
  ·exact absurd h8 h8'
 walk_nrm;refine cu λσ o' w' lP hS=>?_;rcases hS with⟨h8,-⟩|⟨-,e1,e2⟩
 ·rw[lP 8 eB rfl]at h8;cases h8
 exact⟨.inl trivial,rfl,.tuple #[],λw1=>results_none ai _ _,rfl,e1,e2⟩
def lG.lock{p:Option Addr}{Ru c bb:Nat}{rs:List aI}{NM:aI->List af}{NB:aI->Nat}{w':ae}(h:lG o w p Ru c rs NM NB)(hO:eM bb w w')(h1:Ru≠bb)(h2:∀r∈rs,NM r≠[]->NB r≠bb):lG o w' p Ru c rs NM NB :=
 h.keep (λ_ hb=>hb) (hO.2 _ h1) λr hr hn=>hO.2 _ (h2 r hr hn)
def aa8{w:ae}{b:Nat}{t:TypeId}{c0 c1 c2 c3 c4 c5 c6 c7:Value}(h:w.heap[b]?=so (.cells #[c0,c1,c2,c3,c4,c5,c6,c7] t))(x:Value):(w.setCell ⟨b,1,we⟩ x).heap[b]?=so (.cells #[c0,x,c2,c3,c4,c5,c6,c7] t)/\(w.setCell ⟨b,2,we⟩ x).heap[b]?=so (.cells #[c0,c1,x,c3,c4,c5,c6,c7] t):=by
 simp[World.setCell,aS,h]
structure sU(o:aM)(w:ae)(bb:Nat)(rs:List aI)(NM:aI->List af)(blk:Value->Value->Value->Obj)(o':aM)(w':ae):Prop where
 aH:bO ax L0 o' w'
 own:o'=grow o w w'
 size:w.heap.size<=w'.heap.size
 old:∀b,b<w.heap.size->b≠bb->w'.heap[b]?=w.heap[b]?
 lay:∃b7 St Or cO sv y0 y1 y2,b7.Perm rs/\(∀i j (hi:i<b7.length) (hj:j<b7.length),i<j->¬qP b7[j] b7[i]<0)/\wD w.heap.size NM b7 St Or cO sv (.agg #[y0,y1,y2]) w'/\w'.heap[bb]?=so (blk y0 y1 y2)
def Un(hF:bO ax L0 o w)(bb bx Ru c:Nat)(p:Option Addr)(rs:List aI)(NM:aI->List af)(NB:aI->Nat)(hR:lG o w p Ru c rs NM NB)(uL:o bb)(JH:o bx)(dE:bx≠bb)(Xn:Ru≠bb)(hNn:∀r∈rs,NM r≠[]->NB r≠bb)(c3 c4 c5 c6 c7:Value)(hb:w.heap[bb]?=so (K7 (.slice p rs.length c) (.int .u32 0) (.int .i32 0) c3 c4 c5 c6 c7))(hx:w.cell? ⟨bx,0,we⟩=so (.pointer (so ⟨bb,0,we⟩))):
  bA ax (XB ax Fin 0) 143 #[.pointer (so ⟨bb,1,we⟩),.func (.func 111) #[] #[.pointer (so ⟨bx,0,we⟩)]] o w λv o' w'=>v=.tuple #[]/\sU o w bb rs NM (λy0 y1 y2=>K7 (.slice p rs.length c) (.int .u32 1) (.int .i32 0) c3 y0 y1 y2 c7) o' w':=by
 have W:=bY (P:=ax) (Fin:=Fin) (d:=0);refine oH W func143 ak ?_;walk_nrmf Tryz.f143;obtain⟨-,d1,d2,-,-,-,-,-,fz⟩:=nU hb;refine ay ?_;refine b5 func45 (C7 bb 2 uL d2 (fz 2)) ?_;rintro v1 o1 w1 ⟨rfl,rfl,rfl⟩;refine ay ?_;refine mq W (d:={target:=.fn (.func 46) #[],args:=#[.pointer (so ⟨bb,2,we⟩)]}) rfl ak (λw1=>fS) (λw1=>fS) rfl ?_;refine ay ?_;have BH:=(aa8 hb (.int .i32 1)).2;have lz:bO ax L0 o1 (w.setCell ⟨bb,2,we⟩ (.int .i32 1)):=Go.Conc.bO.setCell hF dV;have hO1:eM bb w (w.setCell ⟨bb,2,we⟩ (.int .i32 1)):=iX _ _ _ _;generalize w.setCell ⟨bb,2,we⟩ (.int .i32 1)=w1 at *;refine b5 func142 (xl bb 1 0 (nU BH).2.1) ?_;rintro v2 o2 w2 ⟨rfl,rfl,rfl⟩;refine ay ?_;refine mq W (d:={target:=.fn (.func 183) #[],args:=#[.pointer (so ⟨bb,1,we⟩),.bool true]}) rfl ak (λw1=>fS) (λw1=>fS) rfl ?_;refine ay ?_;refine Md W rfl ak rfl (cap:=#[.pointer (so ⟨bx,0,we⟩)]) aK func111 ai rfl aK rfl ((Xv lz bb bx Ru c p rs NM NB (hR.lock hO1 Xn hNn) uL JH (.int .u32 0) (.int .i32 1) c3 c4 c5 c6 c7 BH ((cell_of (hO1.2 _ dE)).trans hx)).mono ?_);rintro v3 o3 w3 ⟨rfl,mJ,y0,y1,y2,w4,⟨N,b7,St,Or,cO,sv,h1,h2,hL⟩,hO3,xB⟩;refine ay ?_;have hz:=N.size;have WY:=hO1.1;have hz3:=hO3.1;have VV:=hF.lt uL;have ai3:o3 bb:=by rw[N.own];exact .inl uL
 obtain⟨-,k1,k2,-,-,-,-,-,kf⟩:=nU xB;have hb4:=(aa8 xB (.int .u32 1)).1;have hb5:=(aa8 hb4 (.int .i32 0)).2;have hO5:eM bb w3 ((w3.setCell ⟨bb,1,we⟩ (.int .u32 1)).setCell ⟨bb,2,we⟩ (.int .i32 0)):=AQ _ _ _ _ _ _;have K5:bO ax L0 o3 ((w3.setCell ⟨bb,1,we⟩ (.int .u32 1)).setCell ⟨bb,2,we⟩ (.int .i32 0)):=Go.Conc.bO.setCell (Go.Conc.bO.setCell mJ dV) dV;refine⟨.inl trivial,MI bb 1 0 k1 (kf 1) mJ _ _ (wF bb 2 ai3 (nU hb4).2.2.1 ((nU hb4).2.2.2.2.2.2.2.2 2) _ _ (mn W func143 rfl (v:=.tuple #[]) (λw1=>results_none ai _ _) ⟨rfl,K5,?_,?_,λb nz hn=>?_,b7,St,Or,cO,sv,y0,y1,y2,h1,h2,?_,hb5⟩))⟩
 ·rw[N.own];unfold grow;rw[hO5.1,hz3,WY]
 ·rw[hO5.1];omega
 ·rw[hO5.2 b hn,hO3.2 b hn,N.old b aa,hO1.2 b hn]
 ·rw[WY]at hL;exact hL.keep (by rw[hO5.1];omega) λb BH pB=>by rw[hO5.2 b aa,hO3.2 b aa]
def ai5(hF:bO ax L0 o w)(bb bx Ru c:Nat)(p:Option Addr)(rs:List aI)(NM:aI->List af)(NB:aI->Nat)(hR:lG o w p Ru c rs NM NB)(uL:o bb)(JH:o bx)(dE:bx≠bb)(Xn:Ru≠bb)(hNn:∀r∈rs,NM r≠[]->NB r≠bb)(c3 c4 c5 c6 c7:Value)(hb:w.heap[bb]?=so (K7 (.slice p rs.length c) (.int .u32 0) (.int .i32 0) c3 c4 c5 c6 c7))(hx:w.cell? ⟨bx,0,we⟩=so (.pointer (so ⟨bb,0,we⟩))):
  bA ax (XB ax Fin 0) 110 #[.pointer (so ⟨bb,1,we⟩),.func (.func 111) #[] #[.pointer (so ⟨bx,0,we⟩)]] o w λv o' w'=>v=.tuple #[]/\sU o w bb rs NM (λy0 y1 y2=>K7 (.slice p rs.length c) (.int .u32 1) (.int .i32 0) c3 y0 y1 y2 c7) o' w':=by
 have W:=bY (P:=ax) (Fin:=Fin) (d:=0);refine bD W func110 ak ?_;walk_nrmf Tryz.f110;refine ay ?_;refine b5 func142 (xl bb 1 0 (nU hb).2.1) ?_;rintro v2 o2 w2 ⟨rfl,rfl,rfl⟩;refine ay ?_;refine b5 func143 (Un hF bb bx Ru c p rs NM NB hR uL JH dE Xn hNn c3 c4 c5 c6 c7 hb hx) ?_;rintro v3 o3 w3 ⟨rfl,hP⟩;refine ay ?_;exact⟨.inl trivial,trivial,.tuple #[],λw1=>results_none ai _ _,rfl,hP⟩
def Xw(bb:Nat)(f c0 c2 c3 c4 c5 c6 c7:Value)(hb:w.heap[bb]?=so (K7 c0 (.int .u32 1) c2 c3 c4 c5 c6 c7)):
  bA ax (XB ax Fin 0) 110 #[.pointer (so ⟨bb,1,we⟩),f] o w λv o' w'=>v=.tuple #[]/\o'=o/\w'=w:=by
 have W:=bY (P:=ax) (Fin:=Fin) (d:=0);refine bD W func110 ak ?_;walk_nrmf Tryz.f110;refine ay ?_;refine b5 func142 (xl bb 1 1 (nU hb).2.1) ?_;rintro v2 o2 w2 ⟨rfl,rfl,rfl⟩;refine ay ?_;exact⟨.inl trivial,trivial,.tuple #[],λw1=>results_none ai _ _,ar⟩
def wD.low{lo Ui:Nat}{NM:aI->List af}{b7:List aI}{St Or:Nat}{cO:Nat->Nat}{sv v:Value}{w:ae}(h:wD lo NM b7 St Or cO sv v w)(hl:Ui<=lo):wD Ui NM b7 St Or cO sv v w where
 val:=h.val
 steps:=h.steps
 ord:=h.ord
 src:=ll h.src hl (ah _) λ_ _ _=>rfl
 st:=⟨by have:=h.st.1;omega,h.st.2⟩
 or:=⟨by have:=h.or.1;omega,h.or.2⟩
 ib s hs:=by have:=h.ib s hs;omega
def sU.after{w1:ae}{bb:Nat}{rs:List aI}{NM:aI->List af}{blk:Value->Value->Value->Obj}{o':aM}{w':ae}(h:sU (grow o w w1) w1 bb rs NM blk o' w')(hz:w.heap.size<=w1.heap.size)(hold:∀b,b<w.heap.size->w1.heap[b]?=w.heap[b]?):sU o w bb rs NM blk o' w' where
 aH:=h.aH
 own:=by rw[h.own];exact grow_grow hz rfl h.size
 size:=by have:=h.size;omega
 old b hb hn:=(h.old b aa hn).trans (hold b hb)
 lay:=by
  have⟨b7,St,Or,cO,sv,y0,y1,y2,h1,h2,h3,h4⟩:=h.lay;exact⟨b7,St,Or,cO,sv,y0,y1,y2,h1,h2,h3.low hz,h4⟩
def MK(hF:bO ax L0 o w)(bb Ru c:Nat)(p:Option Addr)(rs:List aI)(NM:aI->List af)(NB:aI->Nat)(hR:lG o w p Ru c rs NM NB)(uL:o bb)(Xn:Ru≠bb)(hNn:∀r∈rs,NM r≠[]->NB r≠bb)(c3 c4 c5 c6 c7:Value)(hb:w.heap[bb]?=so (K7 (.slice p rs.length c) (.int .u32 0) (.int .i32 0) c3 c4 c5 c6 c7)):
  bA ax (XB ax Fin 0) 73 #[.pointer (so ⟨bb,0,we⟩)] o w λv o' w'=>v=.pointer (so ⟨bb,4,we⟩)/\sU o w bb rs NM (λy0 y1 y2=>K7 (.slice p rs.length c) (.int .u32 1) (.int .i32 0) c3 y0 y1 y2 c7) o' w':=by
 have W:=bY (P:=ax) (Fin:=Fin) (d:=0);refine bD W func73 ak ?_;walk_nrmf Tryz.f73;refine ay ?_;refine dm bS hF rfl ak ak ?_ rfl (R:=λwl v aX=>v=.pointer (so ⟨wl.heap.size,0,we⟩)/\aX=wl.alloc (Obj.cells #[.pointer (so ⟨bb,0,we⟩)] 208)) (λwl aW=>⟨_,_,fS,rfl,rfl⟩) λwl v1 aX w1 aW EK bP=>?_
 ·exact mo (bX uL)
 obtain⟨rfl,EK⟩:=EK;have⟨z1,k1,sV⟩:=bP.alloc hF aW EK;have lz:=bP.aH;rw[aW.size];clear EK bP aW wl aX;have gx:=hF.lt uL;have xy:grow o w w1 w.heap.size:=.inr ⟨ah _,aa⟩;refine ay ?_;have JH:=(Dh sV).1;refine jJ lz xy JH λ_=>?_;refine ay ?_;have hR':lG (grow o w w1) w1 p Ru c rs NM NB:=hR.keep jf (k1 _ (hF.lt hR.own)) λr hr hn=>k1 _ (hF.lt ((hR.nm r hr).2.1 hn).2);refine b5 func110 (ai5 lz bb w.heap.size Ru c p rs NM NB hR' (.inl uL) xy aa Xn hNn c3 c4 c5 c6 c7 ((k1 _ gx).trans hb) JH) ?_;rintro v2 o2 w2 ⟨rfl,hP⟩;refine ay ?_;have hx2:o2 w.heap.size:=by rw[hP.own];exact .inl xy
 have ai6:=(cell_of (a:=⟨w.heap.size,0,we⟩) (hP.old w.heap.size aa aa)).trans JH;refine jJ hP.aH hx2 ai6 λ_=>?_;refine ay ?_;exact⟨.inr trivial,trivial,_,resultsC_tmp (t:=2) ak _,aK,hP.after aa k1⟩
def Dl(hF:bO ax L0 o w)(bb:Nat)(uL:o bb)(c0 c2 c3 c4 c5 c6 c7:Value)(hb:w.heap[bb]?=so (K7 c0 (.int .u32 1) c2 c3 c4 c5 c6 c7)):
  bA ax (XB ax Fin 0) 73 #[.pointer (so ⟨bb,0,we⟩)] o w λv o' w'=>v=.pointer (so ⟨bb,4,we⟩)/\fT o w v o' w':=by
 have W:=bY (P:=ax) (Fin:=Fin) (d:=0);refine bD W func73 ak ?_;walk_nrmf Tryz.f73;refine ay ?_;refine dm bS hF rfl ak ak ?_ rfl (R:=λwl v aX=>v=.pointer (so ⟨wl.heap.size,0,we⟩)/\aX=wl.alloc (Obj.cells #[.pointer (so ⟨bb,0,we⟩)] 208)) (λwl aW=>⟨_,_,fS,rfl,rfl⟩) λwl v1 aX w1 aW EK bP=>?_
 ·exact mo (bX uL)
 obtain⟨rfl,EK⟩:=EK;have⟨z1,k1,sV⟩:=bP.alloc hF aW EK;have lz:=bP.aH;rw[aW.size];clear EK bP aW wl aX;have gx:=hF.lt uL;have xy:grow o w w1 w.heap.size:=.inr ⟨ah _,aa⟩;refine ay ?_;have JH:=(Dh sV).1;refine jJ lz xy JH λ_=>?_;refine ay ?_;refine b5 func110 (Xw bb (.func (.func 111) #[] #[.pointer (so ⟨w.heap.size,0,we⟩)]) c0 c2 c3 c4 c5 c6 c7 ((k1 _ gx).trans hb)) ?_;rintro v2 o2 w2 ⟨rfl,rfl,rfl⟩;refine ay ?_;refine jJ lz xy JH λ_=>?_;refine ay ?_;exact⟨.inr trivial,trivial,_,resultsC_tmp (t:=2) ak _,aK,rfl,lz,aa,k1,by simp[Act.eval];exact bX (.inl uL)⟩
def QJ:(ax.info? 4).map (λi=>(i.zero,i.size,i.bytes))=so (so (.bool false),1,1):=ai
def QK:(ax.info? 207).map (λi=>(i.zero,i.size,i.bytes))=so (so (.chan we),1,8):=ai
def QL:(ax.info? 100).map (λi=>i.bytes)=so 0:=ai
def Dm(w:ae)(n:Nat)(hn:n<=100000):(Instr.makeSlice 182 (.int .i64 (n:Int)) (.int .i64 (n:Int))).run ax w=.ok (.slice (so ⟨w.heap.size,0,we⟩) n n) (w.alloc (.cells (madeCells #[.bool false] n) 4)):=by
 obtain⟨i,hi,hz⟩:=aaf.1 QJ;simp only[bB]at hz;obtain⟨hz,hs,hb⟩:=hz;have:=run_make (P:=ax) w 182 4 i _ underlying182 hi hz .i64 .i64 n n aa (fK _) (by rw[hb];omega) aa;rw[this,hs];simp[Value.cells]
def Dn(w:ae)(n:Nat)(hn:n<=100000):(Instr.makeSlice 204 (.int .i64 (n:Int)) (.int .i64 (n:Int))).run ax w=.ok (.slice (so ⟨w.heap.size,0,we⟩) n n) (w.alloc (.cells (madeCells #[.chan we] n) 207)):=by
 obtain⟨i,hi,hz⟩:=aaf.1 QK;simp only[bB]at hz;obtain⟨hz,hs,hb⟩:=hz;have:=run_make (P:=ax) w 204 207 i _ underlying204 hi hz .i64 .i64 n n aa (fK _) (by rw[hb];omega) aa;rw[this,hs];simp[Value.cells]
def EN(w:ae):(Instr.makeChan 207 (.int .i64 0)).run ax w=.ok (.chan (so w.heap.size)) (w.alloc (.chan 0 #[] false 0 0 false)):=by
 obtain⟨i,hi,hb⟩:=aaf.1 QL;exact run_makeChan underlying207 hi .i64 0 aa (by rw[hb];omega)
structure jR(o:aM)(w:ae)(v0 v1 v2:Value)(n:Nat)(bn Nb Mb:Nat)(ch:Nat->Nat)(k:Nat)(o':aM)(w':ae):Prop where
 own:o'=grow o w w'
 aH:bO ax L0 o' w'
 size:w.heap.size<=w'.heap.size
 old:∀b,b<w.heap.size->w'.heap[b]?=w.heap[b]?
 bn:w.heap.size<=bn/\bn<w'.heap.size/\w'.heap[bn]?=so (.cells #[v0,v1,v2,.slice (so ⟨Nb,0,we⟩) n n,.slice (so ⟨Mb,0,we⟩) n n] 206)
 nb:w.heap.size<=Nb/\Nb<w'.heap.size/\w'.heap[Nb]?=so (.cells (madeCells #[.bool false] n) 4)
 mb:w.heap.size<=Mb/\Mb<w'.heap.size/\w'.rowIs Mb 207 n (λj=>if j<k then .chan (so (ch j))else .chan we)
 pz:∀s,s<k->w.heap.size<=ch s/\ch s<w'.heap.size/\w'.heap[ch s]?=so (.chan 0 #[] false 0 0 false)
 inj:∀s t,s<k->t<k->ch s=ch t->s=t
def jR.more{v0 v1 v2:Value}{n bn Nb Mb k:Nat}{ch:Nat->Nat}{o':aM}{w' w2:ae}(h:jR o w v0 v1 v2 n bn Nb Mb ch k o' w')(hF:bO ax L0 (grow o' w' w2) w2)(hz:w'.heap.size<=w2.heap.size)(hold:∀b,b<w'.heap.size->w2.heap[b]?=w'.heap[b]?):jR o w v0 v1 v2 n bn Nb Mb ch k (grow o' w' w2) w2 where
 own:=by rw[h.own];exact grow_grow h.size rfl hz
 aH:=hF
 size:=by have:=h.size;omega
 old b hb:=(hold b (by have:=h.size;omega)).trans (h.old b hb)
 bn:=⟨h.bn.1,by have:=h.bn.2.1;omega,(hold _ h.bn.2.1).trans h.bn.2.2⟩
 nb:=⟨h.nb.1,by have:=h.nb.2.1;omega,(hold _ h.nb.2.1).trans h.nb.2.2⟩
 mb:=⟨h.mb.1,by have:=h.mb.2.1;omega,World.rowIs.of_block h.mb.2.2 (hold _ h.mb.2.1)⟩
 pz s hs:=⟨(h.pz s hs).1,by have:=(h.pz s hs).2.1;omega,(hold _ (h.pz s hs).2.1).trans (h.pz s hs).2.2⟩
 inj:=h.inj
def jR.put{v0 v1 v2:Value}{n bn Nb Mb k c:Nat}{ch:Nat->Nat}{o':aM}{w' w2:ae}(h:jR o w v0 v1 v2 n bn Nb Mb ch k o' w')(hF:bO ax L0 o' w2)(on:eM Mb w' w2)(hM:w2.heap[Mb]?=(w'.setCell ⟨Mb,k,we⟩ (.chan (so c))).heap[Mb]?)(hc:w.heap.size<=c/\c<w'.heap.size/\w'.heap[c]?=so (.chan 0 #[] false 0 0 false))(tQ:∀s,s<k->ch s≠c):jR o w v0 v1 v2 n bn Nb Mb (λs=>if s=k then c else ch s) (k+1) o' w2:=by
 have hMb:=h.mb.2.2;obtain⟨cs,Pr,-,-⟩:=hMb;have nM:∀b x,w'.heap[b]?=so x->(∀c t z,x=.cells c t z->t≠207)->b≠Mb:=λb x hx ht e=>by
  subst e;rw[Pr]at hx;exact ht _ _ _ (aT hx).symm rfl
 refine⟨?_,hF,by have:=h.size;rw[on.1];exact this,λb hb=>(on.2 b (by have:=h.mb.1;omega)).trans (h.old b hb),⟨h.bn.1,by rw[on.1];exact h.bn.2.1,?_⟩,⟨h.nb.1,by rw[on.1];exact h.nb.2.1,?_⟩,⟨h.mb.1,by rw[on.1];exact h.mb.2.1,?_⟩,λs hs=>?_,λs t hs ht e=>?_⟩
 ·rw[h.own];unfold grow;rw[on.1]
 ·rw[on.2 _ (nM _ _ h.bn.2.2 λc t z e=>by cases e;decide)];exact h.bn.2.2
 ·rw[on.2 _ (nM _ _ h.nb.2.2 λc t z e=>by cases e;decide)];exact h.nb.2.2
 ·refine World.rowIs.of_block ((h.mb.2.2.set k (.chan (so c))).congr λj hj=>?_) hM;by_cases e:j=k
  ·subst e;simp
  ·by_cases e':j<k
   ·rw[if_neg e,if_pos e',if_pos aa,if_neg e]
   ·rw[if_neg e,if_neg e',if_neg aa]
 ·by_cases e:s=k
  ·subst e;simp only[if_true];exact⟨hc.1,by rw[on.1];exact hc.2.1,by rw[on.2 _ (nM _ _ hc.2.2 λc t z e=>by cases e)];exact hc.2.2⟩
  ·simp only[if_neg e];have q:=h.pz s aa;exact⟨q.1,by rw[on.1];exact q.2.1,by rw[on.2 _ (nM _ _ q.2.2 λc t z e=>by cases e)];exact q.2.2⟩
 ·by_cases e1:s=k
  ·by_cases e2:t=k
   ·omega
   ·rw[if_pos e1,if_neg e2]at e;exact absurd e.symm (tQ t aa)
  ·by_cases e2:t=k
   ·rw[if_neg e1,if_pos e2]at e;exact absurd e (tQ s aa)
   ·rw[if_neg e1,if_neg e2]at e;exact h.inj s t aa aa e
structure ai8(o:aM)(w:ae)(v0 v1 v2:Value)(n bn Nb Mb k:Nat)(a:Act)(o':aM)(w':ae):Prop where
 size:a.tmps.size=37
 df:a.defers=[]
 t7:a.eval (.tmp 7)=.pointer (so ⟨bn,0,we⟩)
 t24:a.eval (.tmp 24)=.int .i64 n
 t25:a.eval (.tmp 25)=.int .i64 k
 new:∃ch,jR o w v0 v1 v2 n bn Nb Mb ch k o' w'
def Dp{w:ae}{b:Nat}{t:TypeId}{c0 c1 c2 c3 c4:Value}(h:w.heap[b]?=so (.cells #[c0,c1,c2,c3,c4] t)):w.cell? ⟨b,0,we⟩=so c0/\w.cell? ⟨b,1,we⟩=so c1/\w.cell? ⟨b,2,we⟩=so c2/\w.cell? ⟨b,3,we⟩=so c3/\w.cell? ⟨b,4,we⟩=so c4/\∀k,w.frozen? ⟨b,k,we⟩=false:=by
 simp[World.cell?,World.frozen?,h]
def ML(hF:bO ax L0 o w)(Lb Lo Vb nv Rb n:Nat)(hn:n<=1000)(hLb:o Lb)(Y7:o Vb)(JP:o Rb):
  bA ax (XB ax Fin 0) 72 #[.pointer (so ⟨Lb,Lo,we⟩),.slice (so ⟨Vb,0,we⟩) nv nv,.slice (so ⟨Rb,0,we⟩) n n] o w λv o' w'=>∃bn Nb Mb ch,v=.pointer (so ⟨bn,0,we⟩)/\jR o w (.pointer (so ⟨Lb,Lo,we⟩)) (.slice (so ⟨Vb,0,we⟩) nv nv) (.slice (so ⟨Rb,0,we⟩) n n) n bn Nb Mb ch n o' w':=by
 have W:=bY (P:=ax) (Fin:=Fin) (d:=0);refine bD W func72 ak ?_;walk_nrmf Tryz.f72;refine ay ?_;refine dH mixed ai [so we,so we,so we,so we,so we,we,so we,so we,we,so we,we,so we]
  (S:=λσ o' w'=>(o'=grow o w w'/\bO ax L0 o' w'/\w.heap.size<=w'.heap.size/\(∀b,b<w.heap.size->w'.heap[b]?=w.heap[b]?)) /\
   (∀y,σ 5=so y->∃Nb,y=.slice (so ⟨Nb,0,we⟩) n n/\w.heap.size<=Nb/\Nb<w'.heap.size/\w'.heap[Nb]?=so (.cells (madeCells #[.bool false] n) 4)) /\
   (∀y,σ 8=so y->∃Mb,y=.slice (so ⟨Mb,0,we⟩) n n/\w.heap.size<=Mb/\Mb<w'.heap.size/\w'.heap[Mb]?=so (.cells (madeCells #[.chan we] n) 207)) /\
   (∀y,σ 10=so y->∃bn y5 y8,σ 5=so y5/\σ 8=so y8/\y=.pointer (so ⟨bn,0,we⟩)/\w.heap.size<=bn/\bn<w'.heap.size/\w'.heap[bn]?=so (.cells #[.pointer (so ⟨Lb,Lo,we⟩),.slice (so ⟨Vb,0,we⟩) nv nv,.slice (so ⟨Rb,0,we⟩) n n,y5,y8] 206))) ?_ λv=>?_
 ·exact⟨⟨(cm _ _).symm,hF,ah _,λ_ _=>rfl⟩,λy hy=>(by cases hy),λy hy=>(by cases hy),λy hy=>(by cases hy)⟩
 refine dN ?_;refine cq ?_;refine qp bS rfl rfl rfl ak ak (λσ o' w' H hj hS=>?_) ?_
 ·obtain⟨⟨e1,e2,e3,e4⟩,s5,s8,lY⟩:=hS;refine⟨e2,λy hy=>?_,λwl v aX=>v=.slice (so ⟨wl.heap.size,0,we⟩) n n/\aX=wl.alloc (.cells (madeCells #[.bool false] n) 4),λwl aW=>⟨_,_,by simp[go_sem,Dm wl n aa],rfl,rfl⟩,λwl y aX w2 aW hR bP=>?_⟩
  ·simp[Op.operands]at hy;subst hy;simp[Act.eval];exact dV
  ·obtain⟨rfl,hR⟩:=hR;have⟨z1,k1,sV⟩:=bP.alloc e2 aW hR;have nD:σ 10=we:=by
    cases h:σ 10 with
    |none=>rfl
    |some y=>have⟨_,y5,y8,q5,q8,_⟩:=lY y h;rw[hj]at q5;cases q5
   rw[aW.size];refine⟨⟨by rw[e1];exact grow_grow e3 rfl aa,bP.aH,aa,λb hb=>(k1 b aa).trans (e4 b hb)⟩,λy hy=>?_,λy hy=>?_,λy hy=>?_⟩
   ·simp only[fM,if_true,aA]at hy;exact⟨w'.heap.size,hy.symm,e3,aa,sV⟩
   ·simp only[fM,show ¬(8=5) by omega,if_false]at hy;have⟨b,q1,q2,q3,q4⟩:=s8 y hy;exact⟨b,q1,q2,aa,(k1 b q3).trans q4⟩
   ·simp[fM,nD]at hy
 refine cq ?_;refine qp bS rfl rfl rfl ak ak (λσ o' w' H hj hS=>?_) ?_
 ·obtain⟨⟨e1,e2,e3,e4⟩,s5,s8,lY⟩:=hS;refine⟨e2,λy hy=>?_,λwl v aX=>v=.slice (so ⟨wl.heap.size,0,we⟩) n n/\aX=wl.alloc (.cells (madeCells #[.chan we] n) 207),λwl aW=>⟨_,_,by simp[go_sem,Dn wl n aa],rfl,rfl⟩,λwl y aX w2 aW hR bP=>?_⟩
  ·simp[Op.operands]at hy;subst hy;simp[Act.eval];exact dV
  ·obtain⟨rfl,hR⟩:=hR;have⟨z1,k1,sV⟩:=bP.alloc e2 aW hR;have nD:σ 10=we:=by
    cases h:σ 10 with
    |none=>rfl
    |some y=>have⟨_,y5,y8,q5,q8,_⟩:=lY y h;rw[hj]at q8;cases q8
   rw[aW.size];refine⟨⟨by rw[e1];exact grow_grow e3 rfl aa,bP.aH,aa,λb hb=>(k1 b aa).trans (e4 b hb)⟩,λy hy=>?_,λy hy=>?_,λy hy=>?_⟩
   ·simp only[fM,show ¬(5=8) by omega,if_false]at hy;have⟨b,q1,q2,q3,q4⟩:=s5 y hy;exact⟨b,q1,q2,aa,(k1 b q3).trans q4⟩
   ·simp only[fM,if_true,aA]at hy;exact⟨w'.heap.size,hy.symm,e3,aa,sV⟩
   ·simp[fM,nD]at hy
 walk_nrm;refine yq ((∃x,v 5=.slice x n n)/\∃x,v 8=.slice x n n) (.agg #[.pointer (so ⟨Lb,Lo,we⟩),.slice (so ⟨Vb,0,we⟩) nv nv,.slice (so ⟨Rb,0,we⟩) n n,v 5,v 8]) rfl rfl rfl ak (λσ o' w' H hS=>?_) (λhv w1=>?_) (λhv w1=>?_) λy9 hy9=>?_
 ·obtain⟨Nb,q1,-⟩:=hS.2.1 _ (H.done 5 ai rfl);obtain⟨Mb,q2,-⟩:=hS.2.2.1 _ (H.done 8 ai rfl);exact⟨⟨_,q1⟩,_,q2⟩
 ·obtain⟨⟨x,hx⟩,y,hy⟩:=hv;simp[go_sem,Act.eval,hx,hy]
 ·obtain⟨⟨x,hx⟩,y,hy⟩:=hv;simp[go_sem,Act.eval,hx,hy]
 walk_nrm;refine qp bS rfl rfl rfl ak ak (λσ o' w' H hj hS=>?_) ?_
 ·have d5:=H.Jd [9] 5 ai rfl;have d8:=H.Jd [9] 8 ai rfl;obtain⟨⟨e1,e2,e3,e4⟩,s5,s8,lY⟩:=hS;have⟨Nb,q1,q2,q3,q4⟩:=s5 _ d5;have⟨Mb,r1,r2,r3,r4⟩:=s8 _ d8;have hy:=hy9 ⟨⟨_,q1⟩,_,r1⟩;have up:∀b,o b->o' b:=λb hb=>by rw[e1];exact .inl hb
  have Xx:o' Nb:=by rw[e1];exact .inr ⟨q2,q3⟩
  have hMb:o' Mb:=by rw[e1];exact .inr ⟨r2,r3⟩
  refine⟨e2,λy Oo=>?_,λwl y aX=>y=.pointer (so ⟨wl.heap.size,0,we⟩)/\aX=wl.alloc (.cells #[.pointer (so ⟨Lb,Lo,we⟩),.slice (so ⟨Vb,0,we⟩) nv nv,.slice (so ⟨Rb,0,we⟩) n n,v 5,v 8] 206),λwl aW=>⟨_,_,by rw[q1,r1]at hy;simp[go_sem,hy,q1,r1],rfl,rfl⟩,λwl y aX w2 aW hR bP=>?_⟩
  ·simp[Op.operands]at Oo;subst Oo;simp[Act.eval];rw[hy,q1,r1];exact fW (vs:=[_,_,_,_,_]) (λx hx=>by
    simp at hx;rcases hx with rfl|rfl|rfl|rfl|rfl
    ·exact bX (up _ hLb)
    ·exact dW (up _ Y7)
    ·exact dW (up _ JP)
    ·exact dW Xx
    ·exact dW hMb)
  ·obtain⟨rfl,hR⟩:=hR;have⟨z1,k1,sV⟩:=bP.alloc e2 aW hR;rw[aW.size];refine⟨⟨by rw[e1];exact grow_grow e3 rfl aa,bP.aH,aa,λb hb=>(k1 b aa).trans (e4 b hb)⟩,λy hy=>?_,λy hy=>?_,λy hy=>?_⟩
   ·simp only[fM,show ¬(5=10) by omega,if_false]at hy;have⟨b,q1,q2,q3,q4⟩:=s5 y hy;exact⟨b,q1,q2,aa,(k1 b q3).trans q4⟩
   ·simp only[fM,show ¬(8=10) by omega,if_false]at hy;have⟨b,q1,q2,q3,q4⟩:=s8 y hy;exact⟨b,q1,q2,aa,(k1 b q3).trans q4⟩
   ·simp only[fM,if_true,aA]at hy;exact⟨w'.heap.size,v 5,v 8,by simpa[fM] using d5,by simpa[fM] using d8,hy.symm,e3,aa,sV⟩
 refine cq ?_;refine cu λσ o1 w1 lP hS=>?_;obtain⟨⟨e1,e2,e3,e4⟩,s5,s8,lY⟩:=hS;have⟨bn,y5,y8,t5,t8,hbn,b1,b2,b3⟩:=lY _ (lP 10 eB rfl);obtain⟨Nb,rfl,n1,n2,n3⟩:=s5 _ t5;obtain⟨Mb,rfl,m1,m2,m3⟩:=s8 _ t8;rw[hbn];have hB:jR o w (.pointer (so ⟨Lb,Lo,we⟩)) (.slice (so ⟨Vb,0,we⟩) nv nv) (.slice (so ⟨Rb,0,we⟩) n n) n bn Nb Mb (λ_=>0) 0 o1 w1 :=
  ⟨e1,e2,e3,e4,⟨b1,b2,b3⟩,⟨n1,n2,n3⟩,⟨m1,m2,⟨_,m3,by simp[size_madeCells],λj hj=>by simp[madeCells,hj,Nat.mod_one]⟩⟩,λs hs=>aa,λs t hs=>aa⟩
 clear s5 s8 lY t5 t8 lP hbn e1 e2 e3 e4 b1 b2 b3 n1 n2 n3 m1 m2 m3;have aa9:o1 bn:=by rw[hB.own];exact .inr ⟨hB.bn.1,hB.bn.2.1⟩
 simp only[ij,dz,if_true,if_false,reduceIte,Nat.reduceEqDiff];refine ay ?_;obtain⟨-,-,-,-,c4,-⟩:=Dp hB.bn.2.2;refine jJ hB.aH aa9 c4 λ_=>?_;refine ay ?_;refine gT W (λm a o' w'=>∃k,m+k=n/\ai8 o w (.pointer (so ⟨Lb,Lo,we⟩)) (.slice (so ⟨Vb,0,we⟩) nv nv) (.slice (so ⟨Rb,0,we⟩) n n) n bn Nb Mb k a o' w') (N:=n) ⟨0,ar,rfl,rfl,aK,aK,aK,_,hB⟩ ?_;clear hB c4 aa9 hy9;rintro m a o1 w1 ⟨k,HO,fy,kN,i7,i24,i25,ch,hB⟩;obtain⟨gs,rfl⟩:=il fy kN;clear fy kN;simp only[List.range,List.range.loop,aC,aP]at i7 i24 i25 |-;simp[Act.eval]at i7 i24 i25;simp only[i7,i24,i25];clear i7 i24 i25;rcases bg m with hm|hm
 ·have hk:k=n:=aa;subst hk;refine ay ?_;exact⟨.inr trivial,trivial,_,resultsC_tmp (t:=6) ak _,bn,Nb,Mb,ch,aK,hB⟩
 ·have hk:k<n:=aa;have R1:(k:Int)<(n:Int):=aa;have aa9:o1 bn:=by rw[hB.own];exact .inr ⟨hB.bn.1,hB.bn.2.1⟩
  have ap3:o1 Mb:=by rw[hB.own];exact .inr ⟨hB.mb.1,hB.mb.2.1⟩
  obtain⟨-,-,-,-,c4,-⟩:=Dp hB.bn.2.2;refine ay ?_;generalize O4:(Value.pointer (so ⟨Lb,Lo,we⟩))=v0 at *;generalize HZ:(Value.slice (so ⟨Vb,0,we⟩) nv nv)=v1 at *;generalize KT:(Value.slice (so ⟨Rb,0,we⟩) n n)=v2 at *;refine dH mixed ai [so we,so we,so we,so (so (.slice (so ⟨Mb,0,we⟩) n n)),so we,we,so we,we]
   (S:=λσ o' w'=>(σ 7=we/\jR o w v0 v1 v2 n bn Nb Mb ch k o' w'/\∀y,σ 5=so y->∃c,y=.chan (so c)/\(w.heap.size<=c/\c<w'.heap.size/\w'.heap[c]?=so (.chan 0 #[] false 0 0 false))/\∀s,s<k->ch s≠c)\/(σ 7≠we/\∃ch',jR o w v0 v1 v2 n bn Nb Mb ch' (k+1) o' w')) ?_ λv=>?_
  ·exact .inl ⟨rfl,hB,λy hy=>by cases hy⟩
  refine dN ?_;refine cq ?_;refine dsP (λσ o' w' H hS=>?_) ?_
  ·rcases hS with⟨h7,ze,-⟩|⟨h7,-⟩
   ·have mm:o' bn:=by rw[ze.own];exact .inr ⟨ze.bn.1,ze.bn.2.1⟩
    obtain⟨-,-,-,-,c4',-⟩:=Dp ze.bn.2.2;refine⟨ze.aH,λy hy=>?_,λwl aW=>?_⟩
    ·simp[Op.operands]at hy;subst hy;simp[Act.eval];exact bX mm
    ·simp[go_sem,(aW.cell mm).trans c4']
   ·exact absurd (H.qJ [6] 7 ai) h7
  refine cq ?_;refine qp bS rfl rfl rfl ak ak (λσ o' w' H h5 hS=>?_) ?_
  ·rcases hS with⟨h7,ze,-⟩|⟨h7,-⟩
   ·refine⟨ze.aH,λy hy=>?_,λwl y aX=>y=.chan (so wl.heap.size)/\aX=wl.alloc (.chan 0 #[] false 0 0 false),λwl aW=>⟨_,_,by simp[go_sem,EN],rfl,rfl⟩,λwl y aX w2 aW hR bP=>?_⟩
    ·simp[Op.operands]at hy;subst hy;simp[Act.eval];exact dV
    ·obtain⟨rfl,hR⟩:=hR;have⟨z1,k1,sV⟩:=bP.alloc ze.aH aW hR;rw[aW.size];refine .inl ⟨by simpa[fM] using h7,ze.more bP.aH aa k1,λy hy=>?_⟩;simp only[fM,if_true,aA]at hy;exact⟨w'.heap.size,hy.symm,⟨ze.size,aa,sV⟩,λs hs e=>by have:=(ze.pz s hs).2.1;omega⟩
   ·exact absurd (H.xA 7 ai) h7
  refine cq ?_;refine pM bS rfl rfl rfl ak ak (λσ o' w' H h7 hS=>?_) ?_
  ·rcases hS with⟨-,ze,h6⟩|⟨h7',-⟩
   ·have⟨c,hc,Yv,hc3⟩:=h6 _ (H.done 5 ai rfl);have hM':o' Mb:=by rw[ze.own];exact .inr ⟨ze.mb.1,ze.mb.2.1⟩
    have Fa:o' c:=by rw[ze.own];exact .inr ⟨Yv.1,Yv.2.1⟩
    refine⟨ze.aH,λy hy=>?_,λwl aX=>aX=wl.setCell ⟨Mb,k,we⟩ (.chan (so c)),λwl aW=>⟨_,?_,rfl⟩,λwl aX w2 aW hR bP=>?_⟩
    ·simp[Op.operands]at hy;rcases hy with rfl|rfl
     ·simp[Act.eval];exact bX hM'
     ·simp[Act.eval,hc];exact λf hf=>by simp[val,hf.at_ c Fa,mI]
    ·have rl':=World.rowIs.of_block ze.mb.2.2 (aW.heap _ hM');have q0:=rl'.cell hk;have f:=rl'.frozen;simp[go_sem,hc,q0,f]
    ·have hO:eM Mb wl aX:=by rw[hR];exact iX _ _ _ _
     have⟨on,kb,eg⟩:=bP.only aW hM' hO;have rj:=bP.aH;rw[eg]at rj |-;refine .inr ⟨by simp[fM],_,ze.put rj on ?_ Yv hc3⟩;rw[kb,hR];simp only[World.setCell,aS,if_true,aW.heap _ hM']
   ·exact absurd h7 h7'
  walk_nrm;refine cu λσ o' w' lP hS=>?_;rcases hS with⟨h7,-⟩|⟨-,ch',ze⟩
  ·rw[lP 7 eB rfl]at h7;cases h7
  simp only[ij,dz,if_true,if_false,reduceIte,Nat.reduceEqDiff];refine ay ?_;have zy:IntKind.i64.wrap ((k:Int)+1)=((k+1:Nat):Int):=by rw[IntKind.wrap_i64]<;>omega
  exact⟨m-1,aa,k+1,aa,rfl,rfl,rfl,rfl,by simp[Act.eval,zy],ch',ze⟩
end
section
open Go.RowKit
def oP(w:ae)(b:Nat)(ss:List (V×Int)):Prop:=∀i (h:i<ss.length),w.cell? ⟨b,i*3,we⟩=so (.bool ss[i].1.1)/\w.cell? ⟨b,i*3+1,we⟩=so (.string ss[i].1.2)/\w.cell? ⟨b,i*3+2,we⟩=so (.int .i64 ss[i].2)
def oP.below{w w':ae}{b:Nat}{ss:List (V×Int)}(h:oP w b ss)(hb:b<w.heap.size)(hw:Below w.heap.size w w'):oP w' b ss:=λk hk=>by
 obtain⟨hc,-⟩:=wv hw;rw[hc _ _ hb,hc _ _ hb,hc _ _ hb];exact h k hk
def yJ{w w':ae}{b:Nat}{ss:List (V×Int)}(h:oP w b ss)(e:w'.heap[b]?=w.heap[b]?):oP w' b ss:=λi hi=>⟨(Go.Ren.cell_of e).trans (h i hi).1,(Go.Ren.cell_of e).trans (h i hi).2.1,(Go.Ren.cell_of e).trans (h i hi).2.2⟩
def Xy{w:ae}{B t n k:Nat}{vs:List V}(cp:w.rowIs B t (n*2) λj=>if j<k*2 then ef vs j else ef [] j){b:Bool}{x:af}(hl:vs.getD k V0=(b,x)):
  ((w.setCell ⟨B,k*2,we⟩ (.bool b)).setCell ⟨B,k*2+1,we⟩ (.string x)).rowIs B t (n*2) λj=>if j<(k+1)*2 then ef vs j else ef [] j:=by
 refine((cp.set (k*2) _).set (k*2+1) _).congr λj hj=>?_;by_cases e1:j=k*2+1
 ·subst e1;rw[if_pos rfl,if_pos aa];have h1:(k*2+1)%2=1:=aa;have h2:(k*2+1)/2=k:=aa;simp only[ef,h1,h2,hl];rfl
 ·by_cases e2:j=k*2
  ·subst e2;rw[if_neg e1,if_pos rfl,if_pos aa];have h1:(k*2)%2=0:=aa;have h2:(k*2)/2=k:=aa;simp only[ef,h1,h2,hl];rfl
  ·rw[if_neg e1,if_neg e2];by_cases e3:j<k*2
   ·rw[if_pos e3,if_pos aa]
   ·rw[if_neg e3,if_neg aa]
def Dq(b c:Nat)(p:Option Addr)(ss:List (V×Int))(w:ae)(hn:ss.length<=100000)(hp:ss≠[]->p=so ⟨b,0,we⟩/\b<w.heap.size)(hv:oP w b ss):
  Calls ax 141 #[.slice p ss.length c] w λe w'=>e=.returned (.slice (so ⟨w.heap.size,0,we⟩) ss.length ss.length)/\Below w.heap.size w w'/\w.heap.size<w'.heap.size/\eZ w' w.heap.size (ss.map (·.1)):=by
 have HO:=λw=>rK w ss.length hn;go_enter func141,ntmps141;go_wp2;go_loopw [11] (λi w'=>∃k:Nat,k<=ss.length/\i=.int .i64 k/\Below w.heap.size w w'/\w.heap.size<w'.heap.size/\w'.rowIs w.heap.size 159 (ss.length*2) (λj=>if j<k*2 then ef (ss.map (·.1)) j else ef [] j)) (λi _=>ss.length-(intOf i).toNat)
 case atStart =>
  refine⟨0,aV _,rfl,(Below.refl _ _).alloc (ah _) _,ar,_,jQ _ _,by simp[size_madeCells],λj hj=>?_⟩;simp only[madeCells,aL,Array.getElem?_range,hj,if_true,aJ];rcases fj j with e|e<;>simp[e,ef,V0]
 case round =>
  obtain⟨k,hk,rfl,gx,hz,cp⟩:=hrel;by_cases cx:k<ss.length
  ·obtain⟨rfl,hb⟩:=hp (nlt cx);have⟨c0,c1,c2⟩:=hv.below hb gx k cx;have d0:wr.cell? ⟨w.heap.size,k*2,we⟩=so (.bool false):=by rw[cp.cell aa,if_neg aa];simp[ef,V0]
   have d1:wr.cell? ⟨w.heap.size,k*2+1,we⟩=so (.string aR):=by rw[cp.cell aa,if_neg aa];simp[ef,V0]
   have f0:=cp.frozen;have Om:(ss.map (·.1)).getD k V0=ss[k].1:=by simp[cx]
   generalize ss[k]=x at *;obtain⟨⟨xb,xt⟩,xs⟩:=x;clear hv hp;go_wp2;refine⟨⟨k+1,aa,by go_num,((gx.setCell (ah _) _).setCell (ah _) _).alloc (by simp[World.setCell];omega) _,by simp[World.setCell];omega,?_⟩,by simp[intOf];omega⟩;exact(Xy cp Om).alloc _
  ·go_wp2;go_ret;exact⟨rfl,gx,hz,by unfold eZ;rw[bT];exact cp.congr λi hi=>by rw[if_pos aa]⟩
section
variable {Fin:bL}{o:aM}{w:ae}
def Hf(hF:bO ax L0 o w)(b c:Nat)(p:Option Addr)(ss:List (Kz.V×Int))(hn:ss.length<=100000)(hp:ss≠[]->p=so ⟨b,0,we⟩/\o b)(hv:oP w b ss)(hc:Cl ax L0 o (.slice p ss.length c)):
  bA ax (XB ax Fin 0) 141 #[.slice p ss.length c] o w λv o' w'=>fT o w v o' w'/\v=.slice (so ⟨w.heap.size,0,we⟩) ss.length ss.length/\w.heap.size<w'.heap.size/\eZ w' w.heap.size (ss.map (·.1)):=by
 refine bA.mono (ek ai hF (λx hx=>by simp at hx;subst hx;exact hc) (Q:=λwl v w'=>v=.slice (so ⟨wl.heap.size,0,we⟩) ss.length ss.length/\wl.heap.size<w'.heap.size/\eZ w' wl.heap.size (ss.map (·.1))) (λwl AP v w1 w2 e1 e2 h=>?_) (λwl hz aW=>?_)) (λv o' w' hq=>?_)
 ·rw[e1,e2];exact⟨h.1,h.2.1,World.rowIs.of_block h.2.2 (by rw[e2])⟩
 ·refine(Dq b c p ss wl hn (λh=>⟨(hp h).1,by rw[hz];exact hF.lt (hp h).2⟩) (λi hi=>?_)).mono λe w' hq=>?_
  ·exact yJ hv (aW b (hp (nlt hi)).2) i hi
  ·obtain⟨rfl,h1,h2,h3⟩:=hq;exact⟨_,rfl,h1.size,λb hb=>h1.block b hb,rfl,h2,h3⟩
 ·obtain⟨hN,wl,aX,z1,z2,hs,rfl,h2,h3⟩:=hq;rw[z1]at h2 h3 hN |-;exact⟨hN,rfl,aa,World.rowIs.of_block h3 (hs _ (ah _) aa)⟩
def wG{w w':ae}{bn Lb Lo St Rb Nb n:Nat}{out:Nat->af}{eO:Nat->Int}{ins:Nat->List (Bool×Nat)}{cO:Nat->Nat}{res:Nat->Kz.V}{gD:Nat->Bool}(h:pR w bn Lb Lo St Rb Nb n out eO ins cO res gD)(hz:w'.heap.size=w.heap.size)(e:∀b,b=bn\/b=Lb\/b=St\/b=Rb\/b=Nb\/(∃s,s<n/\b=cO s)->w'.heap[b]?=w.heap[b]?):pR w' bn Lb Lo St Rb Nb n out eO ins cO res gD where
 b0:=(cell_of (e bn (.inl rfl))).trans h.b0
 b2:=(cell_of (e bn (.inl rfl))).trans h.b2
 b3:=(cell_of (e bn (.inl rfl))).trans h.b3
 st:=(cell_of (e Lb (.inr (.inl rfl)))).trans h.st
 steps:=jA h.steps (e St (.inr (.inr (.inl rfl)))) (λs hs=>e _ (.inr (.inr (.inr (.inr (.inr ⟨s,hs,rfl⟩)))))) aa
 r2 s hs:=(cell_of (e Rb (.inr (.inr (.inr (.inl rfl)))))).trans (h.r2 s hs)
 r3 s hs:=(cell_of (e Rb (.inr (.inr (.inr (.inl rfl)))))).trans (h.r3 s hs)
 gD s hs:=(cell_of (e Nb (.inr (.inr (.inr (.inr (.inl rfl))))))).trans (h.gD s hs)
 lbn:=by rw[hz];exact h.lbn
 lLb:=by rw[hz];exact h.lLb
 lSt:=by rw[hz];exact h.lSt
 lRb:=by rw[hz];exact h.lRb
 lNb:=by rw[hz];exact h.lNb
def QM(hF:bO ax L0 o w)(bn Lb Lo St Rb Nb n:Nat)(out:Nat->af)(eO:Nat->Int)(ins:Nat->List (Bool×Nat))(cO:Nat->Nat)(res:Nat->Kz.V)(gD:Nat->Bool)(hn:n<=1000)(h:pR w bn Lb Lo St Rb Nb n out eO ins cO res gD)(ho:∀b,b=bn\/b=Lb\/b=St\/b=Rb\/b=Nb\/(∃s,s<n/\b=cO s)->o b):
  bA ax (XB ax Fin 0) 75 #[.pointer (so ⟨bn,0,we⟩)] o w λv o' w'=>fT o w v o' w'/\v=.slice (so ⟨w.heap.size,0,we⟩) n n/\w.heap.size<w'.heap.size/\w'.rowIs w.heap.size 65 (n*3) (gS out res n):=by
 refine bA.mono (ek ai hF (λx hx=>by simp at hx;subst hx;exact bX (ho bn (.inl rfl))) (Q:=λwl v w'=>v=.slice (so ⟨wl.heap.size,0,we⟩) n n/\wl.heap.size<w'.heap.size/\w'.rowIs wl.heap.size 65 (n*3) (gS out res n)) (λwl AP v w1 w2 e1 e2 h=>?_) (λwl hz aW=>?_)) (λv o' w' hq=>?_)
 ·rw[e1,e2];exact⟨h.1,h.2.1,World.rowIs.of_block h.2.2 (by rw[e2])⟩
 ·refine(JZ bn Lb Lo St Rb Nb n out eO ins cO res gD wl hn (wG h hz λb hb=>aW b (ho b hb))).mono λe w' hq=>?_;obtain⟨rfl,h1,h2,h3⟩:=hq;exact⟨_,rfl,h1.size,λb hb=>h1.block b hb,rfl,h2,h3⟩
 ·obtain⟨hN,wl,aX,z1,z2,hs,rfl,h2,h3⟩:=hq;rw[z1]at h2 h3 hN |-;exact⟨hN,rfl,aa,World.rowIs.of_block h3 (hs _ (ah _) aa)⟩
def uM{lo:Nat}{ts:List af}{v:Value}{w wl:ae}(h:wl.ownsRow lo 9 1 v ts.length (ts.map .string))(hs:∀b,lo<=b->b<w.heap.size->w.heap[b]?=wl.heap[b]?)(hz:wl.heap.size=w.heap.size):gY lo ts v w:=by
 obtain⟨hl,hc⟩:=h;rcases hc with⟨rfl,h2⟩|⟨g,cap,cur,rfl,h1,h2,h3,h4,h5,h6⟩
 ·exact .inl ⟨rfl,aal.1 h2⟩
 ·have hg:g<w.heap.size:=by rw[<- hz];exact(aad.1 h2).1
  refine .inr ⟨g,cap,rfl,h3,h1,hg,λk hk=>?_⟩;have hb:=(hs g h1 hg).trans h2;have:(cur.toList.take (ts.length*1))[k]?=(ts.map Value.string)[k]?:=by rw[h6]
  rw[fD aa]at this;simp[World.cell?,hb];simpa[hk] using this
def QN(hF:bO ax L0 o w)(bn Lb Lo St Rb Nb n:Nat)(out:Nat->af)(eO:Nat->Int)(ins:Nat->List (Bool×Nat))(cO:Nat->Nat)(res:Nat->Kz.V)(gD:Nat->Bool)(hn:n<=1000)(h:pR w bn Lb Lo St Rb Nb n out eO ins cO res gD)(ho:∀b,b=bn\/b=Lb\/b=St\/b=Rb\/b=Nb\/(∃s,s<n/\b=cO s)->o b):
  bA ax (XB ax Fin 0) 76 #[.pointer (so ⟨bn,0,we⟩)] o w λv o' w'=>fT o w v o' w'/\gY w.heap.size (mw out gD n) v w':=by
 refine bA.mono (ek ai hF (λx hx=>by simp at hx;subst hx;exact bX (ho bn (.inl rfl))) (Q:=λwl v w'=>w'.ownsRow wl.heap.size 9 1 v (mw out gD n).length ((mw out gD n).map .string)) (λwl AP v w1 w2 e1 e2 h=>?_) (λwl hz aW=>?_)) (λv o' w' hq=>?_)
 ·rw[e1];exact dC h λg _ _=>by rw[e2]
 ·refine(J0 bn Lb Lo St Rb Nb n out eO ins cO res gD wl hn (wG h hz λb hb=>aW b (ho b hb))).mono λe w' hq=>?_;obtain⟨v,rfl,h1,h2,h3⟩:=hq;exact⟨_,rfl,h1.size,λb hb=>h1.block b hb,h3⟩
 ·obtain⟨hN,wl,aX,z1,z2,hs,h3⟩:=hq;rw[z1]at h3;exact⟨hN,uM h3 hs z2⟩
def Dr(hF:bO ax L0 o w)(v0:Value)(b c:Nat)(p:Option Addr)(ts:List af)(O4:v0=.slice p ts.length c)(hn:ts.length<=100000)(hp:p=we->ts=[])(hq:ts≠[]->p=so ⟨b,0,we⟩/\o b)(ht:eN w b 0 ts)(hc:Cl ax L0 o v0):
  bA ax (XB ax Fin 0) 51 #[v0] o w λv o' w'=>fT o w v o' w'/\gY w.heap.size ts v w':=by
 refine bA.mono (ek ai hF (λx hx=>by simp at hx;subst hx;exact hc) (Q:=λwl v w'=>w'.ownsRow wl.heap.size 9 1 v ts.length (ts.map .string)) (λwl AP v w1 w2 e1 e2 h=>?_) (λwl hz aW=>?_)) (λv o' w' hq=>?_)
 ·rw[e1];exact dC h λg _ _=>by rw[e2]
 ·subst O4;cases p with
  |none =>
   obtain rfl:=hp rfl;refine(Tryz.slices_Clone_string_nil _ _ wl).mono λe w' hq=>?_;obtain⟨rfl,rfl⟩:=hq;exact⟨_,rfl,ah _,λ_ _=>rfl,ar,.inl ⟨rfl,rfl⟩⟩
  |some a =>
   by_cases dE:ts=[]
   ·subst dE;refine(Tryz.slices_Clone_string_zero a _ wl).mono λe w' hq=>?_;obtain⟨v',rfl,h1,-,h2⟩:=hq;exact⟨_,rfl,h2.size,λb hb=>h2.block b hb,h1⟩
   ·have⟨e,hb⟩:=hq dE;cases e;refine(Tryz.slices_Clone_string b 0 ts.length c ts wl (ah _) aa (λj hj=>?_)).mono λe w' hq=>?_
    ·rw[cD ht (aW b hb) j hj];simp[hj]
    ·obtain⟨v',rfl,h1,h2⟩:=hq;rw[cC]at h1;exact⟨_,rfl,h2.2.size,λb hb=>h2.2.block b hb,h1⟩
 ·obtain⟨hN,wl,aX,z1,z2,hs,h3⟩:=hq;rw[z1]at h3;exact⟨hN,uM h3 hs z2⟩
end
end
end Go.Proofs.Kz
