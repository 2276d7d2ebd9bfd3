import Derived.Test.YtgjekaaknjgnmaaGreatDoorAd
import Derived.ArgAppend
import Derived.Conc.AtomicLaws2
import Derived.Lib.Builder
import Derived.Lib.Bytealg
import Derived.Lib.JoinLaws
import Derived.Sort.Walk0
set_option linter.all false
set_option maxHeartbeats 40000000
set_option maxRecDepth 200000
namespace Go.Proofs.Kz
open Go.Proofs.Tryz
open Go.Proofs.Tryz renaming prog → au
open _root_.ByteArray renaming empty → aP
open Go.Ren Go.Conc Go.Proofs Go.ConcN
section
open Go.Conc.Lib Go.ConcR.Gen Go.ConcN.Gen
open Go.ConcR (KK wgBlock WgAt stA smA rd wr mk Payload DC0)
def Still(D:nh)(Ob:Nat)(old:Nat->Option (Nat×List Kz.V))(b:Nat):Prop :=
 b=D.bn\/b=D.Lb\/b=D.St\/b=D.Vb\/b=D.Mb\/b=Ob\/b=1\/(∃s,s<D.n/\b=D.cO s)\/(∃s vs,s<D.n/\old s=some (b,vs))
structure ot(D:nh)(ord:Nat->Nat)(res:Nat->Kz.V)(old:Nat->Option (Nat×List Kz.V))(Ob:Nat)(o:aN)(w:ae):Prop where
 E9:ly D w
 pow:jb w
 order:w.cell? ⟨D.Lb,D.Lo+1,none⟩=some (.slice (some ⟨Ob,0,none⟩) D.n D.n)
 Mq:∀k,k<D.n->w.cell? ⟨Ob,k,none⟩=some (.int .i64 (ord k))
 still:∀b,Still D Ob old b->o b/\b≠D.Rb/\b≠D.Nb/\∀s,s<D.n->b≠D.ch s
 pC:∀s,s<D.n->o (D.ch s)/\D.ch s≠D.Rb/\D.ch s≠D.Nb/\∃s' r tm,w.heap[D.ch s]?=some (.chan 0 #[] false s' r tm)
 xY:∀s t,s<D.n->t<D.n->D.ch s=D.ch t->s=t
 CW:o D.Rb
 CX:o D.Nb
 apart:D.Rb≠D.Nb
 R0:∃cs,w.heap[D.Rb]?=some (.cells cs 222 (0,0))/\cs.size=D.n*4
 N0:∃cs,w.heap[D.Nb]?=some (.cells cs 4 (0,0))/\cs.size=D.n
 idle:∀s,s<D.n->zM D s (old s) w
 xk:∀s B vs,s<D.n->old s=some (B,vs)->xg w B 0 vs/\vs.length<=100000
 qT:∀i,i<D.n->ord i<D.n
 Z5:∀i j,i<D.n->j<D.n->ord i=ord j->i=j
 Z6:∀s,s<D.n->∃i,i<D.n/\ord i=s
 dep:∀i,i<D.n->∀m,(true,m)∈D.ins (ord i)->∃k,k<i/\ord k=m
 src:∀s,s<D.n->∀m,(false,m)∈D.ins s->m<D.lI.length
 short:∀s,s<D.n->(D.ins s).length<=4
 gY:D.n<=100000
 Wf:D.lI.length<=100000
 made:∀s,s<D.n->res s=jc (D.jV s) (dV D res s)
 eU:∀s,s<D.n->1<=D.jV s/\D.jV s<=5
 size:∀s,s<D.n->js ((dV D res s).map (·.2))<=1000000
def qy(D:nh)(ord:Nat->Nat)(old:Nat->Option (Nat×List Kz.V))(S:Nat->Prop)(Wg H0 m0 T0:Nat):dq where
 T0:=T0
 H0:=H0
 Wg:=Wg
 m0:=m0
 n:=D.n
 ch:=fun i=>D.ch (ord i)
 kg:=fun i l=>i<D.n/\((∃j,j<4/\l=.cell ⟨D.Rb,ord i*4+j,none⟩)\/l=.cell ⟨D.Nb,ord i,none⟩)
 Shun:=uh S
 Sh:=fun b=>b=D.Rb\/b=D.Nb
 ty:=216
 dep:=fun i k=>k<i
 Idle:=fun k w=>k<D.n->zM D (ord k) (old (ord k)) w
section
variable {D:nh} {ord:Nat->Nat} {res:Nat->Kz.V} {old:Nat->Option (Nat×List Kz.V)} {Ob:Nat} {o:aN} {w:ae} {L:Nat->Bool}
theorem vp{w w1:ae}{B:Nat}(hs:∀cs ty fz,w.heap[B]?=some (.cells cs ty fz)->∃tH,w1.heap[B]?=some (.cells tH ty fz)/\tH.size=cs.size)(h:vR w B):vR w1 B:=by
 obtain⟨c,t,h⟩:=h;obtain⟨c1,h1,_⟩:=hs c t _ h;exact⟨c1,t,h1⟩
theorem zM.keep{s:Nat}{x:Option (Nat×List Kz.V)}{w w1:ae}(h:zM D s x w)(hR:∀j,j<4->w1.cell? ⟨D.Rb,s*4+j,none⟩=w.cell? ⟨D.Rb,s*4+j,none⟩)(hN:w1.cell? ⟨D.Nb,s,none⟩=w.cell? ⟨D.Nb,s,none⟩)(h1:vR w1 D.Rb)(h2:vR w1 D.Nb):zM D s x w1:=by
 refine⟨?_,hN.trans h.2.1,h1,h2⟩;have k:=h.1;cases x with
 |none=>exact⟨(hR 0 aa).trans k.c0,(hR 1 aa).trans k.c1,(hR 2 aa).trans k.c2,(hR 3 aa).trans k.c3⟩
 |some y=>exact⟨(hR 0 aa).trans k.c0,(hR 1 aa).trans k.c1,(hR 2 aa).trans k.c2,(hR 3 aa).trans k.c3⟩
theorem nV{o:aN}{a b:Nat}(h:¬o b)(ha:o a):a≠b:=fun e=>h (e▸ha)
theorem Wk(h:ot D ord res old Ob o w){S:Nat->Prop}{Wg H0 m0 T0:Nat}(hm:0<m0)(hWg:Wg<H0)(Od:¬o Wg)(ho:∀b,o b->b<H0/\¬S b)(hS:∀b,S b->b<H0/\b≠Wg):(qy D ord old S Wg H0 m0 T0).OK where
 m0:=hm
 wg:=hWg
 own k l b hl hb:=by
  rcases hl.2 with⟨j,_,rfl⟩|rfl
  ·cases hb;exact⟨(ho _ h.CW).1,nV Od h.CW⟩
  ·cases hb;exact⟨(ho _ h.CX).1,nV Od h.CX⟩
 apart k k' l hl hl':=by
  have e:ord k=ord k':=by
   rcases hl.2 with⟨j,_,rfl⟩|rfl<;>rcases hl'.2 with⟨j',_,e⟩|e
   ·simp at e;omega
   ·simp at e;exact absurd e.1 h.apart
   ·simp at e;exact absurd e.1.symm h.apart
   ·simp at e;exact e
  exact h.Z5 _ _ hl.1 hl'.1 e
 acu l b hl hb:=by cases l<;>first|exact hl.elim|skip;cases hb;exact hS _ hl
 GA k l hl hs:=by
  rcases hl.2 with⟨j,_,rfl⟩|rfl
  ·exact(ho _ h.CW).2 hs
  ·exact(ho _ h.CX).2 hs
 ownSh k l hl:=by
  rcases hl.2 with⟨j,_,rfl⟩|rfl
  ·exact⟨_,rfl,.inl rfl⟩
  ·exact⟨_,rfl,.inr rfl⟩
 sh b hb:=by
  rcases hb with rfl|rfl
  ·exact⟨(ho _ h.CW).1,nV Od h.CW,fun k hk=>(h.pC _ (h.qT k hk)).2.1⟩
  ·exact⟨(ho _ h.CX).1,nV Od h.CX,fun k hk=>(h.pC _ (h.qT k hk)).2.2.1⟩
 ch k hk:=⟨(ho _ (h.pC _ (h.qT k hk)).1).1,nV Od (h.pC _ (h.qT k hk)).1⟩
 xY k k' hk lX e:=h.Z5 _ _ hk lX (h.xY _ _ (h.qT k hk) (h.qT k' lX) e)
 RS k hk:=fun e=>e
 dep i k _ e:=e
 idle k w w1 h1 h2 h3:=fun hk=>(h3 hk).keep (fun j hj=>h1 _ ⟨hk,.inl ⟨j,hj,rfl⟩⟩) (h1 _ ⟨hk,.inr rfl⟩) (vp (h2 _ · · · (.inl rfl)) (h3 hk).2.2.1) (vp (h2 _ · · · (.inr rfl)) (h3 hk).2.2.2)
theorem Ms(h:ot D ord res old Ob o w){S:Nat->Prop}{Wg H0 m0 T0:Nat}(hWg:Wg<H0)(Od:¬o Wg)(ho:∀b,o b->b<H0/\¬S b){b:Nat}(hb:Still D Ob old b):Quiet (qy D ord old S Wg H0 m0 T0) b:=by
 obtain⟨h1,h2,h3,h4⟩:=h.still b hb;refine⟨(ho b h1).1,nV Od h1,fun e=>e.elim h2 h3,fun k hk=>h4 _ (h.qT k hk),fun off=>⟨fun b' nC=>?_,fun k hk=>?_,(ho b h1).2⟩⟩
 ·cases nC;exact⟨(ho b h1).1,nV Od h1⟩
 ·rcases hk.2 with⟨j,_,e⟩|e
  ·injection e with e;injection e with e;exact h2 e
  ·injection e with e;injection e with e;exact h3 e
theorem CY{S:Nat->Prop}{Wg H0 m0 T0 Bb:Nat}(hB:Bb<H0)(dJ:Bb≠Wg)(hS:¬S Bb)(h:ot D ord res old Ob o w)(hn:¬o Bb):Quiet (qy D ord old S Wg H0 m0 T0) Bb:=by
 have Tj:∀a,o a->Bb≠a:=fun a ha e=>hn (e▸ha);refine⟨hB,dJ,fun e=>e.elim (Tj _ h.CW) (Tj _ h.CX),fun k hk=>Tj _ (h.pC _ (h.qT k hk)).1,fun off=>⟨fun b' nC=>?_,fun k hk=>?_,hS⟩⟩
 ·cases nC;exact⟨hB,dJ⟩
 ·rcases hk.2 with⟨j,_,e⟩|e
  ·injection e with e;injection e with e;exact Tj _ h.CW e
  ·injection e with e;injection e with e;exact Tj _ h.CX e
theorem ot.keep{w1:ae}(h:ot D ord res old Ob o w)(e:∀b,o b->w1.heap[b]?=w.heap[b]?):ot D ord res old Ob o w1:=by
 have q:∀{b off},Still D Ob old b->w1.cell? ⟨b,off,none⟩=w.cell? ⟨b,off,none⟩:=fun hb=>cell_of (e _ (h.still _ hb).1);have qb:∀{off},w1.cell? ⟨D.bn,off,none⟩=w.cell? ⟨D.bn,off,none⟩:=q (.inl rfl);have qL:∀{off},w1.cell? ⟨D.Lb,off,none⟩=w.cell? ⟨D.Lb,off,none⟩:=q (.inr (.inl rfl));have qS:∀{off},w1.cell? ⟨D.St,off,none⟩=w.cell? ⟨D.St,off,none⟩:=q (.inr (.inr (.inl rfl)));have qV:∀{off},w1.cell? ⟨D.Vb,off,none⟩=w.cell? ⟨D.Vb,off,none⟩:=q (.inr (.inr (.inr (.inl rfl))));have qM:∀{off},w1.cell? ⟨D.Mb,off,none⟩=w.cell? ⟨D.Mb,off,none⟩:=q (.inr (.inr (.inr (.inr (.inl rfl)))));have qO:∀{off},w1.cell? ⟨Ob,off,none⟩=w.cell? ⟨Ob,off,none⟩:=q (.inr (.inr (.inr (.inr (.inr (.inl rfl))))));have q1:∀{off},w1.cell? ⟨1,off,none⟩=w.cell? ⟨1,off,none⟩:=q (.inr (.inr (.inr (.inr (.inr (.inr (.inl rfl)))))));have qI:∀{s off},s<D.n->w1.cell? ⟨D.cO s,off,none⟩=w.cell? ⟨D.cO s,off,none⟩:=fun hs=>q (.inr (.inr (.inr (.inr (.inr (.inr (.inr (.inl ⟨_,hs,rfl⟩))))))));have qR:∀{off},w1.cell? ⟨D.Rb,off,none⟩=w.cell? ⟨D.Rb,off,none⟩:=cell_of (e _ h.CW);have qN:∀{off},w1.cell? ⟨D.Nb,off,none⟩=w.cell? ⟨D.Nb,off,none⟩:=cell_of (e _ h.CX);have d:=h.E9;exact {h with
  E9:=⟨by rw[qb];exact d.b0,by rw[qb];exact d.b1,by rw[qb];exact d.b2,by rw[qb];exact d.b3,by rw[qb];exact d.b4,by rw[qL];exact d.steps,fun s hs=>by rw[qS];exact d.eU s hs,fun s hs=>by rw[qS];exact d.A9 s hs,fun s hs j hj=>by rw[qI hs,qI hs];exact d.CR s hs j hj,fun k hk=>by rw[qV,qV];exact d.lI k hk,fun s hs=>by rw[qM];exact d.made s hs⟩
  pow:=fun k hk=>by rw[q1];exact h.pow k hk
  order:=by rw[qL];exact h.order
  Mq:=fun k hk=>by rw[qO];exact h.Mq k hk
  pC:=fun s hs=>⟨(h.pC s hs).1,(h.pC s hs).2.1,(h.pC s hs).2.2.1,by rw[e _ (h.pC s hs).1];exact(h.pC s hs).2.2.2⟩
  R0:=by rw[e _ h.CW];exact h.R0
  N0:=by rw[e _ h.CX];exact h.N0
  idle:=fun s hs=>(h.idle s hs).keep (fun j _=>qR) qN (vp (fun cs ty fz hx=>⟨cs,by rw[e _ h.CW];exact hx,rfl⟩) (h.idle s hs).2.2.1) (vp (fun cs ty fz hx=>⟨cs,by rw[e _ h.CX];exact hx,rfl⟩) (h.idle s hs).2.2.2)
  xk:=fun s B vs hs ho=>⟨fun k hk=>by
   have hb:Still D Ob old B:=.inr (.inr (.inr (.inr (.inr (.inr (.inr (.inr ⟨s,vs,hs,ho⟩)))))));rw[q hb,q hb];exact(h.xk s B vs hs ho).1 k hk,(h.xk s B vs hs ho).2⟩}
theorem Mt(h:ot D ord res old Ob o w){S:Nat->Prop}{Wg Bb H0 m0 T0:Nat}(hm:0<m0)(hWg:Wg<H0)(Od:¬o Wg)(ho:∀b,o b->b<H0/\¬S b)(hS:∀b,S b->b<H0/\b≠Wg)(hB:Bb<H0)(dJ:Bb≠Wg)(hSB:¬S Bb)(hnB:¬o Bb)(hg:au.globals.size<=H0)(Z7:w.cell? ⟨Bb,0,none⟩=some (.pointer (some ⟨D.bn,0,none⟩))):Setup D (qy D ord old S Wg H0 m0 T0) ord res old Bb Ob w:=by
 have Q:∀{b},Still D Ob old b->Quiet (qy D ord old S Wg H0 m0 T0) b:=fun hb=>Ms h hWg Od ho hb;exact {
  ok:=Wk h hm hWg Od ho hS
  n:=rfl
  kz:=hg
  ty:=rfl
  q1:=Q (.inr (.inr (.inr (.inr (.inr (.inr (.inl rfl)))))))
  dk:={
   DY:=Q (.inl rfl)
   ZU:=Q (.inr (.inl rfl))
   ZV:=Q (.inr (.inr (.inl rfl)))
   qVb:=Q (.inr (.inr (.inr (.inl rfl))))
   qMb:=Q (.inr (.inr (.inr (.inr (.inl rfl)))))
   Qd:=fun s hs=>Q (.inr (.inr (.inr (.inr (.inr (.inr (.inr (.inl ⟨_,hs,rfl⟩))))))))
   qT:=h.qT
   ch:=fun _ _=>rfl
   own:=fun _ _=>db
   Rp:=.inl rfl
   Yh:=.inr rfl
   apart:=h.apart
   dep:=fun i hi m hm=>by
    obtain⟨k,hk,e⟩:=h.dep i hi m hm;exact⟨k,by have:i<D.n:=hi;show k<D.n;omega,e,hk⟩
   src:=h.src
   short:=h.short
   gY:=h.gY
   Wf:=h.Wf}
  E9:=h.E9
  pow:=h.pow
  made:=fun i hi=>h.made _ (h.qT i hi)
  eU:=fun i hi=>h.eU _ (h.qT i hi)
  size:=fun i hi=>h.size _ (h.qT i hi)
  qB:=CY hB dJ hSB h hnB
  box:=Z7
  qO:=Q (.inr (.inr (.inr (.inr (.inr (.inl rfl))))))
  order:=h.order
  Mq:=h.Mq
  xk:=fun s B vs hs e=>⟨(h.xk s B vs hs e).1,Q (.inr (.inr (.inr (.inr (.inr (.inr (.inr (.inr ⟨s,vs,hs,e⟩)))))))),(h.xk s B vs hs e).2⟩
  idle:=fun k w hk hi=>hi hk}
end
end
section
open Go.Conc.Lib Go.ConcR.Gen Go.ConcN.Gen
open Go.ConcR (KK wgBlock WgAt stA smA rd wr mk Payload DC0)
structure Tk(D:nh)(res:Nat->Kz.V)(old:Nat->Option (Nat×List Kz.V))(o:aN)(w:ae)(o':aN)(w':ae):Prop where
 more:∀b,o b->o' b
 new:∀b,o' b->o b\/w.heap.size<=b
 same:∀b,b<w.heap.size->b≠D.Rb->b≠D.Nb->(∀s,s<D.n->b≠D.ch s)->w'.heap[b]?=w.heap[b]?
 runs:∀s,s<D.n->nU D s (old s) (dV D res s) (res s) (fun b=>o' b/\w.heap.size<=b) w'
 R0:∃cs,w'.heap[D.Rb]?=some (.cells cs 222 (0,0))/\cs.size=D.n*4
 N0:∃cs,w'.heap[D.Nb]?=some (.cells cs 4 (0,0))/\cs.size=D.n
 pC:∀s,s<D.n->∃c s' r tm,w'.heap[D.ch s]?=some (.chan 0 #[] c s' r tm)
 size:w.heap.size<=w'.heap.size
 os:w'.os=w.os
 output:w'.output=w.output
section
variable [Payload] {D:nh} {ord:Nat->Nat} {res:Nat->Kz.V} {old:Nat->Option (Nat×List Kz.V)} {Ob:Nat} {o:aN} {w:ae} {L:Nat->Bool} {Fin:bL}
theorem sT{f:Rn}{cs:Array Value}{ty:TypeId}{fz:Nat×Nat}(h:∀j (hj:j<cs.size),val f cs[j]=cs[j]):obj f (.cells cs ty fz)=.cells cs ty fz:=by
 simp only[obj]
 congr 1
 apply jk
 ·simp
 ·intro j h1 h2;simpa using h j h2
theorem JG{w:ae}{b j:Nat}{v:Value}{cs:Array Value}{ty:TypeId}{fz:Nat×Nat}(h:w.cell? ⟨b,j,none⟩=some v)(hb:w.heap[b]?=some (.cells cs ty fz)):cs[j]?=some v:=by
 simpa[World.cell?,hb] using h
theorem uH{w:ae}{b j:Nat}{v:Value}{cs:Array Value}{ty:TypeId}{fz:Nat×Nat}{f:Rn}(h:w.cell? ⟨b,j,none⟩=some v)(hb:w.heap[b]?=some (.cells cs ty fz))(hj:j<cs.size)(hv:val f v=v):val f cs[j]=cs[j]:=by
 have:=JG h hb;rw[aO hj] at this;rw[aR this];exact hv
theorem Qj{w:ae}{b t n:Nat}{g:Nat->Value}(h:w.rowIs b t n g)(hg:∀j,j<n->∀f,val f (g j)=g j):∃x,w.heap[b]?=some x/\fu x=false/\∀f,obj f x=x:=by
 obtain⟨c,hb,hn,hc⟩:=h;refine⟨_,hb,rfl,fun f=>sT fun j hj=>?_⟩;have:=hc j aa;rw[aO hj] at this;rw[aR this];exact hg j aa f
theorem Tl{S:Nat->Prop}{Wg H0 m0 T0:Nat}:kE (qy D ord old S Wg H0 m0 T0) (Vd D ord res) (yz D ord old res):=by
 refine⟨fun k w w1 h1 h2=>?_,fun k o w w1 h1 h2 h3=>?_⟩
 ·exact⟨h2.1,(h1 _ ⟨h2.1,.inl ⟨2,aa,rfl⟩⟩).trans h2.2.1,(h1 _ ⟨h2.1,.inl ⟨3,aa,rfl⟩⟩).trans h2.2.2⟩
 ·exact⟨h3.1,nU.of h3.2 (fun j hj=>h1 _ ⟨h3.1,.inl ⟨j,hj,rfl⟩⟩) (h1 _ ⟨h3.1,.inr rfl⟩) fun b hb=>⟨hb,h2 b hb⟩⟩
theorem Qk(hF:bN au L o w)(h:ot D ord res old Ob o w):bA au (XB au Fin 0) 74 #[.pointer (some ⟨D.bn,0,none⟩)] o w fun v o' w'=>v=.tuple #[]/\Tk D res old o w o' w'/\bN au L o' w':=by
 intro c cs hc;have fK:Tryz.f74.body=some (.seq _ (.seq _ (.seq (.seq _ (.block 0 (.loop _))) _))):=rfl;rw[iS func74 fK];refine fun Z8=>(?_:XB au Fin 0 o _ w) Z8;have W:=bY (P:=au) (Fin:=Fin) (d:=0);have rW:(base 74).kind≠.early:=by simp[base]
 bP Tryz.f74;refine W.go rfl (fun _=>aD) ?_;refine W.go rfl (fun _=>bg) ?_;refine dR ?_;refine zC rfl ar rW rfl (Obj.cells #[.pointer (some ⟨D.bn,0,none⟩)] 151) (fun n=>.pointer (some ⟨n,0,none⟩)) (fun w1=>fU) (fun w1=>fU) ?_;aE;refine W.go rfl (fun _=>ak) ?_;refine W.go rfl (fun _=>aD) ?_;refine W.go rfl (fun _=>bg) ?_;refine dR ?_;refine zC rfl ar rW rfl (Obj.cells #[.int .u64 0,.int .u32 0] 216) (fun n=>.pointer (some ⟨n,0,none⟩)) (fun w1=>fU) (fun w1=>fU) ?_;aE;refine W.go rfl (fun _=>ak) ?_;have pH:∀b,b<w.heap.size->((w.alloc (Obj.cells #[.pointer (some ⟨D.bn,0,none⟩)] 151)).alloc (Obj.cells #[.int .u64 0,.int .u32 0] 216)).heap[b]?=w.heap[b]?:=fun b hb=>by
  rw[RowKit.Below.heap_alloc _ _ b dX,RowKit.Below.heap_alloc _ _ b hb]
 have JD:((w.alloc (Obj.cells #[.pointer (some ⟨D.bn,0,none⟩)] 151)).alloc (Obj.cells #[.int .u64 0,.int .u32 0] 216)).heap[w.heap.size]?=some (Obj.cells #[.pointer (some ⟨D.bn,0,none⟩)] 151):=by
  rw[RowKit.Below.heap_alloc _ _ _ aj];show(w.heap.push _)[w.heap.size]?=_;simp
 have px:((w.alloc (Obj.cells #[.pointer (some ⟨D.bn,0,none⟩)] 151)).alloc (Obj.cells #[.int .u64 0,.int .u32 0] 216)).heap[w.heap.size+1]?=some (Obj.cells #[.int .u64 0,.int .u32 0] 216):=by
  show((w.heap.push (Obj.cells #[.pointer (some ⟨D.bn,0,none⟩)] 151)).push _)[w.heap.size+1]?=_;rw[fL,if_pos aj]
 have vh:((w.alloc (Obj.cells #[.pointer (some ⟨D.bn,0,none⟩)] 151)).alloc (Obj.cells #[.int .u64 0,.int .u32 0] 216)).heap.size=w.heap.size+2:=aj;have K0:(w.alloc (Obj.cells #[.pointer (some ⟨D.bn,0,none⟩)] 151)).heap.size=w.heap.size+1:=aj;have Y7:((w.alloc (Obj.cells #[.pointer (some ⟨D.bn,0,none⟩)] 151)).alloc (Obj.cells #[.int .u64 0,.int .u32 0] 216)).os=w.os/\((w.alloc (Obj.cells #[.pointer (some ⟨D.bn,0,none⟩)] 151)).alloc (Obj.cells #[.int .u64 0,.int .u32 0] 216)).output=w.output:=⟨rfl,rfl⟩;rw[K0];generalize (w.alloc (Obj.cells #[.pointer (some ⟨D.bn,0,none⟩)] 151)).alloc (Obj.cells #[.int .u64 0,.int .u32 0] 216)=w2 at *;clear K0;have cB:∀b,o b->b<w.heap.size:=fun b hb=>hF.lt hb;have Od:¬o (w.heap.size+1):=fun hb=>by have:=cB _ hb;omega
 have hoB:¬o w.heap.size:=fun hb=>by have:=cB _ hb;omega
 intro PM w3 pw;have e3:w3.heap=w2.heap:=by obtain⟨dd,rfl⟩:=pw;rfl
 have e3o:w3.os=w2.os/\w3.output=w2.output:=by obtain⟨dd,rfl⟩:=pw;exact⟨rfl,rfl⟩
 have Ql:ot D ord res old Ob o w3:=h.keep fun b hb=>by rw[e3];exact pH b (cB b hb)
 have ahK:Fo Fin (fun b=>(o b\/b=w.heap.size)\/b=w.heap.size+1) w2=Fo Fin o w:=by
  funext b;simp only[Fo,eq_iff_iff,vh];constructor
  ·rintro⟨h1,h2,h5⟩;exact⟨fF fun h3=>h2 aa,fun h3=>h2 (.inl (.inl h3)),h5⟩
  ·rintro⟨h1,h2,h5⟩;exact⟨aa,fun h3=>by rcases h3 with(h3|h3)|h3<;>first|exact h2 h3|omega,h5⟩
 rw[ahK];have hg:au.globals.size<=w.heap.size+2:=by have:=hF.size;omega
 have Z9:∀m0 T0,0<m0->Setup D (qy D ord old (Fo Fin o w) (w.heap.size+1) (w.heap.size+2) m0 T0) ord res old w.heap.size Ob w3:=fun m0 T0 hm =>
  Mt Ql hm aa Od (fun b hb=>⟨by have:=cB b hb;omega,fun hx=>hx.2.1 hb⟩) (fun b hb=>⟨by have:=hb.1;omega,by have:=hb.1;omega⟩) aa aa (fun hx=>by have:=hx.1;omega) hoB hg (by simp[World.cell?,e3,JD])
 refine BX.ac6 fun m0 T0 hm=>⟨qy D ord old (Fo Fin o w) (w.heap.size+1) (w.heap.size+2) m0 T0,Vd D ord res,yz D ord old res,
  fun o5 g5 w5=>∃tm wA,Fq link (qy D ord old (Fo Fin o w) (w.heap.size+1) (w.heap.size+2) m0 T0) wA ((base 74).at ⟨tm,[]⟩ (.inRegion #[{dst:=some 20,op:=.call {callee:=.value (.func 117),args:=#[.tmp 2],argTypes:=#[216]},type:=0,pos:= "build.go:82",after:=#[],guard:=none}] (0::[])::[])) (c::cs) o5 g5 w5,
  fun o5 g5 w5=>∃tm wA,PN au (qy D ord old (Fo Fin o w) (w.heap.size+1) (w.heap.size+2) m0 T0) wA (G ((base 74).at ⟨tm,[]⟩ (.inRegion #[{dst:=some 20,op:=.call {callee:=.value (.func 117),args:=#[.tmp 2],argTypes:=#[216]},type:=0,pos:= "build.go:82",after:=#[],guard:=none}] []::[])) (c::cs)) o5 g5 w5,
  fun _=>False,rfl,rfl,(Z9 m0 T0 hm).ok,Tl,?_,rfl,?_,?_,fun _ hb=>hb.elim,?_,?_,?_,?_,?_⟩
 ·show D.n<2147483648;have:=h.gY;omega
 ·rintro o5 g5 w5 ⟨tm,wA,hA⟩;exact(L4 AF (Z9 m0 T0 hm).ok g5 w5 hA).mono fun _ _ _=>Rf.mono (fun o g w x=>⟨tm,wA,x⟩) (fun o g w x=>⟨_,wA,x⟩)
 ·have hS:=Z9 m0 T0 hm;have hT:=hS.ok;show jg au _ _ _ _ D.n _ _ w3;generalize hTm:qy D ord old (Fo Fin o w) (w.heap.size+1) (w.heap.size+2) m0 T0=T at *;have hTn:T.n=D.n:=hS.n;have hTW:T.Wg=w.heap.size+1:=by rw[<- hTm];rfl
  have hTH:T.H0=w.heap.size+2:=by rw[<- hTm];rfl
  have hTy:T.ty=216:=hS.ty;have yA:WgLive T.ty T.Wg w3:=⟨0,0,by rw[hTy,hTW];show w3.heap[w.heap.size+1]?=_;rw[e3];exact px⟩;obtain⟨Stop,JF⟩:∃Stop:eT,∀o5 g5 w5,dm au T Stop o5 g5 w5↔jg au T (Vd D ord res) (yz D ord old res) (fun o5 g5 w5=>∃tm wA,Fq link T wA ((base 74).at ⟨tm,[]⟩ (.inRegion #[{dst:=some 20,op:=.call {callee:=.value (.func 117),args:=#[.tmp 2],argTypes:=#[216]},type:=0,pos:= "build.go:82",after:=#[],guard:=none}] (0::[])::[])) (c::cs) o5 g5 w5) D.n o5 g5 w5:=by
   cases D.n
   ·exact⟨_,fun _ _ _=>db⟩
   ·exact⟨_,fun _ _ _=>db⟩
  rw[<- JF];have W4:=nR (P:=au) (T:=T) (Stop:=Stop);refine W4.go rfl (fun _=>aD) ?_;refine W4.go rfl (fun _=>aD) ?_;refine W4.go rfl (fun _=>bg) ?_;refine dR ?_;have c0:∀w5,dN T (fun _=>False) w3 w5->w5.cell? ⟨w.heap.size,0,none⟩=some (.pointer (some ⟨D.bn,0,none⟩)):=fun w5 r5=>by rw[hS.qB.cellS r5];exact hS.box
  have c1:∀w5,dN T (fun _=>False) w3 w5->w5.cell? ⟨D.bn,0,none⟩=some (.pointer (some ⟨D.Lb,D.Lo,none⟩)):=fun w5 r5=>by rw[hS.dk.DY.cellS r5];exact hS.E9.b0
  have c2:∀w5,dN T (fun _=>False) w3 w5->w5.cell? ⟨D.Lb,D.Lo+1,none⟩=some (.slice (some ⟨Ob,0,none⟩) D.n D.n):=fun w5 r5=>by rw[hS.dk.ZU.cellS r5];exact hS.order
  (refine still_at W4 c0 rfl ar rW (fun w9 hc=>⟨.refl _ _,fun e he=>?_⟩) fun w9 hc K hK=>?_;(focus (rw[cd];have he:=mem_listed he;simp[go_sem, *] at he;subst he;exact vo hS.qB));go_simp;refine hK _ ?_;clear hK K;clear hc w9;try aE)
  refine im ?_
  (refine still_at W4 c1 rfl ar rW (fun w9 hc=>⟨.refl _ _,fun e he=>?_⟩) fun w9 hc K hK=>?_;(focus (rw[cd];have he:=mem_listed he;simp[go_sem, *] at he;subst he;exact vo hS.dk.DY));go_simp;refine hK _ ?_;clear hK K;clear hc w9;try aE)
  refine im ?_
  (refine still_at W4 c2 rfl ar rW (fun w9 hc=>⟨.refl _ _,fun e he=>?_⟩) fun w9 hc K hK=>?_;(focus (rw[cd];have he:=mem_listed he;simp[go_sem, *] at he;subst he;exact vo hS.dk.ZU));go_simp;refine hK _ ?_;clear hK K;clear hc w9;try aE)
  refine im ?_;refine W4.go rfl (fun _=>ak) ?_;refine W4.go rfl (fun _=>fh) ?_;refine W4.go rfl (fun _=>jR) ?_;rw[JF];refine JE hS fK (base 74) [] (c::cs) rfl rW (fun o5 w5 tm r5 l5 ho5 fJ t2=>?_) D.n 0 hTn.symm _ w3 _ (dN.refl _) yA (fun _ hb=>hb.elim) (by rw[hTH,e3,vh];exact ag _) rfl rfl (by rw[hTW];rfl) rfl rfl rfl;have W5:=nR (P:=au) (T:=T) (Stop:=Rg au T (fun o5 g5 w5=>∃tm wA,Fq link T wA ((base 74).at ⟨tm,[]⟩ (.inRegion #[{dst:=some 20,op:=.call {callee:=.value (.func 117),args:=#[.tmp 2],argTypes:=#[216]},type:=0,pos:= "build.go:82",after:=#[],guard:=none}] (0::[])::[])) (c::cs) o5 g5 w5));obtain⟨gs,rfl⟩:=lv fJ;simp only[List.range,List.range.loop,aA,aQ] at *;simp only[List.getElem?_toArray,List.getElem?_cons_succ,List.getElem?_cons_zero,ay] at t2;simp only[t2];refine W5.go rfl (fun _=>bg) ?_;refine dR ?_;refine W5.go rfl (fun w1=>qq rfl ar rW rfl AF.f_wait (nm_wait link) rfl w1) ?_;rw[iS AF.f_wait rfl];simp only[List.map_toArray,aA,aQ,Act.eval];bP waitFn;have hA:=@L5 _ link au T o5 w5;simp only[body_wait,waitFn,br] at hA;exact(hA AF (fun b hb=>(ho5 b hb).1) w5 ⟨dN.refl w5,l5⟩).mono fun _ _ _=>Rg.mono fun o g w x=>⟨_,w5,x⟩
 ·show w.heap.size+2<=w3.heap.size;rw[e3,vh];exact ag _
 ·show w3.heap[w.heap.size+1]?=_;rw[e3];exact px
 ·exact fun k hk=>(Ql.pC _ (h.qT k hk)).2.2.2
 ·exact fun k hk lX=>Ql.idle _ (h.qT k hk)
 ·rintro o5 g5 w5 ⟨tm,wA,-,n5,hgo⟩ adq hrel fy Ps vK;have aop:w.heap.size+2<=w5.heap.size:=by have:=hrel.size;rw[e3,vh] at this;exact this
  have hold:∀b,b<w.heap.size->b≠D.Rb->b≠D.Nb->(∀s,s<D.n->b≠D.ch s)->w5.heap[b]?=w.heap[b]?:=fun b h1 h2 h3 h4=>by
   rw[hrel.ro b (show b<w.heap.size+2 by omega) (show b≠w.heap.size+1 by omega) (fun e=>e.elim h2 h3) (fun k hk=>h4 _ (h.qT k hk)),e3,pH b h1]
  have cL:∀s,s<D.n->∃oi:Nat->Prop,nU D s (old s) (dV D res s) (res s) oi w5/\∀b,oi b->w.heap.size+2<=b/\b<w5.heap.size:=fun s hs=>by
   obtain⟨i,hi,rfl⟩:=h.Z6 s hs;obtain⟨-,oi,C,hv,ho⟩:=adq i hi;exact⟨_,hv.2,fun b hb=>ho b hb.1⟩
  have hR5:∃cs,w5.heap[D.Rb]?=some (.cells cs 222 (0,0))/\cs.size=D.n*4:=by
   obtain⟨cs,k1,k2⟩:=Ql.R0;obtain⟨c1,k3,k4⟩:=Ps D.Rb cs _ _ (.inl rfl) k1;exact⟨c1,k3,aa⟩
  have hN5:∃cs,w5.heap[D.Nb]?=some (.cells cs 4 (0,0))/\cs.size=D.n:=by
   obtain⟨cs,k1,k2⟩:=Ql.N0;obtain⟨c1,k3,k4⟩:=Ps D.Nb cs _ _ (.inr rfl) k1;exact⟨c1,k3,aa⟩
  have adr:∀s,s<D.n->∃c s' r tm,w5.heap[D.ch s]?=some (.chan 0 #[] c s' r tm):=fun s hs=>by
   obtain⟨i,hi,rfl⟩:=h.Z6 s hs;exact vK i hi
  let o':aN:=fun b=>o b\/∃s,s<D.n/\w.heap.size+2<=b/\b<w5.heap.size/\(∀B,old s≠some (B,dV D res s))/\fe w5 b (dV D res s)/\wz D s w5 b (dV D res s) (res s);have Tm:∀s,s<D.n->nU D s (old s) (dV D res s) (res s) (fun b=>o' b/\w.heap.size<=b) w5:=fun s hs=>by
   obtain⟨oi,hr,ho⟩:=cL s hs;rcases hr with⟨B,k1,k2,k3⟩|⟨k1,A,k2,k3,k4,k5⟩
   ·exact .inl ⟨B,k1,k2,k3⟩
   ·have:=ho A k2;exact .inr ⟨k1,A,⟨.inr ⟨s,hs,this.1,this.2,k1,k3,k4⟩,aa⟩,k3,k4,k5⟩
  have aab:Tk D res old o w o' w5:={
   more:=fun b hb=>.inl hb
   new:=fun b hb=>hb.imp id fun⟨s,_,h1,_⟩=>aa
   same:=hold
   runs:=Tm
   R0:=hR5
   N0:=hN5
   pC:=adr
   size:=aa
   os:=by rw[hrel.os,e3o.1,Y7.1]
   output:=by rw[hrel.output,e3o.2,Y7.2]}
  have ads:bN au L o' w5:=by
   have up:∀f,(mM au L o').has f->(mM au L o).has f:=fun f hf=>⟨hf.inj,fun r hr=>hf.at_ r (.inl hr),hf.fn,hf.kz⟩;refine⟨fun b hb=>?_,fun b hb=>.inl (hF.kz b hb),by have:=hF.size;omega⟩;rcases hb with hb|⟨s,hs,h1,h2,_,h3,_⟩
   ·by_cases hbR:b=D.Rb
    ·subst hbR;obtain⟨cs5,k1,k2⟩:=hR5;refine⟨_,k1,rfl,fun f hf=>sT fun j hj=>?_⟩;have hq:j/4<D.n:=aa;have hrw:∃B,wz D (j/4) w5 B (dV D res (j/4)) (res (j/4))/\o' B:=by
      rcases Tm _ hq with⟨B,m1,m2,-⟩|⟨-,A,m1,-,m2,-⟩
      ·exact⟨B,m2,.inl (h.still B (.inr (.inr (.inr (.inr (.inr (.inr (.inr (.inr ⟨_,_,hq,m1⟩))))))))).1⟩
      ·exact⟨A,m2,m1.1⟩
     obtain⟨B,m1,m2⟩:=hrw;have gf:j=j/4*4\/j=j/4*4+1\/j=j/4*4+2\/j=j/4*4+3:=aa;have hBf:f.b B=B:=hf.at_ B m2;have key:∀v,w5.cell? ⟨D.Rb,j,none⟩=some v->val f v=v->val f cs5[j]=cs5[j]:=fun v hv=>uH hv k1 hj;rcases gf with e|e|e|e
     ·exact key _ (by rw[e];exact m1.c0) aj
     ·exact key _ (by rw[e];exact m1.c1) (by simp[val,addr,hBf])
     ·exact key _ (by rw[e];exact m1.c2) aj
     ·exact key _ (by rw[e];exact m1.c3) aj
    ·by_cases hbN:b=D.Nb
     ·subst hbN;obtain⟨cs5,k1,k2⟩:=hN5;refine⟨_,k1,rfl,fun f hf=>sT fun j hj=>?_⟩;have hq:j<D.n:=aa;rcases Tm _ hq with⟨B,_,_,m2⟩|⟨_,A,_,_,_,m2⟩
      ·exact uH m2 k1 hj aj
      ·exact uH m2 k1 hj aj
     ·by_cases hbc:∃s,s<D.n/\b=D.ch s
      ·obtain⟨s,hs,rfl⟩:=hbc;obtain⟨c,s',r,tm,k1⟩:=adr s hs;exact⟨_,k1,rfl,fun f _=>by simp[obj]⟩
      ·rw[hold b (cB b hb) hbR hbN fun s hs e=>hbc ⟨s,hs,e⟩];obtain⟨x,k1,k2,k3⟩:=hF.shut b hb;exact⟨x,k1,k2,fun f hf=>k3 f (up f hf)⟩
   ·obtain⟨x,k1,k2,k3⟩:=Qj h3 (fun j _ f=>wu _ j f);exact⟨x,k1,k2,fun f _=>k3 f⟩
  have hX:XB au Fin 0 o' (G ((base 74).at ⟨tm,[]⟩ (.inRegion #[{dst:=some 20,op:=.call {callee:=.value (.func 117),args:=#[.tmp 2],argTypes:=#[216]},type:=0,pos:= "build.go:82",after:=#[],guard:=none}] []::[])) (c::cs)) w5:=by
   refine W.go rfl (fun _=>ak) ?_;refine W.go rfl (fun _=>eu) ?_;refine W.go rfl (fun w6=>stepG_leave (b:=base 74) (v:=.tuple #[]) rfl rfl func74 (results_none ah _ _).1 (results_none ah _ _).2) ?_;exact hc _ o' w5 ⟨rfl,aab,ads⟩
  have hX':A3 au (IY Fin w2) 0 (fun b=>Fo Fin o w b\/b=w.heap.size+1) (G ((base 74).at ⟨tm,[]⟩ (.inRegion #[{dst:=some 20,op:=.call {callee:=.value (.func 117),args:=#[.tmp 2],argTypes:=#[216]},type:=0,pos:= "build.go:82",after:=#[],guard:=none}] []::[])) (c::cs)) w5:=fun w6 h6=>by
   have hX6:=hX (Z8.up aa) w6 h6;rw[GG (w:=w2) ⟨by rw[hrel.os,e3o.1],by rw[hrel.output,e3o.2]⟩] at hX6;refine hX6.less (fun b hb=>?_) fun b hb hx=>?_
   ·rcases hb with hb|rfl
    ·exact⟨by have:=hb.1;omega,fun hx=>hx.elim hb.2.1 fun⟨s,_,h1,_⟩=>by have:=hb.1;omega,hb.2.2⟩
    ·exact⟨aa,fun hx=>hx.elim Od fun⟨s,_,h1,_⟩=>aa,fun hl=>by have:=Z8 _ hl;omega⟩
   ·obtain⟨dd,rfl⟩:=h6;have h1:b<w5.heap.size:=hx.1;have h2:w5.heap.size<=b:=hb;omega
  exact(A3.jC hgo hX').bx
end
end
section
variable {Fin:bL} {o:aN} {w:ae}
theorem yB(w:ae)(a:Addr)(v:Value):(w.setCell a v).heap.size=w.heap.size:=by simp[World.setCell]
theorem JH(ad:Addr):∀x∈(#[⟨.cell ad,false,true⟩,⟨.cell ad,true,true⟩]:Array Event),x.sync=true/\(∀g,x.loc≠.mark (.extern g))/\x.loc≠.mark .disable/\x.loc≠.mark .enable:=by
 intro x hx;simp at hx;rcases hx with rfl|rfl<;>simp
theorem yC(ad:Addr)(b:Bool):∀x∈(#[⟨.cell ad,b,true⟩]:Array Event),x.sync=true/\(∀g,x.loc≠.mark (.extern g))/\x.loc≠.mark .disable/\x.loc≠.mark .enable:=by
 intro x hx;simp at hx;subst hx;simp
theorem Wl(K off:Nat)(Yk:o K)(hc:w.cell? ⟨K,off,none⟩=some (.int .i32 0))(hz:w.frozen? ⟨K,off,none⟩=false):
  bA au (XB au Fin 0) 78 #[.pointer (some ⟨K,off,none⟩)] o w fun v o' w'=>v=.tuple #[]/\o'=o/\w'=w.setCell ⟨K,off,none⟩ (.int .i32 1):=by
 intro c cs Lg;have W0:=bY (P:=au) (Fin:=Fin) (d:=0);have W1:=bY (P:=au) (Fin:=Fin) (d:=1);have rW:(base 78).kind≠.early:=by simp[base]
 rw[iS func78 rfl];bP Tryz.f78;refine W0.go rfl (fun _=>aD) ?_;refine W0.go rfl (fun _=>bg) ?_;refine dR ?_;refine yi .disable (.inl rfl) rfl ar rW rfl func120 ah ah ah ah rfl (d':=1) ar ?_;aE;refine W1.go rfl (fun _=>ak) ?_;refine W1.go rfl (fun _=>aD) ?_;refine W1.go rfl (fun _=>aD) ?_;refine W1.go rfl (fun _=>bg) ?_;refine dR ?_;refine im ?_;refine zD rfl ar rW rfl func121 ah ah ah (e:=Extern.Atomic.casT (.int .i32)) ah (v:=.bool true) (t:=fun w=>w.setCell ⟨K,off,none⟩ (.int .i32 1)) (evs:=#[⟨.cell ⟨K,off,none⟩,false,true⟩,⟨.cell ⟨K,off,none⟩,true,true⟩]) rfl (fun n=>rfl) (yB _ _ _) (fun n=>?_) (fun n=>?_) (JH _) ?_
 ·simp only[List.map_toArray,aA,aQ,Act.eval];aE;rw[casT_eq];exact run_cas_hit_entry hc hz
 ·simp only[List.map_toArray,aA,aQ,Act.eval];aE;rw[casT_eq,events_cas_hit_entry (w:=w.at n) hc hz];rfl
 aE;refine W1.go rfl (fun _=>ak) ?_;refine W1.go rfl (fun _=>eB (t:=true) rfl) ?_;simp only[if_true];refine W1.go rfl (fun _=>aD) ?_;refine W1.go rfl (fun _=>eB (t:=true) rfl) ?_;simp only[if_true];refine W1.go rfl (fun _=>aD) ?_;refine W1.go rfl (fun _=>bg) ?_;refine dR ?_;refine yi .enable (.inr rfl) rfl ar rW rfl func122 ah ah ah ah rfl (d':=0) ar ?_;aE;refine W0.go rfl (fun _=>ak) ?_;refine W0.go rfl (fun _=>bg) ?_;refine dR ?_;refine im ?_;have VL:(w.setCell ⟨K,off,none⟩ (.int .i32 1)).cell? ⟨K,off,none⟩=some (.int .i32 1):=World.cell?_setCell_same _ _ _ hc;have hcv:=fun n=>run_convert_to_unsafe (P:=au) (w:=(w.setCell ⟨K,off,none⟩ (.int .i32 1)).at n) underlying225 underlying116 ah VL;have hce:=fun n es=>events_convert_to_unsafe (P:=au) (w:=(w.setCell ⟨K,off,none⟩ (.int .i32 1)).at n) underlying225 underlying116 ah VL es;refine yj rfl ar rW (v:=.pointer (some ⟨K,off,none⟩)) rfl (fun n=>by simp[go_sem,hcv n]) (fun n x hx=>by simp[go_sem,hce n] at hx) ?_;aE;refine CG .acquire (fun ad=>.inl ⟨ad,rfl⟩) rfl ar rW rfl func123 ah ah ah ah (ad:=⟨K,off,none⟩) aI rfl ?_;aE;refine W0.go rfl (fun _=>ak) ?_;refine W0.go rfl (fun _=>stepG_ret') ?_;refine W0.go rfl (fun w6=>stepG_leave (b:=base 78) (v:=.tuple #[]) rfl rfl func78 (results_none ah _ _).1 (results_none ah _ _).2) ?_;exact Lg _ o _ ⟨rfl,rfl,rfl⟩
theorem CZ(K off:Nat)(Yk:o K)(hc:w.cell? ⟨K,off,none⟩=some (.int .i32 0))(hz:w.frozen? ⟨K,off,none⟩=false):
  bA au (XB au Fin 0) 45 #[.pointer (some ⟨K,off,none⟩)] o w fun v o' w'=>v=.tuple #[]/\o'=o/\w'=w.setCell ⟨K,off,none⟩ (.int .i32 1):=by
 have W0:=bY (P:=au) (Fin:=Fin) (d:=0);refine bD W0 func45 rfl ?_;bP Tryz.f45;refine ax ?_;refine dC W0 rfl ar rfl func78 ah rfl aI rfl ((Wl K off Yk hc hz).mono ?_);rintro v o' w' ⟨rfl,rfl,rfl⟩;refine ax ?_;exact⟨.inl trivial,trivial,.tuple #[],fun w1=>results_none ah _ _,aj⟩
theorem Qm(K off:Nat)(Yk:o K)(hc:w.cell? ⟨K,off,none⟩=some (.int .i32 1))(hz:w.frozen? ⟨K,off,none⟩=false):
  bA au (XB au Fin 0) 79 #[.pointer (some ⟨K,off,none⟩)] o w fun v o' w'=>v=.tuple #[]/\o'=o/\w'=w.setCell ⟨K,off,none⟩ (.int .i32 0):=by
 intro c cs Lg;have W0:=bY (P:=au) (Fin:=Fin) (d:=0);have W1:=bY (P:=au) (Fin:=Fin) (d:=1);have rW:(base 79).kind≠.early:=by simp[base]
 rw[iS func79 rfl];bP Tryz.f79;have hcv:=fun n=>run_convert_to_unsafe (P:=au) (w:=w.at n) underlying225 underlying116 ah hc;have hce:=fun n es=>events_convert_to_unsafe (P:=au) (w:=w.at n) underlying225 underlying116 ah hc es;have vU:∀n,(w.at n).cell? ⟨K,off,none⟩=some (.int .i32 1):=fun n=>hc;refine W0.go rfl (fun _=>aD) ?_;refine W0.go rfl (fun _=>eB (t:=true) rfl) ?_;simp only[if_true];refine W0.go rfl (fun _=>aD) ?_;refine W0.go rfl (fun _=>bg) ?_;refine dR ?_;refine im ?_;refine yj rfl ar rW (v:=.int .i32 1) rfl (fun n=>by simp[go_sem,vU n]) (fun n x hx=>by simp[go_sem,vU n] at hx;subst hx;exact⟨Br Yk,aj,aj⟩) ?_;aE;refine W0.go rfl (fun _=>ak) ?_;refine W0.go rfl (fun _=>aD) ?_;refine W0.go rfl (fun _=>bg) ?_;refine dR ?_;refine im ?_;refine yj rfl ar rW (v:=.pointer (some ⟨K,off,none⟩)) rfl (fun n=>by simp[go_sem,hcv n]) (fun n x hx=>by simp[go_sem,hce n] at hx) ?_;aE;refine CG .releaseMerge (fun ad=>.inr ⟨ad,rfl⟩) rfl ar rW rfl func125 ah ah ah ah (ad:=⟨K,off,none⟩) aI rfl ?_;aE;refine W0.go rfl (fun _=>ak) ?_;refine W0.go rfl (fun _=>bg) ?_;refine dR ?_;refine yi .disable (.inl rfl) rfl ar rW rfl func120 ah ah ah ah rfl (d':=1) ar ?_;aE;refine W1.go rfl (fun _=>ak) ?_;refine W1.go rfl (fun _=>aD) ?_;refine W1.go rfl (fun _=>bg) ?_;refine dR ?_;refine im ?_;refine zD rfl ar rW rfl func126 ah ah ah (e:=Extern.Atomic.update (Op.intArith .add) .i32 true) ah (v:=.int .i32 0) (t:=fun w=>w.setCell ⟨K,off,none⟩ (.int .i32 0)) (evs:=#[⟨.cell ⟨K,off,none⟩,false,true⟩,⟨.cell ⟨K,off,none⟩,true,true⟩]) rfl (fun n=>rfl) (yB _ _ _) (fun n=>?_) (fun n=>?_) (JH _) ?_
 ·simp only[List.map_toArray,aA,aQ,Act.eval];aE;exact run_add_entry (v:=1) (d:=-1) hc hz
 ·simp only[List.map_toArray,aA,aQ,Act.eval];aE;rw[events_add_entry (w:=w.at n) (v:=1) (d:=-1) hc hz];rfl
 aE;refine im ?_;refine W1.go rfl (fun _=>ak) ?_;refine W1.go rfl (fun _=>aD) ?_;refine W1.go rfl (fun _=>aD) ?_;refine W1.go rfl (fun _=>bg) ?_;refine dR ?_;refine im ?_;refine W1.go rfl (fun _=>ak) ?_;refine W1.go rfl (fun _=>eB (t:=false) aI) ?_;simp only[aM,if_false];refine W1.go rfl (fun _=>cz) ?_;refine W1.go rfl (fun _=>bg) ?_;refine dR ?_;refine yi .enable (.inr rfl) rfl ar rW rfl func122 ah ah ah ah rfl (d':=0) ar ?_;aE;refine W0.go rfl (fun _=>ak) ?_;refine W0.go rfl (fun _=>eu) ?_;refine W0.go rfl (fun w6=>stepG_leave (b:=base 79) (v:=.tuple #[]) rfl rfl func79 (results_none ah _ _).1 (results_none ah _ _).2) ?_;exact Lg _ o _ ⟨rfl,rfl,rfl⟩
theorem JI(K off:Nat)(Yk:o K)(hc:w.cell? ⟨K,off,none⟩=some (.int .i32 1))(hz:w.frozen? ⟨K,off,none⟩=false)(b:Frame)(tm:Array Value)(ds:List Deferred)(todo:List Item)(cs:List Frame)(h:XB au Fin 0 o (G {b.at ⟨tm,ds⟩ todo with mode:=.returning} cs) (w.setCell ⟨K,off,none⟩ (.int .i32 0))):
  XB au Fin 0 o (G {b.at ⟨tm,{target:=.fn (.func 46) #[],args:=#[.pointer (some ⟨K,off,none⟩)]}::ds⟩ todo with mode:=.returning} cs) w:=by
 have W0:=bY (P:=au) (Fin:=Fin) (d:=0);have rW:(baseD 46).kind≠.early:=by simp[baseD]
 refine W0.go rfl (fun w1=>stepG_unwind_enter rfl func46 ah rfl) ?_;bP Tryz.f46;refine W0.go rfl (fun _=>bg) ?_;refine dR ?_;refine im ?_;refine W0.go rfl (fun w1=>qq rfl ar rW rfl func79 ah rfl w1) ?_;simp only[List.map_toArray,aA,aQ,Act.eval];aE;refine Qm K off Yk hc hz _ _ ?_;rintro v o' w' ⟨rfl,rfl,rfl⟩;rw[ek];simp only[List.getElem?_toArray,List.getElem?_cons_succ,List.getElem?_cons_zero,Option.bind_some];aE;refine W0.go rfl (fun _=>ak) ?_;refine W0.go rfl (fun _=>eu) ?_;exact W0.go rfl (fun w1=>stepG_leave_deferred rfl rfl func46 (results_none ah _ _).1 (results_none ah _ _).2 rfl) h
end
def L0(n:Nat):Bool:=[15,17,18,19,20,22,26,27,29,31,33,35,39,40,41,43,47,48,50,51,52,53,56,59,60,62,66,67,68,69,70,71,72,75,76,77,80,82,83,84,85,86,87,88,89,90,91,92,93,94,95,96,97,98,100,102,103,104,105,106,107,108,109,118,119,128,129,130,131,132,133,134,135,136,137,138,139,140,141,145,146,147,148,149,150,162,163,168,176,177,178,179,180,181,185,186,187,188,189,190,191,196,197,198,199,202,204,205,206,207,208,209,210,211,212,213,214,215,216,217,218,219,220,221,222,223,224,225,226,227,228,229,230,231,232,233,234,235,236,237,238,239,240,241,242,243,244,245,246,247,248,249,250,251,252,253,254,255,256,257,258,259,260,261,262,263].contains n
theorem Tn:([15,17,18,19,20,22,26,27,29,31,33,35,39,40,41,43,47,48,50,51,52,53,56,59,60,62,66,67,68,69,70,71,72,75,76,77,80,82,83,84,85,86,87,88,89,90,91,92,93,94,95,96,97,98,100,102,103,104,105,106,107,108,109,118,119,128,129,130,131,132,133,134,135,136,137,138,139,140,141,145,146,147,148,149,150,162,163,168,176,177,178,179,180,181,185,186,187,188,189,190,191,196,197,198,199,202,204,205,206,207,208,209,210,211,212,213,214,215,216,217,218,219,220,221,222,223,224,225,226,227,228,229,230,231,232,233,234,235,236,237,238,239,240,241,242,243,244,245,246,247,248,249,250,251,252,253,254,255,256,257,258,259,260,261,262,263]:List Nat).all (VX au L0 4 [224,262,263])=true:=ah
theorem Wm(n:Nat)(hn:L0 n=true)(f:Rn)(hf:nL au f)(hh:∀n,L0 n=true->f.h n=n)(args:Array Value):Rel au f (jm L0 f) (callFunc n args) (callFunc n (args.map (val f))):=by
 obtain⟨fn,h1,-,h2⟩:=Bw Tn (List.contains_iff_mem.1 (by unfold L0 at hn;exact hn));rcases h2 with⟨h2,h3⟩|h2;rotate_left;simp only[bK,dj,or_false] at h2;rcases h2 with rfl|rfl|rfl
 rotate_right
 ·exact E7 h1 h2 h3 hn args
 ·exact oH func224 rfl ah ah rfl (hh _ ah) args (Iw _)
 ·exact oH func262 rfl ah ah rfl (hh _ ah) args (xX _)
 ·exact oH func263 rfl ah ah rfl (hh _ ah) args (uj hf _ _ _)
theorem aac(hz:∀t i z,au.info? t=some i->i.zero=some z->∀f:Rn,val f z=z):rS au L0 4 where
 zero:=hz
 call:=fun n hn=>Wm n hn
 body:=fun n hn=>by
  obtain⟨fn,h1,h2,-⟩:=Bw Tn (List.contains_iff_mem.1 (by unfold L0 at hn;exact hn));exact⟨fn,h1,fun c hc=>by rw[hc] at h2;exact h2⟩
theorem To:au.globals.size=4:=ah
theorem bS:rS au L0 au.globals.size:=by rw[To];exact aac Fw
structure aJ where
 out:af
 eU:Int
 sa:Option Addr
 sl:Nat
 sc:Nat
def aJ.cells(r:aJ):List Value:=[.string r.out,.int .i64 r.eU,Value.slice r.sa r.sl r.sc]
def aJ.agg(r:aJ):Value:=.agg #[.string r.out,.int .i64 r.eU,Value.slice r.sa r.sl r.sc]
def eX(w:ae)(b:Nat)(rs:List aJ):Prop:=∀i (h:i<rs.length),w.cell? ⟨b,i*3,none⟩=some (.string rs[i].out)/\w.cell? ⟨b,i*3+1,none⟩=some (.int .i64 rs[i].eU)/\w.cell? ⟨b,i*3+2,none⟩=some (.slice rs[i].sa rs[i].sl rs[i].sc)
section
variable {Fin:bL} {o:aN} {w:ae}
theorem C0:(au.info? 42).map (fun i=>(i.zero,i.size,i.bytes))=some (some (.agg #[.string aP,.int .i64 0,.slice none 0 0]),3,48):=ah
theorem grow_grow{o:aN}{w w1 w3 w4:ae}(h1:w.heap.size<=w1.heap.size)(h2:w3.heap.size=w1.heap.size)(h3:w3.heap.size<=w4.heap.size):grow (grow o w w1) w3 w4=grow o w w4:=by
 funext b;simp only[grow,eq_iff_iff];constructor
 ·rintro((h|h)|h)
  ·exact .inl h
  ·exact .inr aa
  ·exact .inr aa
 ·rintro(h|h)
  ·exact .inl (.inl h)
  ·by_cases hb:b<w1.heap.size
   ·exact .inl (.inr aa)
   ·exact .inr aa
theorem dF{w w':ae}{lo:Nat}{e:TypeId}{sz:Nat}{v:Value}{n:Nat}{xs:List Value}(h:w.ownsRow lo e sz v n xs)(hh:∀g,some g=v.ownBlock->lo<=g->w'.heap[g]?=w.heap[g]?):w'.ownsRow lo e sz v n xs:=by
 obtain⟨h1,h2⟩:=h;refine⟨h1,h2.imp id ?_⟩;rintro⟨g,cap,cur,rfl,k1,k2,k3⟩;exact⟨g,cap,cur,rfl,k1,by rw[hh g rfl k1];exact k2,k3⟩
theorem jF{P:Program}{o:Oper}{a:Act}{w w':ae}{v xv v':Value}(s x:Operand)(t:TypeId)(ho:o.op=.call {callee:=.builtin .append,args:=#[s,x],argTypes:=#[t,t]})(hs:a.eval s=v)(hx:a.eval x=xv)(hr:(Builtin.append_ #[t,t] o.type #[v,xv]).run P w=.ok v' w'):(execOp a.eval o).run P w=.ok (.value v') w':=by
 unfold execOp;simp only[ho,resolve,invoke,builtin,Sem.run_bind,Sem.run_pure,Result.andThen_ok,List.map_toArray,aA,aQ,hs,hx,hr]
structure Round(w w':ae)(Bx l lo i:Nat)(v v':Value)(xs:List Value)(r:aJ)(lr:Loop):Prop where
 size:w.heap.size<=w'.heap.size
 old:∀b,b<w.heap.size->b≠Bx->b≠l->some b≠v.ownBlock->w'.heap[b]?=w.heap[b]?
 box:w'.heap[Bx]?=some (.cells #[v'] 35 (0,0))
 Wn:w'.heap[l]?=some (.loop {lr with state:=.ready,pending:=none})
 row:w'.ownsRow lo 42 3 v' (i+1) (xs++r.cells)
theorem Wo(hF:bN au L0 o w)(Bx l lo i:Nat)(v:Value)(xs:List Value)(r:aJ)(lr:Loop)(hi:i<8)(hBx:o Bx)(hl:o l)(dJ:Bx≠l)(hb:w.heap[Bx]?=some (.cells #[v] 35 (0,0)))(Tc:w.heap[l]?=some (.loop lr))(eI:lr.state=.ready)(vO:lo<=w.heap.size)(hBb:Bx<lo)(hlb:l<lo)(fy:∀b,lo<=b->b<w.heap.size->o b)(cp:w.ownsRow lo 42 3 v i xs)(fB:Cl au L0 o (.slice r.sa r.sl r.sc)){r0 r1 tl PO bd:Code}{x:Operand}{ps:Array Tmp}(fK:Tryz.f203.body=some (.seq r0 (.seq (.seq r1 (.block 0 (.rangeFunc x ps PO bd))) tl)))(tm:Array Value)(fJ:tm.size=13)(t2:tm[2]?=some (.pointer (some ⟨Bx,0,none⟩)))(t7:tm[7]?=some r.agg)(c:Frame)(cs:List Frame)(h:∀v' w',Round w w' Bx l lo i v v' xs r lr->bN au L0 (grow o w w') w'->XB au Fin 0 (grow o w w') (G (c.finish (.bool true)) cs) w'):
  XB au Fin 0 o (G (Frame.round l 203 tm PO bd .normal) (c::cs)) w:=by
 have Wj:=fK;simp only[Tryz.f203,ay,Code.seq.injEq,Code.block.injEq,Code.rangeFunc.injEq,true_and] at Wj;obtain⟨-,⟨-,-,-,rfl,rfl⟩,-⟩:=Wj;have W:=bY (P:=au) (Fin:=Fin) (d:=0);obtain⟨gs,rfl⟩:=lv fJ;simp only[List.range,List.range.loop,aA,aQ] at *;simp only[List.getElem?_toArray,List.getElem?_cons_succ,List.getElem?_cons_zero,ay] at t2 t7;simp only[t2,t7];rw[round_eq];have vk:∀{x:Op},(∀c,x≠.defer c)->∀c,x≠.defer c:=fun h=>h;refine W.go rfl (fun _=>yk) ?_;refine dR ?_;refine Bs bS hF rfl (fun w1 v w' hr=>oP rfl ar aj hr rfl) ar ni (R:=fun wl v aW=>v=.pointer (some ⟨wl.heap.size,0,none⟩)/\aW=wl.alloc (Obj.cells #[.string aP,.int .i64 0,.slice none 0 0] 42)) (fun wl aU=>⟨_,_,by simp[go_sem];rfl,rfl,rfl⟩) fun wl v1 aW w1 aU hR bO=>?_;obtain⟨rfl,hR⟩:=hR;obtain⟨z1,k1,k2⟩:=bO.alloc hF aU hR;have lD:=bO.aG;rw[aU.size];clear hR bO aU wl aW;aE;have Qn:grow o w w1 w.heap.size:=.inr ⟨ag _,aa⟩;have Wp:Cl au L0 (grow o w w1) r.agg:=fX (vs:=[.string r.out,.int .i64 r.eU,Value.slice r.sa r.sl r.sc]) (by
  intro y hy;simp at hy;rcases hy with rfl|rfl|rfl
  ·exact bU
  ·exact dU
  ·exact fB.up jr)
 have cB:∀b,o b->b<w.heap.size:=fun b hb=>hF.lt hb;have adu:=cB Bx hBx;have ahN:=cB l hl;refine CI bS lD rfl (fun w1 w' hr=>CK rfl ar aj hr rfl) ar ?_ (R:=fun wl aW=>aW=((wl.setCell ⟨w.heap.size,0,none⟩ (.string r.out)).setCell ⟨w.heap.size,1,none⟩ (.int .i64 r.eU)).setCell ⟨w.heap.size,2,none⟩ (Value.slice r.sa r.sl r.sc)) (fun wl aU=>?_) fun wl aW w2 aU hR bO=>?_
 ·intro y hy;simp[Op.operands] at hy;rcases hy with rfl|rfl
  ·exact bX Qn
  ·simp[Act.eval];exact Wp
 ·have hx:wl.heap[w.heap.size]?=some (Obj.cells #[.string aP,.int .i64 0,.slice none 0 0] 42):=(aU.heap _ Qn).trans k2;refine⟨_,?_,rfl⟩;have c0:wl.cell? ⟨w.heap.size,0,none⟩=some (.string aP):=by simp[World.cell?,hx]
  have c1:wl.cell? ⟨w.heap.size,1,none⟩=some (.int .i64 0):=by simp[World.cell?,hx]
  have c2:wl.cell? ⟨w.heap.size,2,none⟩=some (.slice none 0 0):=by simp[World.cell?,hx]
  have f:∀j,wl.frozen? ⟨w.heap.size,j,none⟩=false:=fun j=>by simp[World.frozen?,hx]
  simp[go_sem,aJ.agg,c0,c1,c2,f]
 obtain⟨z2,m1,m2,e2⟩:=bO.store aU Qn (by rw[hR];simp[World.setCell]) (fun b hb=>by rw[hR,RowKit.Below.heap_setCell _ _ _ b hb,RowKit.Below.heap_setCell _ _ _ b hb,RowKit.Below.heap_setCell _ _ _ b hb]);have m2':w2.heap[w.heap.size]?=some (Obj.cells #[.string r.out,.int .i64 r.eU,Value.slice r.sa r.sl r.sc] 42):=by
  have hx:wl.heap[w.heap.size]?=some (Obj.cells #[.string aP,.int .i64 0,.slice none 0 0] 42):=(aU.heap _ Qn).trans k2;rw[m2,hR];simp[World.setCell,aS,hx]
 have rV:=bO.aG;rw[e2] at rV |-;clear hR bO aU wl aW m2;aE;refine W.go rfl (fun _=>sf) ?_;have Oe:w2.heap[l]?=some (.loop lr):=by rw[m1 l aa,k1 l ahN];exact Tc
 have pH:w2.heap[Bx]?=some (.cells #[v] 35 (0,0)):=by rw[m1 Bx aa,k1 Bx adu];exact hb
 refine sg (t:=fun w=>dE w l {lr with state:=.busy}) (l:=l) rfl (fun n=>I8 (w:=w2.at n) Oe eI) (by simp[dE]) ?_;have pE:bN au L0 (grow o w w1) (dE w2 l {lr with state:=.busy}):=pR rV rfl (fun f=>by simp[obj]) (.inl hl);have adv:(dE w2 l {lr with state:=.busy}).heap[l]?=some (.loop {lr with state:=.busy}):=by
  simp only[dE];rw[b9 aa]
 have m3:∀b,b≠l->(dE w2 l {lr with state:=.busy}).heap[b]?=w2.heap[b]?:=fun b hb=>by simp only[dE];rw[aT (bq hb)]
 have z3:(dE w2 l {lr with state:=.busy}).heap.size=w2.heap.size:=by simp[dE]
 generalize dE w2 l {lr with state:=.busy}=w3 at *;refine W.go rfl (fun _=>I7) ?_;refine W.go rfl (fun _=>yk) ?_;refine dR ?_;have hoB:grow o w w1 Bx:=.inl hBx;have xA:w3.heap[Bx]?=some (.cells #[v] 35 (0,0)):=(m3 Bx dJ).trans pH;have Er:w3.heap[w.heap.size]?=some (Obj.cells #[.string r.out,.int .i64 r.eU,.slice r.sa r.sl r.sc] 42):=(m3 _ aa).trans m2';refine zF bS pE rfl (fun w1 v w' hr=>oP rfl ar aj hr rfl) ar (v:=v) ?_ (fun wl aU=>?_) fun Wq=>?_
 ·intro y hy;simp[Op.operands] at hy;subst hy;exact bX hoB
 ·have hx:=(aU.heap _ hoB).trans xA;have c0:wl.cell? ⟨Bx,0,none⟩=some v:=by simp[World.cell?,hx]
  simp[go_sem,c0]
 aE;refine zF bS pE rfl (fun w1 v w' hr=>oP rfl ar aj hr rfl) ar (v:=r.agg) ?_ (fun wl aU=>?_) fun _=>?_
 ·intro y hy;simp[Op.operands] at hy;subst hy;exact bX Qn
 ·have hx:=(aU.heap _ Qn).trans Er;have c0:wl.cell? ⟨w.heap.size,0,none⟩=some (.string r.out):=by simp[World.cell?,hx]
  have c1:wl.cell? ⟨w.heap.size,1,none⟩=some (.int .i64 r.eU):=by simp[World.cell?,hx]
  have c2:wl.cell? ⟨w.heap.size,2,none⟩=some (.slice r.sa r.sl r.sc):=by simp[World.cell?,hx]
  simp[go_sem,c0,c1,c2,aJ.agg]
 aE;have aot:bN au L0 (grow o w w1) w3:=pE;refine Bs bS pE rfl (fun w1 v w' hr=>oP rfl ar aj hr rfl) ar ?_ (R:=fun wl v aW=>v=.slice (some ⟨wl.heap.size,0,none⟩) 1 1/\aW=wl.alloc (Obj.cells #[.string r.out,.int .i64 r.eU,.slice r.sa r.sl r.sc] 42)) (fun wl aU=>⟨_,_,?_,rfl,rfl⟩) fun wl v1 aW w4 aU hR bO=>?_
 ·intro y hy;simp[Op.operands] at hy;subst hy;simp[Act.eval];exact Wp
 ·simp[go_sem,aJ.agg]
 obtain⟨rfl,hR⟩:=hR;obtain⟨z4,n1,n2⟩:=bO.alloc pE aU hR;have tB:=bO.aG;rw[aU.size];clear hR bO aU wl aW;aE;have g4:grow (grow o w w1) w3 w4=grow o w w4:=grow_grow aa aa aa;rw[g4] at tB |-;have hw4:w.heap.size<=w4.heap.size:=aa;have Tp:∀b,b<w.heap.size->b≠l->w4.heap[b]?=w.heap[b]?:=fun b hb Va=>by rw[n1 b aa,m3 b Va,m1 b aa,k1 b hb]
 have NZ:w4.ownsRow lo 42 3 v i xs:=dF cp fun g hg Tq=>by
  obtain⟨hlen,gf⟩:=cp;rcases gf with⟨rfl,_⟩|⟨g',cap,cur,rfl,h1,h2,_⟩
  ·cases hg
  ·cases hg;exact Tp _ (Array.getElem?_eq_some_iff.1 h2).1 aa
 have adw:Cl au L0 (grow o w w4) v:=by rw[<- g4];exact Wq.up jr
 have hoN:grow o w w4 w3.heap.size:=.inr ⟨aa,aa⟩;have adx:∀g,some g=v.ownBlock->grow o w w4 g:=fun g hg=>by
  obtain⟨hlen,gf⟩:=cp;rcases gf with⟨rfl,_⟩|⟨g',cap,cur,rfl,h1,h2,_⟩
  ·cases hg
  ·cases hg;exact .inl (fy _ h1 (Array.getElem?_eq_some_iff.1 h2).1)
 obtain⟨ie,hie,Wr⟩:=Option.map_eq_some_iff.1 C0;simp only[bu] at Wr;refine Bs bS tB rfl (fun w1 v w' hr=>oP rfl ar aj hr rfl) ar ?_ (R:=fun wl v' aW=>aW.ownsRow lo 42 3 v' (i+1) (xs++r.cells)/\wl.grownBy aW v.ownBlock) (fun wl aU=>?_) fun wl v5 aW w5 aU hR bO=>?_
 ·intro y hy;simp[Op.operands,Call.operands] at hy;rcases hy with rfl|rfl
  ·simp[Act.eval];exact adw
  ·simp[Act.eval];exact ee hoN
 ·have hx:=(aU.heap _ hoN).trans n2;have Yl:wl.ownsRow lo 42 3 v i xs:=dF NZ fun g hg _=>aU.heap g (adx g hg);have JJ:∀j u,r.cells[j]?=some u->wl.cell? ((⟨w3.heap.size,0,none⟩:Addr).add j)=some u:=fun j u hu=>by
   rcases(show j=0\/j=1\/j=2\/3<=j by omega) with rfl|rfl|rfl|hj
   ·simp[aJ.cells] at hu;subst hu;simp[Addr.add,World.cell?,hx]
   ·simp[aJ.cells] at hu;subst hu;simp[Addr.add,World.cell?,hx]
   ·simp[aJ.cells] at hu;subst hu;simp[Addr.add,World.cell?,hx]
   ·rw[List.getElem?_eq_none (by simp[aJ.cells];omega)] at hu;cases hu
  have ady:∀u∈r.cells,u.oneCell'=true:=by
   intro u hu;simp[aJ.cells] at hu;rcases hu with rfl|rfl|rfl<;>rfl
  obtain⟨v',aW,e1,e2,e3,_⟩:=run_append_own wl lo 35 35 42 ie _ 3 48 underlying35 hie Wr.1 Wr.2.1 Wr.2.2 rfl aa v i xs Yl ⟨w3.heap.size,0,none⟩ 1 1 r.cells rfl JJ ady (by simp[maxLen];omega) aa (by rw[aU.size];omega);exact⟨v',aW,jF (.tmp 8) (.tmp 10) 35 rfl aI aI e1,e2,e3⟩
 have g5:grow (grow o w w4) w4 w5=grow o w w5:=grow_grow hw4 rfl bO.jq;have FA:=bO.aG;have hs5:=bO.same;have Qb:=bO.rest;have z5:=bO.jq;rw[g5] at FA hs5 |-;obtain⟨yx,Ej⟩:=hR;have adA:∀b,b<w.heap.size->b≠l->some b≠v.ownBlock->w5.heap[b]?=w.heap[b]?:=fun b hb Va Ve=>by
  rw[<- Tp b hb Va];by_cases ho:grow o w w4 b
  ·rw[hs5 b (ho.imp id fun h=>⟨h.1,aa⟩),Ej.block b (by rw[aU.size];omega) Ve,aU.heap b ho]
  ·exact Qb b aa ho
 have hvl:∀g,some g=v.ownBlock->lo<=g:=fun g hg=>by
  obtain⟨hlen,gf⟩:=cp;rcases gf with⟨rfl,_⟩|⟨g',cap,cur,rfl,h1,h2,_⟩
  ·cases hg
  ·cases hg;exact h1
 have Tr:w5.ownsRow lo 42 3 v5 (i+1) (xs++r.cells):=dF yx fun g hg Tq=>hs5 g (by
  obtain⟨hlen,gf⟩:=yx;rcases gf with⟨rfl,_⟩|⟨g',cap,cur,rfl,h1,h2,_⟩
  ·cases hg
  ·have e:g=g':=aR hg;subst e;have h3:=(Array.getElem?_eq_some_iff.1 h2).1;have hz:=bO.size;by_cases hgw:g<w.heap.size
   ·exact .inl (fy _ h1 hgw)
   ·exact .inr ⟨aa,aa⟩)
 have ahP:w5.heap[l]?=w3.heap[l]?:=by
  rw[hs5 l (.inl hl),Ej.block l (by rw[aU.size];omega) (fun e=>by have:=hvl l e;omega),aU.heap l (.inl hl),n1 l aa]
 have ahQ:Cl au L0 (grow o w w5) v5:=by have:=bO.val;rw[g5] at this;exact this
 have hb5:w5.heap[Bx]?=some (.cells #[v] 35 (0,0)):=by rw[adA Bx adu dJ (fun e=>by have:=hvl Bx e;omega)];exact hb
 clear Ej yx aU bO wl aW hs5 Qb g5 g4;aE;have Ws:grow o w w5 Bx:=.inl hBx;refine CI bS FA rfl (fun w1 w' hr=>CK rfl ar aj hr rfl) ar ?_ (R:=fun wl aW=>aW=wl.setCell ⟨Bx,0,none⟩ v5) (fun wl aU=>⟨_,?_,rfl⟩) fun wl aW w6 aU hR bO=>?_
 ·intro y hy;simp[Op.operands] at hy;rcases hy with rfl|rfl
  ·exact bX Ws
  ·simp[Act.eval];exact ahQ
 ·have hx:=(aU.heap _ Ws).trans hb5;have c0:wl.cell? ⟨Bx,0,none⟩=some v:=by simp[World.cell?,hx]
  have f:∀j,wl.frozen? ⟨Bx,j,none⟩=false:=fun j=>by simp[World.frozen?,hx]
  obtain⟨hlen,gf⟩:=Tr;rcases gf with⟨rfl,_⟩|⟨g',cap,cur,rfl,h1,h2,_⟩
  ·simp[go_sem,c0,f]
  ·simp[go_sem,c0,f]
 obtain⟨z6,q1,q2,e6⟩:=bO.store aU Ws (by rw[hR];simp[World.setCell]) (fun b hb=>by rw[hR,RowKit.Below.heap_setCell _ _ _ b hb]);have q2':w6.heap[Bx]?=some (Obj.cells #[v5] 35):=by
  have hx:=(aU.heap _ Ws).trans hb5;rw[q2,hR];simp[World.setCell,aS,hx]
 have Es:=bO.aG;rw[e6] at Es |-;clear hR bO aU wl aW q2;aE;refine W.go rfl (fun _=>sf) ?_;refine W.go rfl (fun _=>El) ?_;have adC:w6.heap[l]?=some (.loop {lr with state:=.busy}):=by rw[q1 l (bq dJ),ahP];exact adv
 refine sg (t:=fun w=>dE w l {{lr with state:=.busy} with state:=.ready,pending:=none}) (l:=l) rfl (fun n=>PQ (w:=w6.at n) adC) (by simp[dE]) ?_;have hF7:bN au L0 (grow o w w5) (dE w6 l {{lr with state:=.busy} with state:=.ready,pending:=none}):=pR Es rfl (fun f=>by simp[obj]) (.inl hl);have g7:grow o w w5=grow o w (dE w6 l {{lr with state:=.busy} with state:=.ready,pending:=none}):=by
  have:(dE w6 l {{lr with state:=.busy} with state:=.ready,pending:=none}).heap.size=w5.heap.size:=by simp[dE];omega
  unfold grow;rw[this]
 rw[g7] at hF7 |-;have q3:∀b,b≠l->(dE w6 l {{lr with state:=.busy} with state:=.ready,pending:=none}).heap[b]?=w6.heap[b]?:=fun b hb=>by simp only[dE];rw[aT (bq hb)]
 refine h v5 _ ⟨?_,fun b h1 h2 h3 h4=>?_,?_,?_,?_⟩ hF7
 ·simp[dE];omega
 ·rw[q3 b h3,q1 b h2,adA b h1 h3 h4]
 ·rw[q3 Bx dJ];exact q2'
 ·simp only[dE];rw[b9 aa]
 ·refine dF Tr fun g hg Tq=>?_;rw[q3 g aa,q1 g aa]
structure Tt(o0:aN)(w0:ae)(Bx l rd lo:Nat)(lr:Loop)(rs:List aJ)(i:Nat)(o:aN)(w:ae)(v:Value):Prop where
 own:o=grow o0 w0 w
 aG:bN au L0 o w
 size:lo<=w.heap.size
 le:w0.heap.size<=w.heap.size
 old:∀b,b<lo->b≠Bx->b≠l->w.heap[b]?=w0.heap[b]?
 box:w.heap[Bx]?=some (.cells #[v] 35 (0,0))
 Wn:w.heap[l]?=some (.loop {lr with state:=.ready,pending:=none})
 row:w.ownsRow lo 42 3 v i ((rs.take i).flatMap aJ.cells)
theorem JK(o0:aN)(w0:ae)(Bx l rd lo Ru c:Nat)(lr:Loop)(rs:List aJ)(hn:rs.length<=8)(hBx:Bx<lo)(hl:l<lo)(dJ:Bx≠l)(hBl:w0.heap.size<=lo)(hBo:o0 Bx)(vO:o0 l)(aoz:lo=w0.heap.size)(za:o0 Ru)(adD:Ru≠Bx/\Ru≠l)(Cw:eX w0 Ru rs)(fB:∀r∈rs,Cl au L0 o0 (.slice r.sa r.sl r.sc))(p:Option Addr)(hp:rs≠[]->p=some ⟨Ru,0,none⟩)(lf:lr.fn=203)(lp:lr.params=#[7])(lt:lr.tmps.size=13)(lt2:lr.tmps[2]?=some (.pointer (some ⟨Bx,0,none⟩))){r0 r1 tl:Code}{x:Operand}{ps:Array Tmp}(fK:Tryz.f203.body=some (.seq r0 (.seq (.seq r1 (.block 0 (.rangeFunc x ps lr.assign lr.body))) tl))){q0 lq:Code}(aae:Tryz.f186.body=some (.seq q0 (.block 0 (.loop lq))))(cA:Frame)(cs:List Frame)(Te:∀o w v (tm:Array Value),Tt o0 w0 Bx l rd lo lr rs rs.length o w v->XB au Fin 0 o (G ((base 186).at ⟨tm,[]⟩ []) (cA::cs)) w):
  ∀r i,r+i=rs.length->∀o w v (tm:Array Value),Tt o0 w0 Bx l rd lo lr rs i o w v->tm.size=16->tm[0]?=some (.func (.yield l) #[] #[])->tm[5]?=some (.slice p rs.length c)->tm[6]?=some (.int .i64 rs.length)->tm[7]?=some (.int .i64 i) ->
   XB au Fin 0 o (G ((base 186).at ⟨tm,[]⟩ (.code lq :: .inLoop lq :: .inBlock 0::[])) (cA::cs)) w:=by
 have hlq:=aae;simp only[Tryz.f186,ay,Code.seq.injEq,Code.block.injEq,Code.loop.injEq,true_and] at hlq;obtain⟨-,hlq⟩:=hlq;have W:=bY (P:=au) (Fin:=Fin) (d:=0);have rW:(base 186).kind≠.early:=by simp[base]
 intro r
 induction r with
 |zero =>
  intro i hi o w v tm I fJ t0 t5 t6 t7;have hni:¬((i:Int)<(rs.length:Int)):=aa;obtain⟨gs,rfl⟩:=lv fJ;simp only[List.range,List.range.loop,aA,aQ] at *;simp only[List.getElem?_toArray,List.getElem?_cons_succ,List.getElem?_cons_zero,ay] at t0 t5 t6 t7;simp only[t0,t5,t6,t7];rw[show(Item.code lq)=Item.code _ from congrArg Item.code hlq.symm];refine W.go rfl (fun _=>aD) ?_;refine W.go rfl (fun _=>bg) ?_;refine dR ?_;refine im ?_;refine W.go rfl (fun _=>ak) ?_;refine W.go rfl (fun _=>aD) ?_;refine W.go rfl (fun _=>eB (t:=false) (by simp[Act.eval,hni])) ?_;simp only[aM,if_false];refine W.go rfl (fun _=>stepG_exit rfl) ?_;exact Te o w v _ (by rw[show rs.length=i by omega];exact I)
 |succ r ih =>
  intro i hi o w v tm I fJ t0 t5 t6 t7;have cB:i<rs.length:=aa;have hlI:(i:Int)<(rs.length:Int):=aa;obtain rfl:=hp (fun e=>by rw[e] at cB;simp at cB);have rm:IntKind.wrap .i64 ((i:Int)+1)=(i:Int)+1:=by rw[IntKind.wrap_i64];omega
  obtain⟨gs,rfl⟩:=lv fJ;simp only[List.range,List.range.loop,aA,aQ] at *;simp only[List.getElem?_toArray,List.getElem?_cons_succ,List.getElem?_cons_zero,ay] at t0 t5 t6 t7;simp only[t0,t5,t6,t7];rw[show(Item.code lq)=Item.code _ from congrArg Item.code hlq.symm];refine W.go rfl (fun _=>aD) ?_;refine W.go rfl (fun _=>bg) ?_;refine dR ?_;refine im ?_;refine W.go rfl (fun _=>ak) ?_;refine W.go rfl (fun _=>aD) ?_;refine W.go rfl (fun _=>eB (t:=true) (by simp[Act.eval,hlI])) ?_;simp only[if_true];refine W.go rfl (fun _=>cz) ?_;refine W.go rfl (fun _=>aD) ?_;refine W.go rfl (fun _=>fh) ?_;refine W.go rfl (fun _=>aD) ?_;refine W.go rfl (fun _=>bg) ?_;refine dR ?_;refine im ?_;have om:∀b,o0 b->o b:=fun b hb=>by rw[I.own];exact .inl hb
  have adF:Ru<lo:=by
   have:=(Cw 0 aa).1;have h2:Ru<w0.heap.size:=by
    refine fF fun hh=>?_;rw[World.cell?,cI hh] at this;cases this
   omega
  have JL:w.heap[Ru]?=w0.heap[Ru]?:=I.old Ru adF adD.1 adD.2;have Wt:Cl au L0 o (.slice rs[i].sa rs[i].sl rs[i].sc):=(fB _ (aH cB)).up om;have Wp:Cl au L0 o rs[i].agg:=fX (vs:=[.string rs[i].out,.int .i64 rs[i].eU,.slice rs[i].sa rs[i].sl rs[i].sc]) (by
   intro y hy;simp at hy;rcases hy with rfl|rfl|rfl
   ·exact bU
   ·exact dU
   ·exact Wt)
  refine mZ bS I.aG rfl ar rW ar ?_ rfl (v:=rs[i].agg) (fun wl aU=>?_) fun _=>?_
  ·intro y hy;simp[Op.operands] at hy;subst hy;exact bX (om _ za)
  ·have hx:=(aU.heap _ (om _ za)).trans JL;obtain⟨c0,c1,c2⟩:=Cw i cB;have d0:wl.cell? ⟨Ru,i*3,none⟩=some (.string rs[i].out):=(cell_of hx).trans c0;have d1:wl.cell? ⟨Ru,i*3+1,none⟩=some (.int .i64 rs[i].eU):=(cell_of hx).trans c1;have d2:wl.cell? ⟨Ru,i*3+2,none⟩=some (.slice rs[i].sa rs[i].sl rs[i].sc):=(cell_of hx).trans c2;simp[go_sem,d0,d1,d2,aJ.agg]
  aE;generalize hri:rs[i]=ri at *;refine CJ bS I.aG rfl ar rW ar ni rfl (R:=fun wl v aW=>v=.pointer (some ⟨wl.heap.size,0,none⟩)/\aW=wl.alloc (Obj.cells #[.string aP,.int .i64 0,.slice none 0 0] 42)) (fun wl aU=>⟨_,_,by simp[go_sem];rfl,rfl,rfl⟩) fun wl v1 aW w1 aU hR bO=>?_;obtain⟨rfl,hR⟩:=hR;obtain⟨z1,k1,k2⟩:=bO.alloc I.aG aU hR;have lD:=bO.aG;rw[aU.size];clear hR bO aU wl aW;aE;have Qn:grow o w w1 w.heap.size:=.inr ⟨ag _,aa⟩;refine AA bS lD rfl ar rW ar ?_ rfl (R:=fun wl aW=>aW=((wl.setCell ⟨w.heap.size,0,none⟩ (.string ri.out)).setCell ⟨w.heap.size,1,none⟩ (.int .i64 ri.eU)).setCell ⟨w.heap.size,2,none⟩ (.slice ri.sa ri.sl ri.sc)) (fun wl aU=>?_) fun wl aW w2 aU hR bO=>?_
  ·intro y hy;simp[Op.operands] at hy;rcases hy with rfl|rfl
   ·exact bX Qn
   ·simp[Act.eval];exact Wp.up jr
  ·have hx:wl.heap[w.heap.size]?=some (Obj.cells #[.string aP,.int .i64 0,.slice none 0 0] 42):=(aU.heap _ Qn).trans k2;refine⟨_,?_,rfl⟩;have c0:wl.cell? ⟨w.heap.size,0,none⟩=some (.string aP):=by simp[World.cell?,hx]
   have c1:wl.cell? ⟨w.heap.size,1,none⟩=some (.int .i64 0):=by simp[World.cell?,hx]
   have c2:wl.cell? ⟨w.heap.size,2,none⟩=some (.slice none 0 0):=by simp[World.cell?,hx]
   have f:∀j,wl.frozen? ⟨w.heap.size,j,none⟩=false:=fun j=>by simp[World.frozen?,hx]
   simp[go_sem,aJ.agg,c0,c1,c2,f]
  obtain⟨z2,m1,m2,e2⟩:=bO.store aU Qn (by rw[hR];simp[World.setCell]) (fun b hb=>by rw[hR,RowKit.Below.heap_setCell _ _ _ b hb,RowKit.Below.heap_setCell _ _ _ b hb,RowKit.Below.heap_setCell _ _ _ b hb]);have m2':w2.heap[w.heap.size]?=some (Obj.cells #[.string ri.out,.int .i64 ri.eU,.slice ri.sa ri.sl ri.sc] 42):=by
   have hx:wl.heap[w.heap.size]?=some (Obj.cells #[.string aP,.int .i64 0,.slice none 0 0] 42):=(aU.heap _ Qn).trans k2;rw[m2,hR];simp[World.setCell,aS,hx]
  have rV:=bO.aG;rw[e2] at rV |-;clear hR bO aU wl aW m2;aE;refine W.go rfl (fun _=>ak) ?_;refine W.go rfl (fun _=>aD) ?_;refine W.go rfl (fun _=>bg) ?_;refine dR ?_;refine im ?_;refine mZ bS rV rfl ar rW ar ?_ rfl (v:=ri.agg) (fun wl aU=>?_) fun _=>?_
  ·intro y hy;simp[Op.operands] at hy;subst hy;exact bX Qn
  ·have hx:=(aU.heap _ Qn).trans m2';have c0:wl.cell? ⟨w.heap.size,0,none⟩=some (.string ri.out):=by simp[World.cell?,hx]
   have c1:wl.cell? ⟨w.heap.size,1,none⟩=some (.int .i64 ri.eU):=by simp[World.cell?,hx]
   have c2:wl.cell? ⟨w.heap.size,2,none⟩=some (.slice ri.sa ri.sl ri.sc):=by simp[World.cell?,hx]
   simp[go_sem,c0,c1,c2,aJ.agg]
  aE;have hlw:l<w.heap.size:=by have:=I.size;omega
  have hBw:Bx<w.heap.size:=by have:=I.size;omega
  have Oe:w2.heap[l]?=some (.loop {lr with state:=.ready,pending:=none}):=by rw[m1 l aa,k1 l hlw];exact I.Wn
  refine sg (t:=fun w=>w) (l:=l) rfl (fun n=>I6 (w:=w2.at n) (t:=7) rfl ar rW rfl aI rfl Oe lp) rfl ?_;have aoD:w2.heap.size=w.heap.size+1:=aa;simp only[lf];refine Wo rV Bx l lo i v ((rs.take i).flatMap aJ.cells) ri {lr with state:=.ready,pending:=none} aa (.inl (om _ hBo)) (.inl (om _ vO)) dJ ?_ Oe rfl (by have:=I.size;omega) hBx hl ?_ ?_ (Wt.up jr) fK _ ?_ ?_ ?_ _ _ ?_
  ·rw[m1 Bx aa,k1 Bx hBw];exact I.box
  ·intro b h1 h2;by_cases hb:b<w.heap.size
   ·refine .inl ?_;rw[I.own];exact .inr ⟨aa,hb⟩
   ·exact .inr ⟨aa,aa⟩
  ·refine dF I.row fun g hg Tq=>?_;have hgw:g<w.heap.size:=by
    obtain⟨hlen,gf⟩:=I.row;rcases gf with⟨rfl,_⟩|⟨g',cap,cur,rfl,h1,h2,_⟩
    ·cases hg
    ·have e:g=g':=aR hg;subst e;exact(Array.getElem?_eq_some_iff.1 h2).1
   rw[m1 g aa,k1 g hgw]
  ·simp[lt]
  ·rw[aT aa];exact lt2
  ·rw[b9 aa];simp[Act.eval]
  intro v' w' Ym hF';have eg:grow (grow o w w1) w2 w'=grow o0 w0 w':=by
   rw[grow_grow aa z2 Ym.size,I.own,grow_grow I.le rfl (by have:=Ym.size;omega)]
  rw[eg] at hF' |-;rw[ek];aE;refine im ?_;refine W.go rfl (fun _=>ak) ?_;refine W.go rfl (fun _=>eB (t:=false) aI) ?_;simp only[aM,if_false];refine W.go rfl (fun _=>cz) ?_;refine W.go rfl (fun _=>gA) ?_;refine W.go rfl (fun _=>bg) ?_;refine dR ?_;refine im ?_;refine W.go rfl (fun _=>ak) ?_;refine W.go rfl (fun _=>iR) ?_;refine ih (i+1) aa _ _ v' _ ⟨rfl,hF',?_,?_,?_,Ym.box,Ym.Wn,?_⟩ rfl rfl rfl rfl ?_
  ·have:=Ym.size;have:=I.size;omega
  ·have:=Ym.size;have:=I.le;omega
  ·intro b h1 h2 h3;have hv:some b≠v.ownBlock:=fun e=>by
    obtain⟨hlen,gf⟩:=I.row;rcases gf with⟨rfl,_⟩|⟨g',cap,cur,rfl,h4,h5,_⟩
    ·cases e
    ·have e:b=g':=aR e;omega
   have gB:b<w.heap.size:=by have:=I.size;omega
   rw[Ym.old b aa h2 h3 hv,m1 b aa,k1 b gB];exact I.old b h1 h2 h3
  ·rw[List.take_add_one,bp cB,hri];simp only[List.flatMap_append,Option.toList_some,List.flatMap_cons,List.flatMap_nil,List.append_nil];exact Ym.row
  ·simp
theorem JM{P:Program}{L:Nat->Bool}{o:aN}{w:ae}(h:bN P L o w)(fn:FuncId)(tmps:Array Value)(ps:Array Tmp)(PO bd:Code):
  bN P L (fun b=>(o b\/b=w.heap.size)\/b=w.heap.size+1) (mX w fn tmps ps PO bd)/\(mX w fn tmps ps PO bd).heap.size=w.heap.size+2/\(∀b,b<w.heap.size->(mX w fn tmps ps PO bd).heap[b]?=w.heap[b]?)/\(mX w fn tmps ps PO bd).heap[w.heap.size]?=some (.deferred (some [])) /\
   (mX w fn tmps ps PO bd).heap[w.heap.size+1]?=some (.loop {state:=.ready,pending:=none,fn:=fn,tmps:=tmps,params:=ps,assign:=PO,body:=bd,defers:=w.heap.size}):=by
 refine⟨?_,by simp[mX],fun b hb=>?_,?_,?_⟩
 ·have h1:=h.alloc (x:=.deferred (some [])) rfl (fun f _=>by simp[obj]);have h2:=h1.alloc (x:=.loop {state:=.ready,pending:=none,fn:=fn,tmps:=tmps,params:=ps,assign:=PO,body:=bd,defers:=w.heap.size}) rfl (fun f _=>by simp[obj]);simpa[mX] using h2
 ·simp only[mX,World.alloc];rw[dB dX,Array.getElem_push_lt aa];simp[hb]
 ·simp only[mX,World.alloc];rw[dB aj,Array.getElem_push_eq]
 ·simp only[mX,World.alloc];rw[fL,if_pos aj]
theorem Wu{o0:aN}{w0:ae}{n:Nat}(hF:bN au L0 o0 w0)(hz:w0.heap.size=n+3)(o1:o0 n)(o2:o0 (n+1))(o3:o0 (n+2))(Z7:w0.heap[n]?=some (.cells #[.slice none 0 0] 35 (0,0)))(aaf:w0.heap[n+1]?=some (.deferred (some [])))(lr:Loop)(hlr:w0.heap[n+2]?=some (.loop lr))(ls:lr.state=.ready)(lpe:lr.pending=none)(Sv Ru c:Nat)(p:Option Addr)(rs:List aJ)(hn:rs.length<=8)(Vf:o0 Sv)(hs:w0.cell? ⟨Sv,0,none⟩=some (.slice p rs.length c))(hp:rs≠[]->p=some ⟨Ru,0,none⟩)(za:o0 Ru)(Wv:Ru<n)(Cw:eX w0 Ru rs)(fB:∀r∈rs,Cl au L0 o0 (.slice r.sa r.sl r.sc))(lf:lr.fn=203)(lp:lr.params=#[7])(lt:lr.tmps.size=13)(lt2:lr.tmps[2]?=some (.pointer (some ⟨n,0,none⟩))){r0 r1 tl:Code}{x:Operand}{ps:Array Tmp}(fK:Tryz.f203.body=some (.seq r0 (.seq (.seq r1 (.block 0 (.rangeFunc x ps lr.assign lr.body))) tl)))(cf:Frame)(cs:List Frame)(h:∀v w',w'.heap.size>=n+3->bN au L0 (grow o0 w0 w') w'->(∀b,b<n->w'.heap[b]?=w0.heap[b]?)->w'.ownsRow (n+3) 42 3 v rs.length (rs.flatMap aJ.cells)->XB au Fin 0 (grow o0 w0 w') (G (cf.finish v) cs) w'):
  XB au Fin 0 o0 (G (Frame.enter au 186 #[.func (.yield (n+2)) #[] #[],.pointer (some ⟨Sv,0,none⟩)] .normal) ((base 203).at ⟨lr.tmps,[{target:=.collected (n+1),args:=#[]}]⟩ [.inRangeFunc (n+2),.inBlock 0,.code tl]::cf::cs)) w0:=by
 have W:=bY (P:=au) (Fin:=Fin) (d:=0);have rW:(base 186).kind≠.early:=by simp[base]
 have adH:(base 203).kind≠.early:=by simp[base]
 have hs0:∃x,w0.heap[Sv]?=some x:=by obtain⟨x,k,_⟩:=hF.shut Sv Vf;exact⟨x,k⟩
 rw[iS func186 rfl];bP Tryz.f186;refine W.go rfl (fun _=>aD) ?_;refine W.go rfl (fun _=>bg) ?_;refine dR ?_;refine mZ bS hF rfl ar rW ar ?_ rfl (v:=.slice p rs.length c) (fun wl aU=>?_) fun _=>?_
 ·intro y hy;simp[Op.operands] at hy;subst hy;exact bX Vf
 ·obtain⟨x,hx⟩:=hs0;have c0:wl.cell? ⟨Sv,0,none⟩=some (.slice p rs.length c):=(cell_of (aU.heap _ Vf)).trans hs;simp[go_sem,c0]
 aE;refine im ?_;refine W.go rfl (fun _=>ak) ?_;refine W.go rfl (fun _=>fh) ?_;refine W.go rfl (fun _=>jR) ?_;have ahR:({lr with state:=.ready,pending:=none}:Loop)=lr:=by cases lr;simp only at ls lpe;subst ls;subst lpe;rfl
 refine JK o0 w0 n (n+2) (n+1) (n+3) Ru c lr rs hn aa aa aa aa o1 o3 hz.symm za ⟨aa,aa⟩ Cw fB p hp lf lp lt lt2 fK rfl _ _ ?_ rs.length 0 rfl _ _ (.slice none 0 0) _ ⟨?_,hF,aa,ag _,fun _ _ _ _=>rfl,Z7,?_,?_⟩ rfl rfl rfl rfl rfl;rotate_left
 ·funext b;simp only[grow,eq_iff_iff];constructor
  ·exact .inl
  ·rintro(h1|h1)
   ·exact h1
   ·omega
 ·rw[hlr,ahR]
 ·exact⟨rfl,.inl ⟨rfl,rfl⟩⟩
 intro o' w' v tm I;refine W.go rfl (fun _=>eu) ?_;refine W.go rfl (fun w1=>stepG_leave rfl rfl func186 (results_none ah _ _).1 (results_none ah _ _).2) ?_;have Ca:((base 203).at ⟨lr.tmps,[{target:=.collected (n+1),args:=#[]}]⟩ [.inRangeFunc (n+2),.inBlock 0,.code tl]).finish (.tuple #[])=(base 203).at ⟨lr.tmps,[{target:=.collected (n+1),args:=#[]}]⟩ [.endRangeFunc (n+2),.inBlock 0,.code tl]:=by
  simp[Frame.finish,Frame.at]
 rw[Ca];have hl':=I.Wn;refine sg (t:=fun w=>dE w (n+2) {{lr with state:=.ready,pending:=none} with state:=.exhausted}) (l:=n+2) rfl (fun m=>Ek (w:=w'.at m) hl' rfl rfl rfl) (by simp[dE]) ?_;have om:∀b,o0 b->o' b:=fun b hb=>by rw[I.own];exact .inl hb
 have lD:bN au L0 o' (dE w' (n+2) {{lr with state:=.ready,pending:=none} with state:=.exhausted}):=pR I.aG rfl (fun f=>by simp[obj]) (om _ o3);have ZK:(dE w' (n+2) {{lr with state:=.ready,pending:=none} with state:=.exhausted}).heap.size=w'.heap.size:=by simp[dE]
 have Yn:∀b,b≠n+2->(dE w' (n+2) {{lr with state:=.ready,pending:=none} with state:=.exhausted}).heap[b]?=w'.heap[b]?:=fun b hb=>by simp only[dE];rw[aT (bq hb)]
 generalize dE w' (n+2) {{lr with state:=.ready,pending:=none} with state:=.exhausted}=w1 at *;have htl:=fK;simp only[Tryz.f203,ay,Code.seq.injEq,true_and] at htl;obtain⟨-,-,htl⟩:=htl;obtain⟨gs,Rh⟩:=lv lt;rw[Rh] at lt2 |-;simp only[List.range,List.range.loop,aA,aQ] at lt2 |-;simp only[List.getElem?_toArray,List.getElem?_cons_succ,List.getElem?_cons_zero,ay] at lt2;simp only[lt2];rw[show(Item.code tl)=Item.code _ from congrArg Item.code htl.symm];refine W.go rfl (fun _=>gA) ?_;refine W.go rfl (fun _=>aD) ?_;refine W.go rfl (fun _=>bg) ?_;refine dR ?_;have By:w1.heap[n]?=some (.cells #[v] 35 (0,0)):=(Yn n aa).trans I.box;refine mZ bS lD rfl ar adH ar ?_ rfl (v:=v) (fun wl aU=>?_) fun _=>?_
 ·intro y hy;simp[Op.operands] at hy;subst hy;exact bX (om _ o1)
 ·have hx:=(aU.heap _ (om _ o1)).trans By;have c0:wl.cell? ⟨n,0,none⟩=some v:=by simp[World.cell?,hx]
  simp[go_sem,c0]
 aE;have rW:=adH;refine im ?_;refine W.go rfl (fun _=>ak) ?_;refine W.go rfl (fun _=>stepG_ret') ?_;have hd1:w1.heap[n+1]?=some (.deferred (some [])):=by rw[Yn _ aa,I.old _ aa aa aa];exact aaf
 refine sg (t:=fun w=>{w with heap:=w.heap.setIfInBounds (n+1) (.deferred none)}) (l:=n+1) rfl (fun m=>A5 (w:=w1.at m) rfl hd1) aj ?_;have rV:bN au L0 o' {w1 with heap:=w1.heap.setIfInBounds (n+1) (.deferred none)}:=pR lD rfl (fun f=>by simp[obj]) (om _ o2);have Z2:({w1 with heap:=w1.heap.setIfInBounds (n+1) (.deferred none)}:ae).heap.size=w'.heap.size:=by simp[ZK]
 have R2:∀b,b≠n+1->b≠n+2->({w1 with heap:=w1.heap.setIfInBounds (n+1) (.deferred none)}:ae).heap[b]?=w'.heap[b]?:=fun b h1 h2=>by
  rw[<- Yn b h2];exact aT (bq h1)
 generalize ({w1 with heap:=w1.heap.setIfInBounds (n+1) (.deferred none)}:ae)=w2 at *;refine W.go rfl (fun w1=>stepG_leave rfl rfl func203 (v:=v) (by simp[results,Tryz.f203,go_sem]) (by simp[results,Tryz.f203,go_sem])) ?_;have eo:o'=grow o0 w0 w2:=by rw[I.own];unfold grow;rw[Z2]
 rw[eo] at rV |-;have fJ:=I.size;refine h v w2 aa rV (fun b hb=>?_) ?_
 ·rw[R2 b aa aa];exact I.old b aa aa aa
 ·have hr:=I.row;rw[cU] at hr;exact dF hr fun g hg Tq=>R2 g aa aa
theorem JN(hF:bN au L0 o w)(Sv Ru c:Nat)(p:Option Addr)(rs:List aJ)(hn:rs.length<=8)(Vf:o Sv)(hs:w.cell? ⟨Sv,0,none⟩=some (.slice p rs.length c))(hp:rs≠[]->p=some ⟨Ru,0,none⟩)(za:o Ru)(Cw:eX w Ru rs)(fB:∀r∈rs,Cl au L0 o (.slice r.sa r.sl r.sc)):
  bA au (XB au Fin 0) 203 #[.slice none 0 0,.func (.func 186) #[] #[.pointer (some ⟨Sv,0,none⟩)]] o w fun v o' w' =>
   o'=grow o w w'/\bN au L0 o' w'/\(∀b,b<w.heap.size->w'.heap[b]?=w.heap[b]?)/\w'.ownsRow w.heap.size 42 3 v rs.length (rs.flatMap aJ.cells):=by
 intro cf cs Lg;have W:=bY (P:=au) (Fin:=Fin) (d:=0);have rW:(base 203).kind≠.early:=by simp[base]
 rw[iS func203 rfl];bP Tryz.f203;refine W.go rfl (fun _=>aD) ?_;refine W.go rfl (fun _=>bg) ?_;refine dR ?_;refine zC rfl ar rW rfl (Obj.cells #[.slice none 0 0] 35) (fun n=>.pointer (some ⟨n,0,none⟩)) (fun w1=>fU) (fun w1=>fU) ?_;aE;have lD:bN au L0 (fun b=>o b\/b=w.heap.size) (w.alloc (Obj.cells #[.slice none 0 0] 35)):=hF.alloc rfl fun f _=>by simp[obj,val]
 refine im ?_;refine W.go rfl (fun _=>ak) ?_;refine W.go rfl (fun _=>aD) ?_;refine W.go rfl (fun _=>aD) ?_;refine W.go rfl (fun _=>bg) ?_;refine dR ?_;refine im ?_;refine W.go rfl (fun _=>ak) ?_;refine W.go rfl (fun _=>fh) ?_;refine Ma (g:=186) rfl rW rfl (by simp[Act.eval];rfl) func186 ah rfl ?_;have Lf:=JM lD 203;have Wd:(w.alloc (Obj.cells #[.slice none 0 0] 35)).heap.size=w.heap.size+1:=aj;have adI:∀b,b<w.heap.size->(w.alloc (Obj.cells #[.slice none 0 0] 35)).heap[b]?=w.heap[b]?:=fun b hb=>RowKit.Below.heap_alloc w _ b hb;have adJ:(w.alloc (Obj.cells #[.slice none 0 0] 35)).heap[w.heap.size]?=some (Obj.cells #[.slice none 0 0] 35):=by simp only[World.alloc];rw[fL,if_pos rfl]
 generalize w.alloc (Obj.cells #[.slice none 0 0] 35)=wa at *;rw[Wd] at Lf;simp only[Wd];have ho:(fun b=>((o b\/b=w.heap.size)\/b=w.heap.size+1)\/b=w.heap.size+1+1)=(fun b=>((o b\/b=w.heap.size)\/b=w.heap.size+1)\/b=w.heap.size+2):=rfl;have Wv:Ru<w.heap.size:=hF.lt za;have hSn:Sv<w.heap.size:=hF.lt Vf;have om:∀{w':ae},(∀b,b<w.heap.size+1->w'.heap[b]?=wa.heap[b]?)->∀b,b<w.heap.size->w'.heap[b]?=w.heap[b]?:=fun h b hb=>(h b aa).trans (adI b hb);have hru:∀w0:ae,(∀b,b<w.heap.size+1->w0.heap[b]?=wa.heap[b]?)->eX w0 Ru rs:=fun w0 h0 i hi=>by
  have e:=om h0 Ru Wv;obtain⟨c0,c1,c2⟩:=Cw i hi;exact⟨(cell_of e).trans c0,(cell_of e).trans c1,(cell_of e).trans c2⟩
 have qK:∀w0:ae,w0.heap.size=w.heap.size+1+2->(∀b,b<w.heap.size+1->w0.heap[b]?=wa.heap[b]?)->∀v w',w'.heap.size>=w.heap.size+3->bN au L0 (grow (fun b=>((o b\/b=w.heap.size)\/b=w.heap.size+1)\/b=w.heap.size+1+1) w0 w') w'->(∀b,b<w.heap.size->w'.heap[b]?=w0.heap[b]?)->w'.ownsRow (w.heap.size+3) 42 3 v rs.length (rs.flatMap aJ.cells)->XB au Fin 0 (grow (fun b=>((o b\/b=w.heap.size)\/b=w.heap.size+1)\/b=w.heap.size+1+1) w0 w') (G (cf.finish v) cs) w':=by
  intro w0 h0 h00 v w' hz hF' hk hr;have e:grow (fun b=>((o b\/b=w.heap.size)\/b=w.heap.size+1)\/b=w.heap.size+1+1) w0 w'=grow o w w':=by
   funext b;simp only[grow,eq_iff_iff,h0];constructor
   ·rintro((((h1|h1)|h1)|h1)|h1)
    ·exact .inl h1
    all_goals exact .inr aa
   ·rintro(h1|h1)
    ·exact .inl (.inl (.inl (.inl h1)))
    ·by_cases h2:b<w.heap.size+3
     ·by_cases h3:b=w.heap.size
      ·exact .inl (.inl (.inl (.inr h3)))
      ·by_cases h4:b=w.heap.size+1
       ·exact .inl (.inl (.inr h4))
       ·exact .inl (.inr aa)
     ·exact .inr aa
  rw[e] at hF' |-;refine Lg v _ w' ⟨rfl,hF',fun b hb=>(hk b hb).trans (om h00 b hb),?_⟩;obtain⟨hlen,gf⟩:=hr;refine⟨hlen,?_⟩;rcases gf with h1|⟨g,cap,cur,h1,h2,h3⟩
  ·exact .inl h1
  ·exact .inr ⟨g,cap,cur,h1,aa,h3⟩
 refine Wu (n:=w.heap.size) (Lf _ _ _ _).1 (Lf _ _ _ _).2.1 (.inl (.inl (.inr rfl))) (.inl (.inr rfl)) (.inr rfl) (((Lf _ _ _ _).2.2.1 _ aa).trans adJ) (Lf _ _ _ _).2.2.2.1 _ (Lf _ _ _ _).2.2.2.2 rfl rfl Sv Ru c p rs hn (.inl (.inl (.inl Vf))) ?_ hp (.inl (.inl (.inl za))) Wv ?_ ?_ rfl rfl rfl rfl rfl cf cs ?_
 ·exact(cell_of (om (Lf _ _ _ _).2.2.1 Sv hSn)).trans hs
 ·exact hru _ (Lf _ _ _ _).2.2.1
 ·exact fun r hr=>(fB r hr).up fun b hb=>.inl (.inl (.inl hb))
 ·exact qK _ (Lf _ _ _ _).2.1 (Lf _ _ _ _).2.2.1
end
section
variable {Fin:bL} {d:Nat} {o:aN} {w:ae} {fn:FuncId} {Q:Exit->Act->aN->ae->Prop} {a:Act} {ops:Array Oper} {i:Nat} {rest:List Nat} {op:Oper} {dd:Option Tmp} {v:Value} {b j:Nat}
theorem lz(hF:bN au L0 o w)(ox:o b)(c:w.cell? ⟨b,j,none⟩=some v)(h:Cl au L0 o v->fa (XB au Fin d) fn ops rest Q (a.put dd v) o w)(ho:ops[i]?=some op:=by rfl)(hw:Region.wanted op (yielded ops a.tmps)=true:=by rfl)(jj:tG L0 op.op=true:=by rfl)(f1:(∀j,Cl au L0 o (.pointer (some ⟨b,j,none⟩)))->∀x∈op.op.operands,Cl au L0 o (a.eval x):=by
   intro h9 y hy;simp[Op.operands] at hy;subst hy;simp[Act.eval];exact h9 _)(hd:op.dst=dd:=by rfl)(f2:(∀wl,iF o w wl->wl.cell? ⟨b,j,none⟩=some v)->∀wl,iF o w wl->(execOp a.eval op).run au wl=.ok (.value v) wl:=by
   intro h9 wl aU;simp[go_sem,h9 wl aU]):fa (XB au Fin d) fn ops (i::rest) Q a o w :=
 dD bS hF ho hw jj (f1 fun j=>bX ox) hd (f2 fun wl aU=>(aU.cell ox).trans c) h
theorem tM{B C:Prop}(hF:bN au L0 o w)(ox:o b)(c:w.cell? ⟨b,j,none⟩=some v)(f1:(∀j,Cl au L0 o (.pointer (some ⟨b,j,none⟩)))->B:=by
  intro h9 y hy;simp[Op.operands] at hy;subst hy;simp[Act.eval];exact h9 _)(f2:(∀wl,iF o w wl->wl.cell? ⟨b,j,none⟩=some v)->C:=by
   intro h9 wl aU;simp[go_sem,h9 wl aU]):bN au L0 o w/\B/\C:=⟨hF,f1 fun j=>bX ox,f2 fun wl aU=>(aU.cell ox).trans c⟩
end
section
open Go.Lib
theorem p9:∀a:List UInt8,compareBytes a a=0
 | []=>rfl
 |x::r=>by
  have h:¬x<x:=UInt8.lt_irrefl x;simp[compareBytes,h,p9 r]
theorem sU:∀a b:List UInt8,compareBytes a b=0->a=b
 | [],[],_=>rfl
 | [],_::_,h=>by simp[compareBytes] at h
 |_::_,[],h=>by simp[compareBytes] at h
 |x::r,y::s,h=>by
  simp only[compareBytes] at h;split at h
  ·cases h
  ·split at h
   ·cases h
   ·rename_i h1 h2;have e:x=y:=ix (UInt8.not_lt.1 h2) (UInt8.not_lt.1 h1);rw[e,sU r s h]
theorem sn:∀a b:List UInt8,compareBytes b a=- compareBytes a b
 | [],[]=>rfl
 | [],_::_=>rfl
 |_::_,[]=>rfl
 |x::r,y::s=>by
  simp only[compareBytes];by_cases h1:x<y
  ·have h2:¬y<x:=UInt8.lt_asymm h1;simp[h1,h2]
  ·by_cases h2:y<x
   ·simp[h1,h2]
   ·simp[h1,h2,sn r s]
theorem nW:∀a b c:List UInt8,compareBytes a b<0->compareBytes b c<0->compareBytes a c<0
 | [],[],_,h,_=>by simp[compareBytes] at h
 |_::_,[],_,h,_=>by simp[compareBytes] at h
 |_,_::_,[],_,h=>by simp[compareBytes] at h
 | [],_::_,_::_,_,_=>by simp[compareBytes]
 |x::r,y::s,z::t,h1,h2=>by
  simp only[compareBytes] at h1 h2 |-;by_cases a1:x<y
  ·by_cases a2:y<z
   ·simp[UInt8.lt_trans a1 a2]
   ·by_cases a3:z<y
    ·simp[a2,a3] at h2
    ·have e:y=z:=ix (UInt8.not_lt.1 a3) (UInt8.not_lt.1 a2);subst e;simp[a1]
  ·by_cases a4:y<x
   ·simp[a1,a4] at h1
   ·have e:x=y:=ix (UInt8.not_lt.1 a4) (UInt8.not_lt.1 a1);subst e;simp only[UInt8.lt_irrefl,if_false] at h1;by_cases a2:x<z
    ·simp[a2]
    ·by_cases a3:z<x
     ·simp[a2,a3] at h2
     ·simp[a2,a3] at h2 |-;exact nW r s t h1 h2
end
end Go.Proofs.Kz
namespace Go.Proofs
section
open Go.Shelf
end
end Go.Proofs
namespace Go.Proofs.Kz
open Go.Proofs.Tryz
open Go.Proofs.Tryz renaming prog → au
open _root_.ByteArray renaming empty → aP
open Go.Proofs
section
open Go.RowKit Go.Shelf Go.Lib Go.Sort
def qU(x y:aJ):Int:=Lib.compareBytes x.out.data.toList y.out.data.toList
theorem Qo(x y:aJ)(W:ae):Calls au 146 #[.agg x.cells.toArray,.agg y.cells.toArray] W fun e w'=>e=.returned (.int .i64 (qU x y))/\∃q os',w'=grow (W.drewN q) os':=by
 have adK:=fun W'=>Tryz.strings_Compare x.out y.out W';show Calls au _ #[.agg #[.string x.out,.int .i64 x.eU,.slice x.sa x.sl x.sc],.agg #[.string y.out,.int .i64 y.eU,.slice y.sa y.sl y.sc]] W _;unfold qU;generalize Lib.compareBytes x.out.data.toList y.out.data.toList=r at adK |-;go_enter func146,ntmps146;go_wp2_with (go_at_call 187;refine(adK _).mono ?_;rintro e w' ⟨rfl,rfl⟩);go_ret;exact⟨rfl,0,_,by rw[alloc_eq_grow,alloc_eq_grow,Go.Sort.grow_grow];rfl⟩
@[reducible] def Et:Inhabited aJ:=⟨⟨aP,0,none,0,0⟩⟩
theorem Mu(blk off size:Nat)(w:ae):@CmpLays aJ Et au 146 #[] aJ.cells 3 qU blk off size w :=
 fun _ _ _ _ x y=>Qo x y _
theorem GQ(n:Nat)(W:ae)(h:n<=12):Calls au 205 #[.int .u64 n] W fun e w'=>(∃l:Int,e=.returned (.int .i64 l))/\w'=W :=
 (Any.bits_Len Tryz.bitsLen n W aa aa).mono fun _ _ ⟨he,hw⟩=>⟨⟨_,he⟩,hw⟩
theorem Ww(d:Array aJ)(i:Nat)(h:i<d.size):(@getElem! (Array aJ) Nat aJ _ _ Et d i)=d[i]:=by
 letI:Inhabited aJ:=Et
 exact eP d i h
theorem ahS:SWO (ltOf qU):=by
 have hx:∀x y,ltOf qU x y=true↔qU x y<0:=fun x y=>by simp[ltOf]
 have hn:∀x y,ltOf qU x y=false↔¬qU x y<0:=fun x y=>by simp[ltOf]
 refine⟨fun x=>?_,fun x y z h1 h2=>?_,fun x y z h1 h2=>?_⟩
 ·rw[hn];simp[qU,p9]
 ·rw[hx] at *;exact nW _ _ _ h1 h2
 ·rw[hn] at *;intro h3;unfold qU at *;rcases Int.lt_or_le 0 (compareBytes x.out.data.toList y.out.data.toList) with h4|h4
  ·have e:=sn x.out.data.toList y.out.data.toList;exact h2 (nW _ _ _ aa h3)
  ·have e:compareBytes x.out.data.toList y.out.data.toList=0:=aa;rw[sU _ _ e] at h3;exact h2 h3
theorem holds_of(w:ae)(b:Nat)(rs:List aJ)(h:eX w b rs)(hf:∀j,j<rs.length*3->w.frozen? ⟨b,j,none⟩=false):@HoldsK aJ Et aJ.cells 3 w b 0 rs.toArray:=by
 intro j hj;have sk:j<rs.length*3:=by simpa using hj
 have cB:j/3<rs.length:=aa;obtain⟨c0,c1,c2⟩:=h (j/3) cB;rw[bC];refine⟨?_,hf j sk⟩;rw[@get_flatK aJ Et aJ.cells 3 rs.toArray j (by simpa using sk)];have e:(@getElem! (Array aJ) Nat aJ _ _ Et rs.toArray (j/3))=rs[j/3]:=by
  rw[Ww _ _ (by simpa using cB)];rfl
 rw[e];have hm:j%3=0\/j%3=1\/j%3=2:=aa;rcases hm with hm|hm|hm
 ·rw[show w.cell? ⟨b,j,none⟩=w.cell? ⟨b,j/3*3,none⟩ from congrArg (fun x=>w.cell? ⟨b,x,none⟩) aa,c0,hm];simp[aJ.cells]
 ·rw[show w.cell? ⟨b,j,none⟩=w.cell? ⟨b,j/3*3+1,none⟩ from congrArg (fun x=>w.cell? ⟨b,x,none⟩) aa,c1,hm];simp[aJ.cells]
 ·rw[show w.cell? ⟨b,j,none⟩=w.cell? ⟨b,j/3*3+2,none⟩ from congrArg (fun x=>w.cell? ⟨b,x,none⟩) aa,c2,hm];simp[aJ.cells]
theorem Mv(w:ae)(b:Nat)(d:Array aJ)(h:@HoldsK aJ Et aJ.cells 3 w b 0 d):eX w b d.toList:=by
 intro i hi;have mn:i<d.size:=by simpa using hi
 have key:∀c,c<3->w.cell? ⟨b,i*3+c,none⟩=some ((d.toList[i]).cells[c]!):=fun c hc=>by
  have:=(h (i*3+c) dX).1;rw[bC] at this;rw[this,@get_flatK aJ Et aJ.cells 3 d (i*3+c) aa];have e1:(i*3+c)/3=i:=aa;have e2:(i*3+c)%3=c:=aa;rw[e1,e2,Ww d i mn];simp
 exact⟨key 0 aa,key 1 aa,key 2 aa⟩
structure JO(w w':ae)(blk:Nat)(rs cu:List aJ):Prop where
 size:w.heap.size<=w'.heap.size
 old:∀b,b<w.heap.size->b≠blk->w'.heap[b]?=w.heap[b]?
 perm:cu.Perm rs
 sorted:∀i j (hi:i<cu.length) (hj:j<cu.length),i<j->¬qU cu[j] cu[i]<0
 at_:eX w' blk cu
theorem C1(blk cap:Nat)(rs:List aJ)(w:ae)(hR:eX w blk rs)(hf:∀j,j<rs.length*3->w.frozen? ⟨blk,j,none⟩=false)(PD:blk<w.heap.size)(qa:rs.length<=12):
  Calls au 185 #[.slice (some ⟨blk,0,none⟩) rs.length cap,.func (.func 146) #[] #[]] w fun e w'=>∃v,e=.returned v/\v=.tuple #[]/\∃cu,JO w w' blk rs cu:=by
 have eg:∀args w,(callFunc 146 args).run au w=.ok (.enter 146 args) w:=enters_of func146 ah rfl;have hH:=holds_of w blk rs hR hf;have hc:=@AnyQ.slices_SortFunc_small_sorted au _ aJ Et Tryz.PU 3 isAgg42 sizeOf42 aJ.cells (fun _=>rfl) (fun x v hv=>by simp[aJ.cells] at hv;rcases hv with rfl|rfl|rfl<;>rfl) qU 146 #[] ahS blk 0 cap rs.toArray w eg (Mu blk 0 rs.toArray.size w) hH PD (by simpa using qa) GQ;refine Calls.mono hc ?_;rintro e w' ⟨rfl,d',n,os,hp,hs,rfl⟩;have hz:d'.size=rs.length:=by simpa using hp.1
 have pH:blk<(@putRowK aJ Et aJ.cells 3 (Go.Sort.ahead w n) blk 0 d').heap.size:=by simp[putRowK,putRow,mapBlock,Go.Sort.ahead];exact PD
 refine⟨_,rfl,rfl,d'.toList,?_,?_,?_,?_,?_⟩
 ·simp[sortWorldK,Go.Sort.grow,putRowK,putRow,mapBlock,Go.Sort.ahead]
 ·intro b hb dJ;simp only[sortWorldK];rw[heap_grow_old _ _ (by simp[putRowK,putRow,mapBlock,Go.Sort.ahead];exact hb)];simp only[putRowK,putRow,mapBlock,Go.Sort.ahead];rw[aS,if_neg (fun e=>dJ e.symm)]
 ·have h2:=hp.2.2;rw[jd (by simp[hz]),jd aj] at h2;simpa using h2
 ·intro i j hi hj Fi;have h2:=hs i j (aV _) Fi (by simp at hj |-;omega);rw[Ww d' i (by simpa using hi),Ww d' j (by simpa using hj)] at h2;simp[ltOf] at h2;simp;exact h2
 ·refine Mv _ blk d' ?_;refine holds_grow id _ os blk 0 _ pH ?_;exact holds_putRow id _ blk 0 _ _ hH (by simp[hz])
end
open Go.Ren Go.Conc Go.ConcN
section
variable {Fin:bL} {o:aN} {w:ae}
structure Tu(o:aN)(w:ae)(rs:List aJ)(v:Value)(o':aN)(w':ae):Prop where
 own:o'=grow o w w'
 aG:bN au L0 o' w'
 size:w.heap.size<=w'.heap.size
 old:∀b,b<w.heap.size->w'.heap[b]?=w.heap[b]?
 row:w'.ownsRow w.heap.size 42 3 v rs.length (rs.flatMap aJ.cells)
theorem Qp(hF:bN au L0 o w)(Sv Ru c:Nat)(p:Option Addr)(rs:List aJ)(hn:rs.length<=8)(Vf:o Sv)(hs:w.cell? ⟨Sv,0,none⟩=some (.slice p rs.length c))(hp:rs≠[]->p=some ⟨Ru,0,none⟩)(za:o Ru)(Cw:eX w Ru rs)(fB:∀r∈rs,Cl au L0 o (.slice r.sa r.sl r.sc)):
  bA au (XB au Fin 0) 184 #[.func (.func 186) #[] #[.pointer (some ⟨Sv,0,none⟩)]] o w (Tu o w rs):=by
 have W:=bY (P:=au) (Fin:=Fin) (d:=0);refine bD W func184 ar ?_;refine ax ?_;refine dC W rfl ar rfl func203 ah rfl aI rfl ((JN hF Sv Ru c p rs hn Vf hs hp za Cw fB).mono fun v o' w' hp=>?_);refine ax ?_;obtain⟨h1,h2,h3,h4⟩:=hp;refine⟨.inr trivial,trivial,v,resultsC_tmp (t:=2) ar _,h1,h2,?_,h3,h4⟩;refine di fun cB=>?_;have:=h3 _ cB;rw[cI (ag _),aO cB] at this;cases this
theorem Tv(rs:List aJ):∀i (h:i<rs.length) c,c<3->(rs.flatMap aJ.cells)[i*3+c]?=(rs[i].cells)[c]?:=by
 induction rs with
 |nil=>intro i h;simp at h
 |cons r t ih =>
  intro i h c hc;have hl:r.cells.length=3:=rfl;rw[List.flatMap_cons];cases i with
  |zero=>rw[jM aa];simp
  |succ i =>
   rw[ju aa,hl,show(i+1)*3+c-3=i*3+c by omega,ih i (by simpa using h) c hc];simp
theorem JP{w:ae}{g cap n:Nat}{cur:Array Value}{rs:List aJ}(hg:w.heap[g]?=some (.cells cur 42 (0,0)))(ht:cur.toList.take (rs.length*3)=rs.flatMap aJ.cells):eX w g rs/\∀j,w.frozen? ⟨g,j,none⟩=false:=by
 have key:∀i (h:i<rs.length) c,c<3->w.cell? ⟨g,i*3+c,none⟩=(rs[i].cells)[c]?:=fun i h c hc=>by
  rw[<- Tv rs i h c hc,<- ht,fI aa];simp[World.cell?,hg]
 exact⟨fun i h=>⟨key i h 0 aa,key i h 1 aa,key i h 2 aa⟩,fun j=>by simp[World.frozen?,hg]⟩
theorem GR(w:ae):Calls au 185 #[.slice none 0 0,.func (.func 146) #[] #[]] w fun e w'=>∃v,e=.returned v/\v=.tuple #[]/\w'.heap=w.heap:=by
 have hl:=GQ 0 w aa;have h2:∀W,Calls au 214 #[.slice none 0 0,.int .i64 0,.int .i64 0,.func (.func 146) #[] #[]] W fun e w'=>e=.returned (.tuple #[])/\w'.heap=W.heap:=fun W=>by
  go_enter func214,ntmps214;go_wp2;refine wp_loop_rounds 1 ?_;rw[rounds_succ];go_wp2
  go_end0
  exact⟨rfl,rfl⟩
 have h3:∀W lim,Calls au 204 #[.slice none 0 0,.int .i64 0,.int .i64 0,.int .i64 lim,.func (.func 146) #[] #[]] W fun e w'=>e=.returned (.tuple #[])/\w'.heap=W.heap:=fun W lim=>by
  go_enter func204,ntmps204;go_wp2;refine wp_loop_rounds 1 ?_;rw[rounds_succ];go_wp2_with (go_at_call 214;refine(h2 _).mono ?_;rintro e w' ⟨rfl,hw⟩)
  (try simp only[Exit.inBlock,Exit.then])
  refine bodyPost_ret (results_none ah _ _).1 rfl ?_;exact⟨rfl,hw⟩
 go_enter func185,ntmps185;go_wp2_with (first|(go_at_call 205;refine hl.mono ?_;rintro e w' ⟨⟨l,rfl⟩,rfl⟩)|(go_at_call 204;refine(h3 _ _).mono ?_;rintro e w' ⟨rfl,hw⟩))
 go_end0
 exact⟨_,rfl,rfl,hw⟩
structure vq(o:aN)(w:ae)(rs:List aJ)(v:Value)(o':aN)(w':ae):Prop where
 own:o'=grow o w w'
 aG:bN au L0 o' w'
 size:w.heap.size<=w'.heap.size
 old:∀b,b<w.heap.size->w'.heap[b]?=w.heap[b]?
 row:(rs=[]/\v=.slice none 0 0)\/∃g cap cu,v=.slice (some ⟨g,0,none⟩) rs.length cap/\rs.length<=cap/\w.heap.size<=g/\g<w'.heap.size/\cu.Perm rs/\(∀i j (hi:i<cu.length) (hj:j<cu.length),i<j->¬qU cu[j] cu[i]<0)/\eX w' g cu
theorem Tw{o:aN}{w w1 w2:ae}(h1:w.heap.size<=w1.heap.size)(h2:w1.heap.size<=w2.heap.size):grow (grow o w w1) w1 w2=grow o w w2:=grow_grow h1 rfl h2
theorem aag{o1:aN}{w1:ae}{rs:List aJ}{v:Value}(hn:rs.length<=8)(S:Tu o w rs v o1 w1):
  bA au (XB au Fin 0) 185 #[v,.func (.func 146) #[] #[]] o1 w1 fun v' o2 w2=>v'=.tuple #[]/\vq o w rs v o2 w2:=by
 obtain⟨hlen,gf⟩:=S.row;rcases gf with⟨rfl,h0⟩|⟨g,cap,cur,rfl,h1,h2,h3,h4,h5,h6⟩
 ·refine sR bS ah S.aG ?_ (R:=fun wl v aW=>v=.tuple #[]/\aW.heap=wl.heap) (fun wl v w τ d h=>h) (fun wl τ d v w' h=>h) (fun wl hz aU=>GR wl) ?_
  ·intro f hf;have hb:f.h 146=146:=hf.fn _ (by show L0 146=true;kernel_rfl);simp[val,tO,hb]
  ·rintro wl v aW w' hz aU ⟨rfl,hh⟩ B;have fJ:w'.heap.size=w1.heap.size:=by rw[B.size,hh,hz]
   have e:grow o1 w1 w'=o1:=by
    funext b;simp only[grow,eq_iff_iff,fJ];exact⟨fun h=>h.elim id fun h=>aa,.inl⟩
   have hold:∀b,b<w1.heap.size->w'.heap[b]?=w1.heap[b]?:=fun b hb=>by
    by_cases ho:o1 b
    ·rw[B.same b (.inl ho),hh,aU b ho]
    ·exact B.rest b hb ho
   have hF:=B.aG;rw[e] at hF |-;have hs:=S.size;refine⟨rfl,by rw[S.own];unfold grow;rw[fJ],hF,aa,fun b hb=>by rw[hold b aa];exact S.old b hb,.inl ⟨List.length_eq_zero_iff.1 h0,rfl⟩⟩
 ·have KW:g<w1.heap.size:=(Array.getElem?_eq_some_iff.1 h2).1;have Vg:o1 g:=by rw[S.own];exact .inr ⟨h1,KW⟩
  refine sR bS ah S.aG ?_ (R:=fun wl v aW=>v=.tuple #[]/\∃cu,JO wl aW g rs cu) (fun wl v w τ d h=>?_) (fun wl τ d v w' h=>?_) (fun wl hz aU=>?_) ?_
  ·intro f hf;have:=ee (P:=au) (L:=L0) (off:=0) (l:=rs.length) (c:=cap) Vg f hf;have hb:f.h 146=146:=hf.fn _ (by show L0 146=true;kernel_rfl);simp[val,tO,hb] at this |-;exact this
  ·obtain⟨k1,cu,k2⟩:=h;exact⟨k1,cu,k2.size,k2.old,k2.perm,k2.sorted,k2.at_⟩
  ·obtain⟨k1,cu,k2⟩:=h;exact⟨k1,cu,k2.size,k2.old,k2.perm,k2.sorted,k2.at_⟩
  ·obtain⟨k1,k2⟩:=JP (cap:=cap) (n:=rs.length) ((aU g Vg).trans h2) h6;exact C1 g cap rs wl k1 (fun j _=>k2 j) aa aa
  ·rintro wl v aW w' hz aU ⟨rfl,cu,T⟩ B;have fJ:=B.jq;have hs:=S.size;have hold:∀b,b<w1.heap.size->b≠g->w'.heap[b]?=w1.heap[b]?:=fun b hb dJ=>by
    by_cases ho:o1 b
    ·rw[B.same b (.inl ho),T.old b aa dJ,aU b ho]
    ·exact B.rest b hb ho
   have hF:=B.aG;have e:grow o1 w1 w'=grow o w w':=by rw[S.own];exact Tw hs fJ
   have hsm:=B.same g (.inl Vg);rw[e] at hF |-;refine⟨rfl,rfl,hF,aa,fun b hb=>by rw[hold b aa aa];exact S.old b hb,.inr ⟨g,cap,cu,rfl,h3,h1,aa,T.perm,T.sorted,fun i hi=>?_⟩⟩;obtain⟨c0,c1,c2⟩:=T.at_ i hi;exact⟨(cell_of hsm).trans c0,(cell_of hsm).trans c1,(cell_of hsm).trans c2⟩
theorem GU(hF:bN au L0 o w)(Sv Ru c:Nat)(p:Option Addr)(rs:List aJ)(hn:rs.length<=8)(Vf:o Sv)(hs:w.cell? ⟨Sv,0,none⟩=some (.slice p rs.length c))(hp:rs≠[]->p=some ⟨Ru,0,none⟩)(za:o Ru)(Cw:eX w Ru rs)(fB:∀r∈rs,Cl au L0 o (.slice r.sa r.sl r.sc)):
  bA au (XB au Fin 0) 144 #[.func (.func 186) #[] #[.pointer (some ⟨Sv,0,none⟩)],.func (.func 146) #[] #[]] o w (vq o w rs):=by
 have W:=bY (P:=au) (Fin:=Fin) (d:=0);refine bD W func144 ar ?_;refine ax ?_;refine dC W rfl ar rfl func184 ah rfl aI rfl ((Qp hF Sv Ru c p rs hn Vf hs hp za Cw fB).mono fun v o1 w1 S=>?_);refine ax ?_;refine dC W rfl ar rfl func185 ah rfl (vs:=#[v,.func (.func 146) #[] #[]]) aI rfl ((aag hn S).mono fun v' o2 w2 hq=>?_);obtain⟨rfl,hq⟩:=hq;refine ax ?_;exact⟨.inr trivial,trivial,v,resultsC_tmp (t:=4) ar _,hq⟩
end
section
open Go.RowKit
theorem eX.below{w w':ae}{b:Nat}{rs:List aJ}(h:eX w b rs)(hb:b<w.heap.size)(hw:Below w.heap.size w w'):eX w' b rs:=fun k hk=>by
 obtain⟨hc,-⟩:=wq hw;rw[hc _ _ hb,hc _ _ hb,hc _ _ hb];exact h k hk
theorem Mw(b c:Nat)(p:Option Addr)(rs:List aJ)(w:ae)(hn:rs.length<=100000)(hp:rs≠[]->p=some ⟨b,0,none⟩/\b<w.heap.size)(hv:eX w b rs):
  Calls au 147 #[.slice p rs.length c] w fun e w'=>e=.returned (.slice (some ⟨w.heap.size,0,none⟩) rs.length rs.length)/\Below w.heap.size w w'/\w.heap.size<w'.heap.size /\
   w'.rowIs w.heap.size 9 rs.length (fun j=>.string ((rs.map (·.out)).getD j aP)):=by
 have Jq:=run_make_row' (P:=au) 40 9 (.string aP) 16 underlying40 qx rfl .i64 .i64 rs.length aa aa;go_enter func147,ntmps147;go_wp2;go_loopw [11] (fun i w'=>∃k:Nat,k<=rs.length/\i=.int .i64 k/\Below w.heap.size w w'/\w.heap.size<w'.heap.size/\w'.rowIs w.heap.size 9 rs.length (fun j=>if j<k then .string ((rs.map (·.out)).getD j aP) else .string aP)) (fun i _=>rs.length-(intOf i).toNat)
 case atStart=>exact⟨0,aV _,rfl,(Below.refl _ _).alloc (ag _) _,aj,by simpa using World.rowIs_made w _ _ _⟩
 case round =>
  obtain⟨k,hk,rfl,gB,hz,cp⟩:=hrel;by_cases cB:k<rs.length
  ·obtain⟨rfl,hb⟩:=hp (fun e=>by rw[e] at cB;simp at cB);obtain⟨h1,h2,h3⟩:=hv.below hb gB k cB;have hc:=cp.cell cB;have hf:=cp.frozen k;rw[if_neg aa] at hc;go_wp2;refine⟨⟨k+1,aa,by go_num,(gB.setCell (ag _) _).alloc (by simp[World.setCell];omega) _,by simp[World.setCell];omega,?_⟩,by simp[intOf];omega⟩;refine((cp.set k _).alloc _).congr fun j hj=>?_;by_cases e:j=k
   ·subst e;simp[List.getD,cB]
   ·by_cases e':j<k
    ·rw[if_neg e,if_pos e',if_pos aa]
    ·rw[if_neg e,if_neg e',if_neg aa]
  ·go_wp2;go_ret;exact⟨rfl,gB,hz,cp.congr fun i hi=>by rw[if_pos aa]⟩
end
section
open Go.RowKit
def tC(w:ae)(b:Nat)(ins:List (Bool×Nat)):Prop:=∀j (h:j<ins.length),w.cell? ⟨b,j*2,none⟩=some (.bool ins[j].1)/\w.cell? ⟨b,j*2+1,none⟩=some (.int .i64 ins[j].2)
theorem tC.below{w w':ae}{b:Nat}{ins:List (Bool×Nat)}(h:tC w b ins)(hb:b<w.heap.size)(hw:Below w.heap.size w w'):tC w' b ins:=fun k hk=>by
 obtain⟨hc,-⟩:=wq hw;rw[hc _ _ hb,hc _ _ hb];exact h k hk
def zO(w:ae)(b:Nat)(zs:List Nat):Prop:=∀j (h:j<zs.length),w.cell? ⟨b,j,none⟩=some (.int .i64 zs[j])
theorem zO.below{w w':ae}{b:Nat}{zs:List Nat}(h:zO w b zs)(hb:b<w.heap.size)(hw:Below w.heap.size w w'):zO w' b zs:=fun k hk=>by
 obtain⟨hc,-⟩:=wq hw;rw[hc _ _ hb];exact h k hk
theorem yD(b c:Nat)(zs:List Nat)(x:Nat)(w:ae)(hn:zs.length<=100000)(h:zO w b zs):
  Calls au 190 #[.slice (some ⟨b,0,none⟩) zs.length c,.int .i64 x] w fun e w'=>e=.returned (.bool (zs.contains x))/\w'=w:=by
 have:=Tryz.slices_Contains_int b 0 zs.length c (zs.map (fun n:Nat=>(n:Int))) x w aj aa (fun j hj=>by
  have sk:j<zs.length:=by simpa using hj
  rw[bC,h j sk];simp[sk])
 refine this.mono fun e w' hq=>?_;obtain⟨rfl,rfl⟩:=hq;refine⟨?_,rfl⟩
 congr 2
 rw[cJ aj];rw[dM];simp only[List.contains_iff_mem,List.mem_map];exact⟨fun⟨a,h1,h2⟩=>(show a=x by omega)▸h1,fun h=>⟨x,h,rfl⟩⟩
def nj(order:List Nat)(i:Bool×Nat):Bool:=!i.1||order.contains i.2
theorem GV(b c Ib ic:Nat)(order:List Nat)(ins:List (Bool×Nat))(w:ae)(hn:order.length<=100000)(hi:ins.length<=100000)(hb:b<w.heap.size)(hIb:Ib<w.heap.size)(ho:zO w b order)(hv:tC w Ib ins):
  Calls au 191 #[.slice (some ⟨b,0,none⟩) order.length c,.slice (some ⟨Ib,0,none⟩) ins.length ic] w fun e w'=>e=.returned (.bool (ins.all (nj order)))/\Below w.heap.size w w'/\w.heap.size<=w'.heap.size:=by
 go_enter func191,ntmps191;go_wp2;go_loopw [9] (fun i w'=>∃k:Nat,k<=ins.length/\i=.int .i64 k/\Below w.heap.size w w'/\w.heap.size<=w'.heap.size/\(ins.take k).all (nj order)=true) (fun i _=>ins.length-(intOf i).toNat)
 case atStart=>exact⟨0,aV _,rfl,Below.refl _ _,ag _,aj⟩
 case round =>
  obtain⟨k,hk,rfl,gB,hz,iG⟩:=hrel;by_cases cB:k<ins.length
  ·obtain⟨h1,h2⟩:=hv.below hIb gB k cB;have ho2:=ho.below hb gB;have tJ:=take_succ ins k cB;generalize hik:ins[k]=ik at *;obtain⟨io,inn⟩:=ik;cases io
   ·go_wp2;refine⟨⟨k+1,aa,by go_num,gB.alloc aa _,dX,?_⟩,by simp[intOf];omega⟩;rw[tJ,List.all_append,iG];simp[nj]
   ·have vU:=yD b c order inn (wr.alloc (.cells #[.bool true,.int .i64 inn] 280)) hn (ho.below hb (gB.alloc aa _));have uo:ins.all (nj order)=true->order.contains inn=true:=fun h=>by
     have:=List.all_eq_true.1 h (true,inn) (by rw[<- hik];exact aH cB);simpa[nj] using this
    cases Qq:order.contains inn
    ·rw[Qq] at vU;go_wp2_with (go_at_call 190;refine vU.mono ?_;rintro e w' ⟨rfl,rfl⟩);go_ret;have:ins.all (nj order)=false:=by
      cases h:ins.all (nj order)
      ·rfl
      ·have:=uo h;rw[Qq] at this;cases this
     rw[this];exact⟨rfl,gB.alloc aa _,dX⟩
    ·rw[Qq] at vU;go_wp2_with (go_at_call 190;refine vU.mono ?_;rintro e w' ⟨rfl,rfl⟩);refine⟨⟨k+1,aa,by go_num,gB.alloc aa _,dX,?_⟩,by simp[intOf];omega⟩;rw[tJ,List.all_append,iG];simp[nj];simpa using Qq
  ·go_wp2;go_ret;rw[cJ aa] at iG;rw[iG];exact⟨rfl,gB,hz⟩
end
section
open Go.RowKit
def qz(ins:Nat->List (Bool×Nat))(ord:List Nat)(s:Nat):List Nat:=if ord.contains s=false/\(ins s).all (nj ord)=true then ord++[s] else ord
def nk(ins:Nat->List (Bool×Nat))(ord:List Nat)(k:Nat):List Nat:=(List.range k).foldl (qz ins) ord
def eE(ins:Nat->List (Bool×Nat))(n:Nat):Nat->List Nat
 |0=>[]
 |r+1=>nk ins (eE ins n r) n
theorem qA(ins:Nat->List (Bool×Nat))(ord:List Nat)(k:Nat):nk ins ord (k+1)=qz ins (nk ins ord k) k:=by
 simp[nk,List.range_succ]
theorem vr:∀(n:Nat) (l:List Nat),l.Nodup->(∀x∈l,x<n)->l.length<=n
 |0,l,_,h=>by
  cases l with
  |nil=>simp
  |cons x r=>exact absurd (h x aj) aa
 |n+1,l,hd,h=>by
  have h1:=vr n (l.erase n) (hd.erase n) (fun x hx=>by
   have h2:=(hd.mem_erase_iff).1 hx;have:=h x h2.2;have:=h2.1;omega)
  have h2:=List.length_erase (a:=n) (l:=l);split at h2<;>omega
def oX(n:Nat)(ord:List Nat):Prop:=ord.Nodup/\∀x∈ord,x<n
theorem oX.step{n:Nat}{ord:List Nat}(h:oX n ord)(ins:Nat->List (Bool×Nat)){s:Nat}(hs:s<n):oX n (qz ins ord s):=by
 unfold qz;split
 ·rename_i hc;have hm:s∉ord:=fun hm=>by have:=hc.1;rw[List.contains_iff_mem.2 hm] at this;cases this
  refine⟨?_,fun x hx=>?_⟩
  ·rw[List.nodup_append];refine⟨h.1,aj,fun a ha b hb=>?_⟩;simp at hb;subst hb;exact fun e=>hm (e▸ha)
  ·simp at hx;rcases hx with hx|rfl
   ·exact h.2 x hx
   ·exact hs
 ·exact h
theorem oX.pass{n:Nat}{ord:List Nat}(h:oX n ord)(ins:Nat->List (Bool×Nat)):∀k,k<=n->oX n (nk ins ord k)
 |0,_=>by simpa[nk] using h
 |k+1,hk=>by rw[qA];exact(oX.pass h ins k aa).step ins aa
theorem oX.all(n:Nat)(ins:Nat->List (Bool×Nat)):∀r,oX n (eE ins n r)
 |0=>⟨by simp[eE],by simp[eE]⟩
 |r+1=>(oX.all n ins r).pass ins n (ag _)
theorem Of:(au.info? 3).map (fun i=>(i.zero,i.size,i.bytes))=some (some (.int .i64 0),1,8):=ah
structure pU(w:ae)(St n:Nat)(out:Nat->af)(eU:Nat->Int)(ins:Nat->List (Bool×Nat))(cO:Nat->Nat):Prop where
 out:∀s,s<n->w.cell? ⟨St,s*3,none⟩=some (.string (out s))
 eU:∀s,s<n->w.cell? ⟨St,s*3+1,none⟩=some (.int .i64 (eU s))
 A9:∀s,s<n->w.cell? ⟨St,s*3+2,none⟩=some (.slice (some ⟨cO s,0,none⟩) (ins s).length (ins s).length)
 CR:∀s,s<n->tC w (cO s) (ins s)
 lt:∀s,s<n->cO s<w.heap.size
 short:∀s,s<n->(ins s).length<=100000
def lA(w:ae)(B n:Nat)(ord:List Nat):Prop:=w.rowIs B 3 n fun j=>.int .i64 ((ord.getD j 0:Nat):Int)
theorem lA.nums{w:ae}{B n:Nat}{ord:List Nat}(h:lA w B n ord)(hl:ord.length<=n):zO w B ord:=fun j hj=>by
 rw[h.cell aa];simp[hj]
theorem C2(W:ae)(B n x:Nat)(ord:List Nat)(A:Nat)(h:lA W B n ord)(cB:ord.length<n)(ha:W.cell? ⟨A,0,none⟩=some (.int .i64 x)):
  (Builtin.append_ #[130,130] 130 #[.slice (some ⟨B,0,none⟩) ord.length n,.slice (some ⟨A,0,none⟩) 1 1]).run au W=.ok (.slice (some ⟨B,0,none⟩) (ord.length+1) n) (W.setCell ⟨B,ord.length,none⟩ (.int .i64 x)):=by
 obtain⟨i,hi,ov⟩:=Option.map_eq_some_iff.1 Of;simp only[bu] at ov;have:=run_append_room_cells (P:=au) W 130 130 3 i underlying130 hi B 0 ord.length n ⟨A,0,none⟩ 1 1 [.int .i64 x] (by simp[ov.2.1]) (fun j u hj=>by
  cases j with
  |zero=>simp at hj;subst hj;simpa[Addr.add] using ha
  |succ j=>simp at hj) (by simp;rfl) aa (fun j hj=>by
   simp at hj;subst hj;rw[ov.2.1];simp[h.cell cB]) (fun j hj=>by
   simp at hj;subst hj;rw[ov.2.1];have:=h.frozen ord.length;simpa using this)
 rw[ov.2.1] at this;simpa[World.setCells] using this
theorem lA.put{w:ae}{B n:Nat}{ord:List Nat}(h:lA w B n ord)(cB:ord.length<n)(x:Nat):lA (w.setCell ⟨B,ord.length,none⟩ (.int .i64 x)) B n (ord++[x]):=by
 refine(World.rowIs.set h ord.length (.int .i64 x)).congr fun j hj=>?_;by_cases e:j=ord.length
 ·subst e;simp
 ·rw[if_neg e];by_cases e':j<ord.length
  ·simp[List.getD,e',List.getElem?_append_left e']
  ·simp[List.getD,List.getElem?_eq_none (show ord.length<=j by omega),List.getElem?_eq_none (show(ord++[x]).length<=j by simp;omega)]
end
section
open Go.RowKit
theorem gw{P:Program}{w w':ae}{ops:Array Oper}{rest:List Oper}{o:Oper}{a:Act}{Q:Exit->Act->ae->Prop}{v xv v':Value}(hgd:o.guard=none)(s x:Operand)(t:TypeId)(ho:o.op=.call {callee:=.builtin .append,args:=#[s,x],argTypes:=#[t,t]})(hs:a.eval s=v)(hx:a.eval x=xv)(hr:(Builtin.append_ #[t,t] o.type #[v,xv]).run P w=.ok v' w')(h:wpList P ops Q rest (a.put o.dst v') w'):wpList P ops Q (o::rest) a w :=
 wpList_plain hgd fun _ hK=>by
  unfold Oper.wp execOp;simp only[ho,resolve,invoke,builtin,Sem.run_bind,Sem.run_pure,Result.andThen_ok,List.map_toArray,aA,aQ,hs,hx,hr];exact hK _ _ h
theorem jW(w:ae)(x:Obj):(w.alloc x).heap[w.heap.size]?=some x:=by
 show(w.heap.push x)[w.heap.size]?=_;simp
theorem sV(w:ae)(cs:Array Value)(t:TypeId)(j:Nat):(w.alloc (.cells cs t)).cell? ⟨w.heap.size,j,none⟩=cs[j]?:=by
 simp only[World.cell?];rw[jW];rfl
theorem oX.room{n:Nat}{ord:List Nat}(h:oX n ord){s:Nat}(hs:s<n)(hc:ord.contains s=false):ord.length<n:=by
 have hm:s∉ord:=fun hm=>by rw[List.contains_iff_mem.2 hm] at hc;cases hc
 have:=vr n (ord++[s]) (by
  rw[List.nodup_append];refine⟨h.1,aj,fun a ha b hb=>?_⟩;simp at hb;subst hb;exact fun e=>hm (e▸ha)) (fun x hx=>by
  simp at hx;rcases hx with hx|rfl
  ·exact h.2 x hx
  ·exact hs)
 simp at this;omega
theorem JQ(St n sc:Nat)(out:Nat->af)(eU:Nat->Int)(ins:Nat->List (Bool×Nat))(cO:Nat->Nat)(w:ae)(hn:n<=1000)(hSt:St<w.heap.size)(eI:pU w St n out eU ins cO):
  Calls au 150 #[.slice (some ⟨St,0,none⟩) n sc] w fun e w'=>e=.returned (.slice (some ⟨w.heap.size,0,none⟩) (eE ins n n).length n)/\Below w.heap.size w w'/\w.heap.size<w'.heap.size/\lA w' w.heap.size n (eE ins n n):=by
 have Jq:=Go.run_make_room (P:=au) 130 3 (.int .i64 0) 8 underlying130 Of rfl .i64 .i64 n aa aa;go_enter func150,ntmps150;go_wp2;go_loopw [3,11] (fun v i w'=>∃r:Nat,r<=n/\i=.int .i64 r/\v=.slice (some ⟨w.heap.size,0,none⟩) (eE ins n r).length n/\Below w.heap.size w w'/\w.heap.size<w'.heap.size/\lA w' w.heap.size n (eE ins n r)) (fun v i _=>n-(intOf i).toNat)
 case atStart=>exact⟨0,aV _,rfl,rfl,(Below.refl _ _).alloc (ag _) _,aj,by simpa[lA,eE] using World.rowIs_made w _ _ _⟩
 case round =>
  obtain⟨r,hr,rfl,rfl,gB,hz,cp⟩:=hrel;by_cases cB:r<n
  ·go_wp2;go_loopw [3,15] (fun v i w'=>∃k:Nat,k<=n/\i=.int .i64 k/\v=.slice (some ⟨w.heap.size,0,none⟩) (nk ins (eE ins n r) k).length n/\Below w.heap.size w w'/\w.heap.size<w'.heap.size/\lA w' w.heap.size n (nk ins (eE ins n r) k)) (fun v i _=>n-(intOf i).toNat)
   case atStart=>exact⟨0,aV _,rfl,by simp[nk],gB,hz,by simpa[nk] using cp⟩
   case round =>
    clear gB hz cp;obtain⟨k,hk,rfl,rfl,gB,hz,cp⟩:=hrel;by_cases Iz:k<n
    ·have jj:oX n (nk ins (eE ins n r) k):=(oX.all n ins r).pass ins k hk;have yE:=qA ins (eE ins n r) k;have hle:=vr n _ jj.1 jj.2;generalize adN:nk ins (eE ins n r) k=ord at *;have c0:=(gB.cell (p:=⟨St,k*3,none⟩) hSt).trans (eI.out k Iz);have c1:=(gB.cell (p:=⟨St,k*3+1,none⟩) hSt).trans (eI.eU k Iz);have c2:=(gB.cell (p:=⟨St,k*3+2,none⟩) hSt).trans (eI.A9 k Iz);have Yo:ord.length<=100000:=aa;generalize hwa:wr.alloc (.cells #[.string (out k),.int .i64 (eU k),.slice (some ⟨cO k,0,none⟩) (ins k).length (ins k).length] 220)=wa;have ca:wa.cell? ⟨wr.heap.size,2,none⟩=some (.slice (some ⟨cO k,0,none⟩) (ins k).length (ins k).length):=by rw[<- hwa];exact sV _ _ _ 2
     have hba:Below w.heap.size w wa:=hwa▸gB.alloc aa _;have vL:wa.heap.size=wr.heap.size+1:=by rw[<- hwa];simp
     have Rr:lA wa w.heap.size n ord:=hwa▸World.rowIs.alloc cp _;have vU:=yD w.heap.size n ord k wa Yo (Rr.nums hle);have hia:tC wa (cO k) (ins k):=(eI.CR k Iz).below (eI.lt k Iz) hba;have Ye:=eI.lt k Iz;have iG:=GV w.heap.size n (cO k) (ins k).length ord (ins k) wa Yo (eI.short k Iz) aa aa (Rr.nums hle) hia;cases Qq:ord.contains k
     ·rw[Qq] at vU;have hll:ord.length<n:=jj.room Iz Qq;cases rT:(ins k).all (nj ord)
      ·rw[rT] at iG;have Ip:qz ins ord k=ord:=by simp only[qz];rw[if_neg];rw[rT];simp
       rw[Ip] at yE;go_wp2_with (first|(go_at_call 190;(try rw[hwa]);refine vU.mono ?_;rintro e w' ⟨rfl,rfl⟩)|(go_at_call 191;refine iG.mono ?_;rintro e w2 ⟨rfl,pH,Tx⟩));exact⟨⟨k+1,aa,by go_num,by rw[yE],hba.trans (pH.mono aa),aa,by rw[yE];exact World.rowIs.of_block Rr (pH.block _ aa)⟩,by simp[intOf];omega⟩
      ·rw[rT] at iG;have Ip:qz ins ord k=ord++[k]:=by simp only[qz];rw[if_pos ⟨Qq,rT⟩]
       rw[Ip] at yE;have ahT:∀w2:ae,lA w2 w.heap.size n ord->(Builtin.append_ #[130,130] 130 #[.slice (some ⟨w.heap.size,0,none⟩) ord.length n,.slice (some ⟨w2.heap.size,0,none⟩) 1 1]).run au (w2.alloc (.cells #[.int .i64 k] 3))=.ok (.slice (some ⟨w.heap.size,0,none⟩) (ord.length+1) n) ((w2.alloc (.cells #[.int .i64 k] 3)).setCell ⟨w.heap.size,ord.length,none⟩ (.int .i64 k)):=fun w2 h2=>C2 _ w.heap.size n k ord w2.heap.size (World.rowIs.alloc h2 _) hll (sV _ _ _ 0);go_wp2_with (first|(go_at_call 190;(try rw[hwa]);refine vU.mono ?_;rintro e w' ⟨rfl,rfl⟩)|(go_at_call 191;refine iG.mono ?_;rintro e w2 ⟨rfl,pH,Tx⟩;have GO:lA w2 w.heap.size n ord:=World.rowIs.of_block Rr (pH.block _ aa);have hap:=ahT w2 GO)|(at_builtin;refine gw rfl _ _ 130 rfl rfl rfl hap ?_));refine⟨⟨k+1,aa,by go_num,by rw[yE];simp,?_,by simp[World.setCell];omega,?_⟩,by simp[intOf];omega⟩
       ·exact((hba.trans (pH.mono aa)).alloc aa _).setCell (ag _) _
       ·rw[yE];exact lA.put (World.rowIs.alloc GO _) hll k
     ·rw[Qq] at vU;have Ip:qz ins ord k=ord:=by simp only[qz];rw[if_neg];rw[Qq];simp
      rw[Ip] at yE;go_wp2_with (go_at_call 190;(try rw[hwa]);refine vU.mono ?_;rintro e w' ⟨rfl,rfl⟩);exact⟨⟨k+1,aa,by go_num,by rw[yE],hba,aa,by rw[yE];exact Rr⟩,by simp[intOf];omega⟩
    ·have e:k=n:=aa;subst e;go_wp2;exact⟨⟨r+1,aa,by go_num,rfl,gB,hz,cp⟩,by simp[intOf];omega⟩
  ·go_wp2;go_ret;have e:r=n:=aa;subst e;exact⟨rfl,gB,hz,cp⟩
end
section
open Go.RowKit
def nX(ins:Nat->List (Bool×Nat))(ord:List Nat):Prop:=∀i (h:i<ord.length),∀m,(true,m)∈ins ord[i]->∃k,∃hk:k<ord.length,k<i/\ord[k]=m
theorem C3(ins:Nat->List (Bool×Nat))(ord:List Nat)(s x:Nat)(h:x∈ord):x∈qz ins ord s:=by
 unfold qz;split
 ·simp[h]
 ·exact h
theorem C4(ins:Nat->List (Bool×Nat))(ord:List Nat)(x:Nat)(h:x∈ord):∀k,x∈nk ins ord k
 |0=>by simpa[nk] using h
 |k+1=>by rw[qA];exact C3 _ _ _ _ (C4 ins ord x h k)
theorem nX.step{ins:Nat->List (Bool×Nat)}{ord:List Nat}(h:nX ins ord)(s:Nat):nX ins (qz ins ord s):=by
 unfold qz;split
 ·rename_i hc;intro i hi m hm;have iG:=hc.2;rw[List.all_eq_true] at iG;by_cases cB:i<ord.length
  ·rw[bV cB] at hm;obtain⟨k,hk,h1,h2⟩:=h i cB m hm;exact⟨k,dX,h1,by rw[bV hk];exact h2⟩
  ·have e:i=ord.length:=by simp at hi;omega
   subst e;simp at hm;have:=iG _ hm;simp[nj] at this;obtain⟨k,hk,e⟩:=bf this;exact⟨k,dX,hk,by rw[bV hk];exact e⟩
 ·exact h
theorem nX.pass{ins:Nat->List (Bool×Nat)}{ord:List Nat}(h:nX ins ord):∀k,nX ins (nk ins ord k)
 |0=>by simpa[nk] using h
 |k+1=>by rw[qA];exact(nX.pass h k).step k
theorem nX.all(ins:Nat->List (Bool×Nat))(n:Nat):∀r,nX ins (eE ins n r)
 |0=>fun i h=>by simp[eE] at h
 |r+1=>(nX.all ins n r).pass n
theorem FB(ins:Nat->List (Bool×Nat))(ord:List Nat)(s:Nat)(h:∀m,(true,m)∈ins s->m∈ord):∀k,s<k->s∈nk ins ord k
 |0,hk=>aa
 |k+1,hk=>by
  rw[qA];by_cases e:s=k
  ·subst e;unfold qz;split
   ·simp
   ·rename_i hc;have iG:(ins s).all (nj (nk ins ord s))=true:=by
     rw[List.all_eq_true];rintro⟨b,m⟩ hm;cases b
     ·simp[nj]
     ·have:=C4 ins ord m (h m hm) s;simp[nj,this]
    cases Lg:(nk ins ord s).contains s
    ·exact absurd ⟨Lg,iG⟩ hc
    ·simpa using Lg
  ·exact C3 _ _ _ _ (FB ins ord s h k aa)
theorem C5(ins:Nat->List (Bool×Nat))(n:Nat)(rk:Nat->Nat)(Vh:∀s,s<n->∀m,(true,m)∈ins s->m<n/\rk m<rk s):∀r s,s<n->rk s<r->s∈eE ins n r
 |0,s,_,h=>aa
 |r+1,s,hs,h=>by
  refine FB ins _ s (fun m hm=>?_) n hs;obtain⟨h1,h2⟩:=Vh s hs m hm;exact C5 ins n rk Vh r m h1 aa
theorem Mx(n:Nat)(l:List Nat)(hd:l.Nodup)(hl:∀x∈l,x<n)(h:∀s,s<n->s∈l):l.length=n:=by
 have h1:=vr n l hd hl;have h2:∀k,k<=n->∀l:List Nat,l.Nodup->(∀s,s<k->s∈l)->k<=l.length:=by
  intro k
  induction k with
  |zero=>intro _ l _ _;exact aV _
  |succ k ih =>
   intro hk l hd h;have h3:=ih aa (l.erase k) (hd.erase k) (fun s hs=>(hd.mem_erase_iff).2 ⟨aa,h s aa⟩);have h4:=List.length_erase (a:=k) (l:=l);rw[if_pos (h k aa)] at h4;have:0<l.length:=iB (h k aa);omega
 have:=h2 n (ag _) l hd h;omega
theorem Ty(ins:Nat->List (Bool×Nat))(n:Nat)(rk:Nat->Nat)(hb:∀s,s<n->rk s<n)(Vh:∀s,s<n->∀m,(true,m)∈ins s->m<n/\rk m<rk s):
  (eE ins n n).length=n/\oX n (eE ins n n)/\(∀s,s<n->s∈eE ins n n)/\nX ins (eE ins n n):=by
 have h1:=oX.all n ins n;have h2:∀s,s<n->s∈eE ins n n:=fun s hs=>C5 ins n rk Vh n s hs (hb s hs);exact⟨Mx n _ h1.1 h1.2 h2,h1,h2,nX.all ins n n⟩
end
end Go.Proofs.Kz
namespace Go.Proofs
section
open Go.Shelf
end
end Go.Proofs
namespace Go.Proofs.Kz
open Go.Proofs.Tryz
open Go.Proofs.Tryz renaming prog → au
open _root_.ByteArray renaming empty → aP
open Go.Proofs
section
open Go.RowKit
theorem uI:∀a b:List UInt8,Op.bytesLess a b=decide (Lib.compareBytes a b<0)
 | [],[]=>by simp[Op.bytesLess,Lib.compareBytes]
 | [],_::_=>by simp[Op.bytesLess,Lib.compareBytes]
 |_::_,[]=>by simp[Op.bytesLess,Lib.compareBytes]
 |x::r,y::s=>by
  simp only[Op.bytesLess,Lib.compareBytes];by_cases h1:x<y
  ·simp[h1]
  ·by_cases h2:y<x
   ·have:x≠y:=fun e=>by subst e;exact UInt8.lt_irrefl _ h2
    simp[h1,h2,this]
   ·have e:x=y:=ix (UInt8.not_lt.1 h2) (UInt8.not_lt.1 h1);subst e;simp[h1,uI r s]
theorem GW(less:Nat->Bool)(n:Nat)(hm:∀i j,i<=j->j<n->less j=true->less i=true):∀f lo hi,lo<=hi->hi<=n->hi-lo<=f->(∀t,t<lo->less t=true)->(∀t,hi<=t->t<n->less t=false) ->
  lo<=Lib.bsGo less f lo hi/\Lib.bsGo less f lo hi<=hi/\(∀t,t<Lib.bsGo less f lo hi->less t=true)/\∀t,Lib.bsGo less f lo hi<=t->t<n->less t=false
 |0,lo,hi,h1,h2,h3,h4,h5=>by
  have e:lo=hi:=aa;subst e;exact⟨ag _,ag _,h4,h5⟩
 |f+1,lo,hi,h1,h2,h3,h4,h5=>by
  simp only[Lib.bsGo];by_cases cB:lo<hi
  ·rw[if_pos cB];cases hl:less ((lo+hi)/2)
   ·simp only[aM,if_false];obtain⟨k1,k2,k3,k4⟩:=GW less n hm f lo ((lo+hi)/2) aa aa aa h4 (fun t ht htn=>by
     cases hq:less t
     ·rfl
     ·have:=hm _ t ht htn hq;rw[hl] at this;cases this)
    exact⟨k1,aa,k3,k4⟩
   ·simp only[if_true];obtain⟨k1,k2,k3,k4⟩:=GW less n hm f ((lo+hi)/2+1) hi aa h2 aa (fun t ht=>hm t _ aa aa hl) h5;exact⟨aa,k2,k3,k4⟩
  ·rw[if_neg cB];have e:lo=hi:=aa;subst e;exact⟨ag _,ag _,h4,h5⟩
def nn(xs:List af)(x:af):Nat:=Lib.bsGo (fun t=>Op.bytesLess (xs.getD t aP).toList x.toList) xs.length 0 xs.length
def pV(xs:List af)(x:af):Bool:=decide (nn xs x<xs.length/\xs.getD (nn xs x) aP=x)
theorem My(b c:Nat)(p:Option Addr)(xs:List af)(x:af)(w:ae)(hn:xs.length<=100000)(hp:xs≠[]->p=some ⟨b,0,none⟩)(ht:fE w b 0 xs):
  Calls au 77 #[.slice p xs.length c,.string x] w fun e w'=>e=.returned (.tuple #[.int .i64 (nn xs x:Nat),.bool (pV xs x)])/\∃q,w'=w.drewN q:=by
 by_cases h0:xs=[]
 ·subst h0;exact(Any2.slices_BinarySearch_string_empty Tryz.Jm p c x w).mono fun e w' hq=>by
   obtain⟨rfl,rfl⟩:=hq;exact⟨by simp[nn,pV,Lib.bsGo],0,rfl⟩
 ·obtain rfl:=hp h0;exact Any2.slices_BinarySearch_string Tryz.Jm b 0 xs.length c (fun j=>xs.getD j aP) x w aa fun j hj=>by
   rw[ht j hj];simp[hj]
def lS(xs:List af):Prop:=∀i j (hi:i<xs.length) (hj:j<xs.length),i<j->Lib.compareBytes xs[i].toList xs[j].toList<0
theorem yF(xs:List af)(hs:lS xs)(x:af):pV xs x=true↔x∈xs:=by
 have ND:∀i j,i<=j->j<xs.length->Op.bytesLess (xs.getD j aP).toList x.toList=true->Op.bytesLess (xs.getD i aP).toList x.toList=true:=by
  intro i j Fi hj hl;by_cases e:i=j
  ·subst e;exact hl
  ·rw[uI] at *;have hi:i<xs.length:=aa;have h1:=hs i j hi hj aa;simp only[List.getD_eq_getElem?_getD,bp hi,bp hj,br,decide_eq_true_eq] at *;exact nW _ _ _ h1 hl
 obtain⟨k1,k2,k3,k4⟩:=GW _ xs.length ND xs.length 0 xs.length (aV _) (ag _) aa (fun t ht=>aa) (fun t ht h=>aa);constructor
 ·intro h;simp only[pV,decide_eq_true_eq] at h;obtain⟨h1,h2⟩:=h;rw[<- h2];simp[h1]
 ·intro hx;obtain⟨j,hj,rfl⟩:=bf hx;have Sn:Op.bytesLess (xs.getD j aP).toList xs[j].toList=false:=by
   rw[uI];simp[hj,p9]
  have hle:nn xs xs[j]<=j:=di fun cB=>by
   have:=k3 j cB;rw[Sn] at this;cases this
  have Pv:j<=nn xs xs[j]:=di fun cB=>by
   have h1:=k4 (nn xs xs[j]) (ag _) aa;have hp:nn xs xs[j]<xs.length:=aa;have h2:=hs (nn xs xs[j]) j hp hj cB;rw[uI] at h1;simp only[List.getD_eq_getElem?_getD,bp hp,br] at h1;simp at h1;omega
  have e:nn xs xs[j]=j:=aa;simp only[pV,decide_eq_true_eq];rw[e];exact⟨hj,by simp[hj]⟩
end
section
open Go.RowKit
theorem Wx:(au.info? 280).map (fun i=>(i.zero,i.size,i.bytes))=some (some (.agg #[.bool false,.int .i64 0]),2,16):=ah
theorem GX(w:ae)(n:Nat)(hn:n<=100000):(Instr.makeSlice 218 (.int .i64 (n:Int)) (.int .i64 (n:Int))).run au w=.ok (.slice (some ⟨w.heap.size,0,none⟩) n n) (w.alloc (.cells (madeCells #[.bool false,.int .i64 0] (n*2)) 280)):=by
 obtain⟨i,hi,hz⟩:=Option.map_eq_some_iff.1 Wx;simp only[bu] at hz;obtain⟨hz,hs,hb⟩:=hz;have:=run_make (P:=au) w 218 280 i _ underlying218 hi hz .i64 .i64 n n aa (fP _) (by rw[hb];omega) aa;rw[this,hs];simp[Value.cells]
def kP(l:List (Bool×Nat))(j:Nat):Value:=if j%2=0 then .bool (l.getD (j/2) (false,0)).1 else .int .i64 ((l.getD (j/2) (false,0)).2:Nat)
def rD(outs sources:List af)(x:af):Bool×Nat:=(pV outs x,if pV outs x then nn outs x else nn sources x)
theorem uJ(b c:Nat)(p:Option Addr)(xs:List af)(x:af)(w:ae)(hn:xs.length<=100000)(hp:xs≠[]->p=some ⟨b,0,none⟩)(ht:fE w b 0 xs):
  Calls au 77 #[.slice p xs.length c,.string x] w fun e w'=>e=.returned (.tuple #[.int .i64 (nn xs x:Nat),.bool (pV xs x)])/\w'.heap=w.heap/\∀w0 B,Below B w0 w->Below B w0 w' :=
 (My b c p xs x w hn hp ht).mono fun e w' ⟨h1,q,h2⟩=>⟨h1,by rw[h2];rfl,fun w0 B hb=>by rw[h2];exact⟨hb.os,hb.tape,hb.output,hb.size,hb.block⟩⟩
theorem mJ{w w':ae}(h:w'.heap=w.heap)(a:Addr):w'.cell? a=w.cell? a:=by simp[World.cell?,h]
theorem uK{w w':ae}(h:w'.heap=w.heap)(a:Addr):w'.frozen? a=w.frozen? a:=by simp[World.frozen?,h]
theorem Tz{w:ae}{B t n k:Nat}{lk:List (Bool×Nat)}{b:Bool}{m:Nat}(cp:w.rowIs B t (n*2) fun j=>if j<k*2 then kP lk j else kP [] j)(hl:lk.getD k (false,0)=(b,m)):
  ((w.setCell ⟨B,k*2,none⟩ (.bool b)).setCell ⟨B,k*2+1,none⟩ (.int .i64 m)).rowIs B t (n*2) fun j=>if j<(k+1)*2 then kP lk j else kP [] j:=by
 refine((cp.set (k*2) _).set (k*2+1) _).congr fun j hj=>?_;by_cases e1:j=k*2+1
 ·subst e1;rw[if_pos rfl,if_pos aa];have h1:(k*2+1)%2=1:=aa;have h2:(k*2+1)/2=k:=aa;simp only[kP,h1,h2,hl];rfl
 ·by_cases e2:j=k*2
  ·subst e2;rw[if_neg e1,if_pos rfl,if_pos aa];have h1:(k*2)%2=0:=aa;have h2:(k*2)/2=k:=aa;simp only[kP,h1,h2,hl];rfl
  ·rw[if_neg e1,if_neg e2];by_cases e3:j<k*2
   ·rw[if_pos e3,if_pos aa]
   ·rw[if_neg e3,if_neg aa]
theorem Mz(nb nc ob oc sb sc:Nat)(np sp:Option Addr)(names outs sources:List af)(w:ae)(h1:names.length<=100000)(h2:outs.length<=100000)(h3:sources.length<=100000)(vJ:names≠[]->np=some ⟨nb,0,none⟩/\nb<w.heap.size)(vF:sources≠[]->sp=some ⟨sb,0,none⟩/\sb<w.heap.size)(gj:ob<w.heap.size)(hn:fE w nb 0 names)(ho:fE w ob 0 outs)(hs:fE w sb 0 sources):
  Calls au 149 #[.slice np names.length nc,.slice (some ⟨ob,0,none⟩) outs.length oc,.slice sp sources.length sc] w fun e w'=>e=.returned (.slice (some ⟨w.heap.size,0,none⟩) names.length names.length)/\Below w.heap.size w w'/\w.heap.size<w'.heap.size /\
   w'.rowIs w.heap.size 280 (names.length*2) (kP (names.map (rD outs sources))):=by
 have Jq:=fun w=>GX w names.length h1;go_enter func149,ntmps149;go_wp2;go_loopw [17] (fun i w'=>∃k:Nat,k<=names.length/\i=.int .i64 k/\Below w.heap.size w w'/\w.heap.size<w'.heap.size/\w'.rowIs w.heap.size 280 (names.length*2) (fun j=>if j<k*2 then kP (names.map (rD outs sources)) j else kP [] j)) (fun i _=>names.length-(intOf i).toNat)
 case atStart =>
  refine⟨0,aV _,rfl,(Below.refl _ _).alloc (ag _) _,aj,_,jW _ _,by simp[size_madeCells],fun j hj=>?_⟩;simp only[madeCells,aL,Array.getElem?_range,hj,if_true,aK];rcases fo j with e|e<;>simp[e,kP]
 case round =>
  obtain⟨k,hk,rfl,gB,hz,cp⟩:=hrel;by_cases cB:k<names.length
  ·obtain⟨rfl,Gv⟩:=vJ (fun e=>by rw[e] at cB;simp at cB);have c0:=hn.below Gv gB k cB;rw[bC] at c0;have Wa:=uJ ob oc (some ⟨ob,0,none⟩) outs names[k] wr h2 (fun _=>rfl) (ho.below gj gB);have hss:∀w2:ae,w2.heap=wr.heap->Calls au 77 #[.slice sp sources.length sc,.string names[k]] w2 fun e w'=>e=.returned (.tuple #[.int .i64 (nn sources names[k]:Nat),.bool (pV sources names[k])])/\w'.heap=w2.heap/\∀w0 B,Below B w0 w2->Below B w0 w':=fun w2 va =>
    uJ sb sc sp sources names[k] w2 h3 (fun h=>(vF h).1) (fun j hj=>by
     obtain⟨_,X2⟩:=vF (fun e=>by rw[e] at hj;simp at hj);rw[mJ va];exact hs.below X2 gB j hj)
   have d0:wr.cell? ⟨w.heap.size,k*2,none⟩=some (.bool false):=by rw[cp.cell aa,if_neg aa];simp[kP]
   have d1:wr.cell? ⟨w.heap.size,k*2+1,none⟩=some (.int .i64 0):=by rw[cp.cell aa,if_neg aa];simp[kP]
   have f0:∀j,wr.frozen? ⟨w.heap.size,j,none⟩=false:=fun j=>cp.frozen j;have Og:(names.map (rD outs sources)).getD k (false,0)=rD outs sources names[k]:=by simp[cB]
   generalize hx:names[k]=x at *;have Pg:rD outs sources x=(pV outs x,if pV outs x then nn outs x else nn sources x):=rfl;clear hn ho hs vJ;generalize pV outs x=ho at *;generalize nn outs x=po at *;generalize nn sources x=ps at *;generalize pV sources x=ts at *;generalize names.map (rD outs sources)=lk at *;generalize rD outs sources x=lx at *;cases ho
   ·go_wp2_with (first|(go_at_call 77;refine vh.mono ?_;rintro e w3 ⟨rfl,Vi,xA⟩;have g0:=(mJ (Vi.trans va) _).trans d0;have g1:=(mJ (Vi.trans va) _).trans d1;have g2:=fun j=>(uK (Vi.trans va) _).trans (f0 j))|(go_at_call 77;refine Wa.mono ?_;rintro e w2 ⟨rfl,va,pH⟩;have vh:=hss w2 va));refine⟨⟨k+1,aa,by go_num,((xA _ _ (pH _ _ gB)).setCell (ag _) _).setCell (ag _) _,?_,?_⟩,by simp[intOf];omega⟩
    ·simp[World.setCell,Vi,va];exact hz
    ·exact Tz (cp.of_block (by rw[Vi,va])) (by rw[Og,Pg];rfl)
   ·go_wp2_with (go_at_call 77;refine Wa.mono ?_;rintro e w2 ⟨rfl,va,pH⟩;have g0:=(mJ va _).trans d0;have g1:=(mJ va _).trans d1;have g2:=fun j=>(uK va _).trans (f0 j));refine⟨⟨k+1,aa,by go_num,((pH _ _ gB).setCell (ag _) _).setCell (ag _) _,?_,?_⟩,by simp[intOf];omega⟩
    ·simp[World.setCell,va];exact hz
    ·exact Tz (cp.of_block (by rw[va])) (by rw[Og,Pg];rfl)
  ·go_wp2;go_ret;exact⟨rfl,gB,hz,cp.congr fun i hi=>by rw[if_pos aa]⟩
end
section
open Go.RowKit
def tD(outs:List af)(l:List af):List af:=l.filter fun x=>!Lib.containsS outs x
def lJ(outs:List af)(nm:Nat->List af):Nat->List af
 |0=>[]
 |k+1=>lJ outs nm k++tD outs (nm k)
theorem oY(outs:List af)(nm:Nat->List af)(n:Nat)(h:∀i,i<n->(nm i).length<=4):∀k,k<=n->(lJ outs nm k).length<=4*k
 |0,_=>by simp[lJ]
 |k+1,hk=>by
  have h1:=oY outs nm n h k aa;have h2:=h k aa;have h3:(tD outs (nm k)).length<=(nm k).length:=fj _ _;simp[lJ];omega
theorem MA(outs:List af)(l:List af)(j:Nat)(h:j<l.length):tD outs (l.take (j+1))=tD outs (l.take j)++(if Lib.containsS outs l[j] then[] else[l[j]]):=by
 rw[take_succ l j h];simp only[tD,List.filter_append,List.filter_cons,List.filter_nil];cases Lib.containsS outs l[j]<;>simp
structure yG(w:ae)(b:Nat)(rs:List aJ)(nm:Nat->List af)(nb:Nat->Nat):Prop where
 at_:eX w b rs
 len:∀i (h:i<rs.length),rs[i].sl=(nm i).length
 ptr:∀i (h:i<rs.length),nm i≠[]->rs[i].sa=some ⟨nb i,0,none⟩/\nb i<w.heap.size
 txt:∀i,i<rs.length->fE w (nb i) 0 (nm i)
 four:∀i,i<rs.length->(nm i).length<=4
theorem yH(b c:Nat)(xs:List af)(x:af)(w:ae)(hn:xs.length<=100000)(ht:fE w b 0 xs):
  Calls au 80 #[.slice (some ⟨b,0,none⟩) xs.length c,.string x] w fun e w'=>e=.returned (.bool (Lib.containsS xs x))/\w'=w:=by
 have:=Tryz.slices_Contains_string b 0 xs.length c xs x w (ag _) aa (fun j hj=>by rw[ht j hj];simp[hj]);rw[cU] at this;exact this
theorem qC(W:ae)(lo:Nat)(v:Value)(xs:List af)(x:af)(A:Nat)(h:W.ownsRow lo 9 1 v xs.length (xs.map .string))(hn:xs.length<=100000)(vO:lo<=W.heap.size)(ha:W.cell? ⟨A,0,none⟩=some (.string x)):
  ∃v' W',(Builtin.append_ #[40,40] 40 #[v,.slice (some ⟨A,0,none⟩) 1 1]).run au W=.ok v' W'/\W'.ownsRow lo 9 1 v' (xs++[x]).length ((xs++[x]).map .string)/\W.grownBy W' v.ownBlock:=by
 obtain⟨i,hi,ov⟩:=Option.map_eq_some_iff.1 qx;simp only[bu] at ov;obtain⟨v',W',e1,e2,e3,_⟩:=run_append_own (P:=au) W lo 40 40 9 i _ 1 16 underlying40 hi ov.1 ov.2.1 ov.2.2 rfl aa v xs.length (xs.map .string) h ⟨A,0,none⟩ 1 1 [.string x] rfl (fun j u hj=>by
  cases j with
  |zero=>simp at hj;subst hj;simpa[Addr.add] using ha
  |succ j=>simp at hj) (by simp;rfl) (by simp[maxLen];omega) aa vO
 exact⟨v',W',e1,by simpa using e2,e3⟩
theorem zP{w:ae}{lo e sz n:Nat}{v:Value}{xs:List Value}(h:w.ownsRow lo e sz v n xs):∀k,v.ownBlock=some k->lo<=k:=fun k hk=>by
 obtain⟨_,hc⟩:=h;rcases hc with⟨rfl,_⟩|⟨g,cap,cur,rfl,h1,_⟩
 ·cases hk
 ·cases hk;exact h1
end
section
open Go.RowKit
theorem qc{w:ae}{lo e sz n:Nat}{v:Value}{xs:List Value}(h:w.ownsRow lo e sz v n xs)(x:Obj):(w.alloc x).ownsRow lo e sz v n xs:=dF h fun g hg Tq=>by
 obtain⟨_,hc⟩:=h;rcases hc with⟨rfl,_⟩|⟨g',cap,cur,rfl,h5,h6,_⟩
 ·cases hg
 ·have e:g=g':=aR hg;subst e;exact Below.heap_alloc _ _ _ (Array.getElem?_eq_some_iff.1 h6).1
theorem GY(b c ob oc:Nat)(p:Option Addr)(rs:List aJ)(nm:Nat->List af)(nb:Nat->Nat)(outs:List af)(w:ae)(h1:rs.length<=1000)(h2:outs.length<=100000)(hp:rs≠[]->p=some ⟨b,0,none⟩/\b<w.heap.size)(gj:ob<w.heap.size)(hr:yG w b rs nm nb)(ho:fE w ob 0 outs){S C:ae->Value->ae->Prop}(Ri:∀W v,W.ownsRow w.heap.size 9 1 v (lJ outs nm rs.length).length ((lJ outs nm rs.length).map .string)->Calls au 188 #[v] W fun e w'=>e=.returned (.tuple #[])/\S W v w')(hco:∀W v W1,W.ownsRow w.heap.size 9 1 v (lJ outs nm rs.length).length ((lJ outs nm rs.length).map .string)->S W v W1->Calls au 189 #[v] W1 fun e w'=>∃v',e=.returned v'/\C W v' w'):
  Calls au 148 #[.slice p rs.length c,.slice (some ⟨ob,0,none⟩) outs.length oc] w fun e w'=>∃v' W,e=.returned v'/\Below w.heap.size w W/\w.heap.size<=W.heap.size/\C W v' w':=by
 go_enter func148,ntmps148;go_wp2;go_loopw [5,12] (fun v i w'=>∃k:Nat,k<=rs.length/\i=.int .i64 k/\Below w.heap.size w w'/\w.heap.size<=w'.heap.size/\w'.ownsRow w.heap.size 9 1 v (lJ outs nm k).length ((lJ outs nm k).map .string)) (fun v i _=>rs.length-(intOf i).toNat)
 case atStart=>exact⟨0,aV _,rfl,Below.refl _ _,ag _,by simp[lJ],.inl ⟨rfl,rfl⟩⟩
 case round =>
  obtain⟨k,hk,rfl,gB,hz,cp⟩:=hrel;by_cases cB:k<rs.length
  ·obtain⟨rfl,hb⟩:=hp (fun e=>by rw[e] at cB;simp at cB);obtain⟨c0,c1,c2⟩:=hr.at_.below hb gB k cB;have hlen:=hr.len k cB;have adO:=hr.ptr k cB;have Ro:=hr.txt k cB;have h4:=hr.four k cB;have Yl:=oY outs nm rs.length hr.four k hk;have Eu:lJ outs nm (k+1)=lJ outs nm k++tD outs (nm k):=rfl;generalize lJ outs nm k=raw at *;generalize hri:rs[k]=r at *;obtain⟨out,eU,sa,sl,sc⟩:=r;simp only at c0 c1 c2 hlen adO;subst hlen;go_wp2;go_loopw [5,19] (fun v i w'=>∃j:Nat,j<=(nm k).length/\i=.int .i64 j/\Below w.heap.size w w'/\w.heap.size<=w'.heap.size/\w'.ownsRow w.heap.size 9 1 v (raw++tD outs ((nm k).take j)).length ((raw++tD outs ((nm k).take j)).map .string)) (fun v i _=>(nm k).length-(intOf i).toNat)
   case atStart=>exact⟨0,aV _,rfl,gB.alloc aa _,dX,by simpa[tD] using qc cp _⟩
   case round =>
    clear gB hz cp;obtain⟨j,hj,rfl,gB,hz,cp⟩:=hrel;by_cases tL:j<(nm k).length
    ·obtain⟨rfl,Gv⟩:=adO (fun e=>by rw[e] at tL;simp at tL);have d0:=Ro.below Gv gB j tL;rw[bC] at d0;have vU:=yH ob oc outs (nm k)[j] wr h2 (ho.below gj gB);have Rs:=MA outs (nm k) j tL;generalize hx:(nm k)[j]=x at *;have Bz:(tD outs ((nm k).take j)).length<=j:=aX (fj _ _) dX;cases Qq:Lib.containsS outs x
     ·rw[Qq] at vU Rs;simp only[aM,if_false] at Rs;obtain⟨v',W',e1,e2,e3⟩:=qC (wr.alloc (.cells #[.string x] 9)) w.heap.size _ _ x wr.heap.size (qc cp _) dX dX (sV _ _ _ 0);have xA:=Below.grown (gB.alloc aa _) e3 dX (zP cp);go_wp2_with (first|(go_at_call 80;refine vU.mono ?_;rintro e w' ⟨rfl,rfl⟩)|(at_builtin;refine gw rfl _ _ 40 rfl rfl rfl e1 ?_));exact⟨⟨j+1,aa,by go_num,xA,xA.size,by rw[Rs,<- List.append_assoc];exact e2⟩,by simp[intOf];omega⟩
     ·rw[Qq] at vU Rs;simp only[if_true,List.append_nil] at Rs;go_wp2_with (go_at_call 80;refine vU.mono ?_;rintro e w' ⟨rfl,rfl⟩);exact⟨⟨j+1,aa,by go_num,gB,hz,by rw[Rs];exact cp⟩,by simp[intOf];omega⟩
    ·have e:j=(nm k).length:=aa;subst e;rw[cU] at cp;go_wp2;exact⟨⟨k+1,aa,by go_num,gB,hz,by rw[Eu];exact cp⟩,by simp[intOf];omega⟩
  ·have e:k=rs.length:=aa;subst e;have hs:=Ri _ _ cp;go_wp2_with (first|(go_at_call 188;refine hs.mono ?_;rintro e w' ⟨rfl,hS⟩;have hc:=hco _ _ _ cp hS)|(go_at_call 189;refine hc.mono ?_;rintro e w2 ⟨v',rfl,hC⟩));go_ret;exact⟨v',wr,rfl,gB,hz,hC⟩
end
section
open Go.RowKit Go.Sort Go.Lib
def bytesOf(x:af):List UInt8:=x.data.toList
def kx(raw:List af):List (List UInt8):=(raw.map bytesOf).mergeSort fun x y=>decide (x<=y)
def cZ(raw:List af):List af:=(Lib.compact (kx raw)).map fun l=>⟨l.toArray⟩
theorem TA(w:ae):Calls au 188 #[.slice none 0 0] w fun e w'=>e=.returned (.tuple #[])/\w'.heap=w.heap:=by
 have hl:=GQ 0 w aa;have h2:∀W,Calls au 225 #[.slice none 0 0,.int .i64 0,.int .i64 0] W fun e w'=>e=.returned (.tuple #[])/\w'.heap=W.heap:=fun W=>by
  go_enter func225,ntmps225;go_wp2;refine wp_loop_rounds 1 ?_;rw[rounds_succ];go_wp2
  go_end0
  exact⟨rfl,rfl⟩
 have h3:∀W lim,Calls au 207 #[.slice none 0 0,.int .i64 0,.int .i64 0,.int .i64 lim] W fun e w'=>e=.returned (.tuple #[])/\w'.heap=W.heap:=fun W lim=>by
  go_enter func207,ntmps207;go_wp2;refine wp_loop_rounds 1 ?_;rw[rounds_succ];go_wp2_with (go_at_call 225;refine(h2 _).mono ?_;rintro e w' ⟨rfl,hw⟩)
  (try simp only[Exit.inBlock,Exit.then])
  refine bodyPost_ret (results_none ah _ _).1 rfl ?_;exact⟨rfl,hw⟩
 go_enter func188,ntmps188;go_wp2_with (first|(go_at_call 205;refine hl.mono ?_;rintro e w' ⟨⟨l,rfl⟩,rfl⟩)|(go_at_call 207;refine(h3 _ _).mono ?_;rintro e w' ⟨rfl,hw⟩))
 go_end0
 exact⟨rfl,hw⟩
def TB(lo:Nat)(raw:List af)(W:ae)(v:Value)(W1:ae):Prop :=
 (v=.slice none 0 0/\raw=[]/\W1.heap=W.heap)\/∃g cap,v=.slice (some ⟨g,0,none⟩) raw.length cap/\raw.length<=cap/\lo<=g/\g<W.heap.size/\W.heap.size<=W1.heap.size/\(∀b,b<W.heap.size->b≠g->W1.heap[b]?=W.heap[b]?)/\Holds encStr W1 g 0 (kx raw).toArray
theorem sr(raw:List af):(kx raw).length=raw.length:=by simp[kx,List.length_mergeSort]
theorem TC(lo:Nat)(raw:List af)(W:ae)(v:Value)(h:W.ownsRow lo 9 1 v raw.length (raw.map .string))(hn:raw.length<=100000):
  Calls au 188 #[v] W fun e w'=>e=.returned (.tuple #[])/\TB lo raw W v w':=by
 obtain⟨_,hc⟩:=h;rcases hc with⟨rfl,h0⟩|⟨g,cap,cur,rfl,h1,h2,h3,h4,h5,h6⟩
 ·exact(TA W).mono fun e w' ⟨h1,h2⟩=>⟨h1,.inl ⟨rfl,List.length_eq_zero_iff.1 h0,h2⟩⟩
 ·have hg:g<W.heap.size:=(Array.getElem?_eq_some_iff.1 h2).1;have hH:Holds encStr W g 0 (raw.map bytesOf).toArray:=fun j hj=>by
   have sk:j<raw.length:=by simpa using hj
   rw[bC];refine⟨?_,by simp[World.frozen?,h2]⟩;have e:(raw.map Value.string)[j]?=cur[j]?:=by
    rw[<- h6,fI aa,Array.getElem?_toList]
   simp only[World.cell?,h2];simp only[Option.isSome_none,aM,if_false];rw[<- e];simp[sk,encStr,bytesOf]
  have hs:=Tryz.slices_Sort_string g 0 cap (raw.map bytesOf) W hH hg dX;rw[bR] at hs;refine hs.mono fun e w' hq=>?_;obtain⟨rfl,n,os,rfl⟩:=hq;have pH:g<(putRow encStr (Go.Sort.ahead W n) g 0 (kx raw).toArray).heap.size:=by simp[putRow,mapBlock,Go.Sort.ahead];exact hg
  refine⟨rfl,.inr ⟨g,cap,rfl,h3,h1,hg,?_,fun b hb dJ=>?_,?_⟩⟩
  ·simp[Go.Sort.grow,putRow,mapBlock,Go.Sort.ahead]
  ·rw[heap_grow_old _ _ (by simp[putRow,mapBlock,Go.Sort.ahead];exact hb)];simp only[putRow,mapBlock,Go.Sort.ahead];rw[aS,if_neg (fun e=>dJ e.symm)]
  ·exact holds_grow encStr _ os g 0 _ pH (holds_putRow encStr _ g 0 _ _ hH (by simp[List.length_mergeSort]))
end
section
open Go.RowKit Go.Sort Go.Lib
def aam(lo:Nat)(raw:List af)(W:ae)(v:Value)(W1:ae):Prop :=
 (v=.slice none 0 0/\cZ raw=[]/\W1.heap=W.heap)\/∃g cap,v=.slice (some ⟨g,0,none⟩) (cZ raw).length cap/\(cZ raw).length<=cap/\lo<=g/\g<W.heap.size/\W.heap.size<=W1.heap.size/\(∀b,b<W.heap.size->b≠g->W1.heap[b]?=W.heap[b]?)/\fE W1 g 0 (cZ raw)
theorem C6{α:Type}[Inhabited α][DecidableEq α](zs:List α):(Lib.compact zs).length<=zs.length:=by
 unfold Lib.compact Lib.compactUpTo;rw[bR];exact aX (fj _ _) aj
theorem JR(lo:Nat)(raw:List af)(W:ae)(v:Value)(W1:ae)(hn:raw.length<=100000)(hS:TB lo raw W v W1):
  Calls au 189 #[v] W1 fun e w'=>∃v',e=.returned v'/\aam lo raw W v' w':=by
 rcases hS with⟨rfl,rfl,h0⟩|⟨g,cap,rfl,h1,h2,h3,h4,h5,h6⟩
 ·refine(Tryz.slices_Compact_string_empty none 0 W1).mono fun e w' hq=>?_;obtain⟨rfl,rfl⟩:=hq;exact⟨_,rfl,.inl ⟨rfl,by simp[cZ,kx,Lib.compact,Lib.compactUpTo],h0⟩⟩
 ·have hc:=Tryz.slices_Compact_string g 0 cap (kx raw) W1 h6 (by rw[sr];omega) (by rw[sr];exact h1);rw[sr] at hc;refine hc.mono fun e w' hq=>?_;obtain⟨rfl,q,rfl⟩:=hq;have hle:(Lib.compact (kx raw)).length<=raw.length:=by rw[<- sr raw];exact C6 _
  have hl:(cZ raw).length=(Lib.compact (kx raw)).length:=by simp[cZ]
  refine⟨_,rfl,.inr ⟨g,cap,by rw[hl],aa,h2,h3,?_,fun b hb dJ=>?_,fun k hk=>?_⟩⟩
  ·simp[putRow,mapBlock,Go.Sort.ahead];exact h4
  ·simp only[putRow,mapBlock,Go.Sort.ahead];rw[aS,if_neg (fun e=>dJ e.symm)];exact h5 b hb dJ
  ·have lX:k<(Lib.compact (kx raw)).length:=aa;have:=(holds_putRow encStr (Go.Sort.ahead W1 q) g 0 _ (Lib.compact (kx raw)++List.replicate (raw.length-(Lib.compact (kx raw)).length) []).toArray h6 (by simp[sr];omega) k dX).1;rw[this];rw[eP _ k dX];simp only[List.getElem_toArray];rw[bV lX];simp[cZ,encStr]
theorem Ev(b c ob oc:Nat)(p:Option Addr)(rs:List aJ)(nm:Nat->List af)(nb:Nat->Nat)(outs:List af)(w:ae)(h1:rs.length<=1000)(h2:outs.length<=100000)(hp:rs≠[]->p=some ⟨b,0,none⟩/\b<w.heap.size)(gj:ob<w.heap.size)(hr:yG w b rs nm nb)(ho:fE w ob 0 outs):
  Calls au 148 #[.slice p rs.length c,.slice (some ⟨ob,0,none⟩) outs.length oc] w fun e w'=>∃v' W,e=.returned v'/\Go.RowKit.Below w.heap.size w W/\w.heap.size<=W.heap.size/\aam w.heap.size (lJ outs nm rs.length) W v' w':=by
 have hl:=oY outs nm rs.length hr.four rs.length (ag _);exact GY b c ob oc p rs nm nb outs w h1 h2 hp gj hr ho (S:=TB w.heap.size (lJ outs nm rs.length)) (C:=aam w.heap.size (lJ outs nm rs.length)) (fun W v h=>TC _ _ W v h aa) (fun W v W1 _ hS=>JR _ _ W v W1 aa hS)
end
section
open Go.Lib
theorem aan(a b:List UInt8):a<b↔compareBytes a b<0:=by
 have h1:=uI a b;rw[bytesLess_eq] at h1;exact decide_eq_decide.1 h1
theorem MB(a b:List UInt8):a<=b↔compareBytes a b<=0:=by
 have h:=sn a b;rw[show a<=b↔¬b<a from db,aan];omega
theorem GZ(a b c:List UInt8)(h1:compareBytes a b<=0)(h2:compareBytes b c<=0):compareBytes a c<=0:=by
 rcases gZ h1 with h3|h3
 ·rcases gZ h2 with h4|h4
  ·exact Int.le_of_lt (nW a b c h3 h4)
  ·rw[<- sU b c h4];omega
 ·rw[sU a b h3];exact h2
theorem Qr(a b c:List UInt8)(h1:compareBytes a b<=0)(h2:compareBytes b c<0):compareBytes a c<0:=by
 rcases gZ h1 with h3|h3
 ·exact nW a b c h3 h2
 ·rw[sU a b h3];exact h2
theorem G0(raw:List af):(kx raw).Pairwise fun x y=>compareBytes x y<=0:=by
 have h:=List.pairwise_mergeSort (le:=fun x y:List UInt8=>decide (x<=y)) (fun a b c h1 h2=>by
  simp only[decide_eq_true_eq,MB] at *;exact GZ a b c h1 h2) (fun a b=>by
  have:=sn a b;simp only[Bool.or_eq_true,decide_eq_true_eq,MB];omega) (raw.map bytesOf)
 exact h.imp fun h=>(MB _ _).1 (by simpa using h)
theorem uL(d:Array (List UInt8))(hs:∀i j,i<j->j<d.size->compareBytes d[i]! d[j]!<=0):∀m,m<=d.size->(compactUpTo d m).Pairwise (fun x y=>compareBytes x y<0)/\(∀x,x∈compactUpTo d m↔∃j,j<m/\x=d[j]!)
 |0,_=>by simp[compactUpTo]
 |m+1,hm=>by
  obtain⟨k1,k2⟩:=uL d hs m aa;rw[compactUpTo_succ];cases hk:keeps d m
  ·simp only[keeps,decide_eq_false_iff_not,not_or] at hk;have e:d[m]! = d[m-1]!:=Classical.not_not.1 hk.2;simp only[aM,if_false,List.append_nil];refine⟨k1,fun x=>⟨fun h=>?_,fun⟨j,hj,hx⟩=>?_⟩⟩
   ·obtain⟨j,hj,hx⟩:=(k2 x).1 h;exact⟨j,aa,hx⟩
   ·by_cases ej:j=m
    ·subst ej;rw[e] at hx;exact(k2 x).2 ⟨j-1,aa,hx⟩
    ·exact(k2 x).2 ⟨j,aa,hx⟩
  ·simp only[if_true];refine⟨?_,fun x=>⟨fun h=>?_,fun⟨j,hj,hx⟩=>?_⟩⟩
   ·rw[List.pairwise_append];refine⟨k1,aj,fun x hx y hy=>?_⟩;simp at hy;subst hy;obtain⟨j,hj,rfl⟩:=(k2 x).1 hx;simp only[keeps,decide_eq_true_eq] at hk;have lX:d[m]!≠d[m-1]!:=hk.resolve_left aa;have h1:compareBytes d[m-1]! d[m]!<0:=by
     have:=hs (m-1) m aa aa;rcases gZ this with h|h
     ·exact h
     ·exact absurd (sU _ _ h).symm lX
    by_cases ej:j=m-1
    ·subst ej;exact h1
    ·exact Qr _ _ _ (hs j (m-1) aa aa) h1
   ·rw[gM] at h;rcases h with h|h
    ·obtain⟨j,hj,hx⟩:=(k2 x).1 h;exact⟨j,aa,hx⟩
    ·simp at h;exact⟨m,aa,h⟩
   ·rw[gM];by_cases ej:j=m
    ·subst ej;exact .inr (by simp[hx])
    ·exact .inl ((k2 x).2 ⟨j,aa,hx⟩)
theorem oZ(raw:List af):lS (cZ raw)/\∀x,x∈cZ raw↔x∈raw:=by
 have hs:=G0 raw;obtain⟨k1,k2⟩:=uL (kx raw).toArray (fun i j Fi hj=>by
  have sk:j<(kx raw).length:=by simpa using hj
  rw[eP _ i dX,eP _ j hj];exact List.pairwise_iff_getElem.1 hs i j aa sk Fi) (kx raw).length aj
 refine⟨fun i j hi hj Fi=>?_,fun x=>?_⟩
 ·have mn:i<(Lib.compact (kx raw)).length:=by simpa[cZ] using hi
  have sk:j<(Lib.compact (kx raw)).length:=by simpa[cZ] using hj
  have:=List.pairwise_iff_getElem.1 k1 i j mn sk Fi;simp only[cZ,List.getElem_map,ByteArray.toList_mk];exact this
 ·have hb:∀l:List UInt8,l∈Lib.compact (kx raw)↔l∈raw.map bytesOf:=fun l=>by
   have h1:l∈Lib.compact (kx raw)↔l∈kx raw:=by
    rw[show Lib.compact (kx raw)=compactUpTo (kx raw).toArray (kx raw).length from rfl,k2];constructor
    ·rintro⟨j,hj,rfl⟩;rw[eP _ j (by simpa using hj)];simp
    ·intro h;obtain⟨j,hj,rfl⟩:=bf h;exact⟨j,hj,by rw[eP _ j (by simpa using hj)];simp⟩
   rw[h1];simp[kx,List.mem_mergeSort]
  simp only[cZ,List.mem_map];constructor
  ·rintro⟨l,hl,rfl⟩;have:=(hb l).1 hl;rw[List.mem_map] at this;obtain⟨y,hy,rfl⟩:=this;exact hy
  ·intro hx;exact⟨bytesOf x,(hb _).2 (List.mem_map.2 ⟨x,hx,rfl⟩),rfl⟩
end
open Go.Ren Go.Conc Go.ConcN
section
variable {Fin:bL} {o:aN} {w:ae}
structure fY(o:aN)(w:ae)(v:Value)(o':aN)(w':ae):Prop where
 own:o'=grow o w w'
 aG:bN au L0 o' w'
 size:w.heap.size<=w'.heap.size
 old:∀b,b<w.heap.size->w'.heap[b]?=w.heap[b]?
 cl:Cl au L0 o' v
theorem Oh{P:Program}{L:Nat->Bool}{o:aN}{vs:Array Value}(h:∀x∈vs,Cl P L o x):∀g,(mM P L o).has g->vs.map (val g)=vs:=fun g hg=>by
 apply jA;intro i;rw[aL];cases e:vs[i]? with
 |none=>rfl
 |some x=>rw[aK,h x (dY e) g hg]
theorem eF{f:FuncId}{vs:Array Value}(hL:L0 f=true)(hF:bN au L0 o w)(uv:∀x∈vs,Cl au L0 o x){Q:ae->Value->ae->Prop}(hQ:∀wl Ba v w1 w2,Ba.heap=wl.heap->w2.heap=w1.heap->Q wl v w1->Q Ba v w2)(hC:∀wl,wl.heap.size=w.heap.size->(∀b,o b->wl.heap[b]?=w.heap[b]?)->Calls au f vs wl fun e w'=>∃v,e=.returned v/\wl.heap.size<=w'.heap.size/\(∀b,b<wl.heap.size->w'.heap[b]?=wl.heap[b]?)/\Q wl v w'):
  bA au (XB au Fin 0) f vs o w fun v o' w'=>fY o w v o' w'/\∃wl aW,wl.heap.size=w.heap.size/\aW.heap.size=w'.heap.size/\(∀b,w.heap.size<=b->b<w'.heap.size->w'.heap[b]?=aW.heap[b]?)/\Q wl v aW:=by
 refine sR bS hL hF (Oh uv) (R:=fun wl v aW=>wl.heap.size<=aW.heap.size/\(∀b,b<wl.heap.size->aW.heap[b]?=wl.heap[b]?)/\Q wl v aW) (fun wl v w1 τ d h=>⟨h.1,h.2.1,hQ wl wl v w1 (WT w1 τ d) rfl rfl h.2.2⟩) (fun wl τ d v w' h=>⟨h.1,h.2.1,hQ (WT wl τ d) wl v w' w' rfl rfl h.2.2⟩) (fun wl hz aU=>hC wl hz aU) ?_;rintro wl v aW w' hz aU ⟨h1,h2,h3⟩ B;refine⟨⟨rfl,B.aG,B.jq,fun b hb=>?_,B.val⟩,wl,aW,hz,B.size.symm,fun b hb nC=>B.same b (.inr ⟨hb,nC⟩),h3⟩;by_cases ho:o b
 ·rw[B.same b (.inl ho),h2 b aa,aU b ho]
 ·exact B.rest b hb ho
theorem hJ{w w':ae}{b:Nat}{rs:List aJ}(h:eX w b rs)(e:w'.heap[b]?=w.heap[b]?):eX w' b rs:=fun i hi=>by
 obtain⟨c0,c1,c2⟩:=h i hi;exact⟨(cell_of e).trans c0,(cell_of e).trans c1,(cell_of e).trans c2⟩
theorem dh{w w':ae}{b off:Nat}{ts:List af}(h:fE w b off ts)(e:w'.heap[b]?=w.heap[b]?):fE w' b off ts:=fun i hi=>(cell_of e).trans (h i hi)
theorem TD(hF:bN au L0 o w)(b c:Nat)(p:Option Addr)(rs:List aJ)(hn:rs.length<=100000)(hp:rs≠[]->p=some ⟨b,0,none⟩/\o b)(hv:eX w b rs)(hc:Cl au L0 o (.slice p rs.length c)):
  bA au (XB au Fin 0) 147 #[.slice p rs.length c] o w fun v o' w'=>fY o w v o' w'/\v=.slice (some ⟨w.heap.size,0,none⟩) rs.length rs.length/\w.heap.size<w'.heap.size/\fE w' w.heap.size 0 (rs.map (·.out)):=by
 have fB:∀x∈#[Value.slice p rs.length c],Cl au L0 o x:=fun x hx=>by
  simp at hx;subst hx;exact hc
 refine bA.mono (eF ah hF fB (Q:=fun wl v w'=>v=.slice (some ⟨wl.heap.size,0,none⟩) rs.length rs.length/\wl.heap.size<w'.heap.size/\w'.rowIs wl.heap.size 9 rs.length (fun j=>.string ((rs.map (·.out)).getD j aP))) (fun wl Ba v w1 w2 e1 e2 h=>?_) (fun wl hz aU=>?_)) (fun v o' w' hq=>?_)
 ·rw[e1,e2];exact⟨h.1,h.2.1,h.2.2.of_block (by rw[e2])⟩
 ·refine(Mw b c p rs wl hn (fun h=>⟨(hp h).1,by rw[hz];exact hF.lt (hp h).2⟩) ?_).mono fun e w' hq=>?_
  ·intro i hi;exact hJ hv (aU b (hp (fun e=>by rw[e] at hi;simp at hi)).2) i hi
  ·obtain⟨rfl,h1,h2,h3⟩:=hq;exact⟨_,rfl,h1.size,fun b hb=>h1.block b hb,rfl,h2,h3⟩
 ·obtain⟨hN,wl,aW,z1,z2,hs,rfl,h2,h3⟩:=hq;rw[z1] at h2 h3 hN |-;refine⟨hN,rfl,aa,fun k hk=>?_⟩;have lX:k<rs.length:=by simpa using hk
  have:=(h3.of_block (hs _ (ag _) aa)).cell lX;rw[bC,this];simp[lX]
theorem jG{w w':ae}{St n:Nat}{out:Nat->af}{eU:Nat->Int}{ins:Nat->List (Bool×Nat)}{cO:Nat->Nat}(h:pU w St n out eU ins cO)(e:w'.heap[St]?=w.heap[St]?)(ei:∀s,s<n->w'.heap[cO s]?=w.heap[cO s]?)(hz:w.heap.size<=w'.heap.size):pU w' St n out eU ins cO where
 out s hs:=(cell_of e).trans (h.out s hs)
 eU s hs:=(cell_of e).trans (h.eU s hs)
 A9 s hs:=(cell_of e).trans (h.A9 s hs)
 CR s hs j hj:=⟨(cell_of (ei s hs)).trans (h.CR s hs j hj).1,(cell_of (ei s hs)).trans (h.CR s hs j hj).2⟩
 lt s hs:=bz (h.lt s hs) hz
 short:=h.short
theorem Qs(hF:bN au L0 o w)(St n sc:Nat)(out:Nat->af)(eU:Nat->Int)(ins:Nat->List (Bool×Nat))(cO:Nat->Nat)(hn:n<=1000)(hSt:o St)(eI:pU w St n out eU ins cO)(hio:∀s,s<n->o (cO s)):
  bA au (XB au Fin 0) 150 #[.slice (some ⟨St,0,none⟩) n sc] o w fun v o' w'=>fY o w v o' w'/\v=.slice (some ⟨w.heap.size,0,none⟩) (eE ins n n).length n/\w.heap.size<w'.heap.size/\lA w' w.heap.size n (eE ins n n):=by
 have fB:∀x∈#[Value.slice (some ⟨St,0,none⟩) n sc],Cl au L0 o x:=fun x hx=>by
  simp at hx;subst hx;exact ee hSt
 refine bA.mono (eF ah hF fB (Q:=fun wl v w'=>v=.slice (some ⟨wl.heap.size,0,none⟩) (eE ins n n).length n/\wl.heap.size<w'.heap.size/\lA w' wl.heap.size n (eE ins n n)) (fun wl Ba v w1 w2 e1 e2 h=>?_) (fun wl hz aU=>?_)) (fun v o' w' hq=>?_)
 ·rw[e1,e2];exact⟨h.1,h.2.1,World.rowIs.of_block h.2.2 (by rw[e2])⟩
 ·refine(JQ St n sc out eU ins cO wl hn (by rw[hz];exact hF.lt hSt) (jG eI (aU St hSt) (fun s hs=>aU _ (hio s hs)) aa)).mono fun e w' hq=>?_;obtain⟨rfl,h1,h2,h3⟩:=hq;exact⟨_,rfl,h1.size,fun b hb=>h1.block b hb,rfl,h2,h3⟩
 ·obtain⟨hN,wl,aW,z1,z2,hs,rfl,h2,h3⟩:=hq;rw[z1] at h2 h3 hN |-;exact⟨hN,rfl,aa,World.rowIs.of_block h3 (hs _ (ag _) aa)⟩
theorem TE(hF:bN au L0 o w)(nb nc ob oc sb sc:Nat)(np sp:Option Addr)(names outs sources:List af)(h1:names.length<=100000)(h2:outs.length<=100000)(h3:sources.length<=100000)(vJ:names≠[]->np=some ⟨nb,0,none⟩/\o nb)(vF:sources≠[]->sp=some ⟨sb,0,none⟩/\o sb)(gj:o ob)(hn:fE w nb 0 names)(ho:fE w ob 0 outs)(hs:fE w sb 0 sources)(VL:Cl au L0 o (.slice np names.length nc))(XP:Cl au L0 o (.slice sp sources.length sc)):
  bA au (XB au Fin 0) 149 #[.slice np names.length nc,.slice (some ⟨ob,0,none⟩) outs.length oc,.slice sp sources.length sc] o w fun v o' w'=>fY o w v o' w'/\v=.slice (some ⟨w.heap.size,0,none⟩) names.length names.length/\w.heap.size<w'.heap.size /\
   w'.rowIs w.heap.size 280 (names.length*2) (kP (names.map (rD outs sources))):=by
 have fB:∀x∈#[Value.slice np names.length nc,.slice (some ⟨ob,0,none⟩) outs.length oc,.slice sp sources.length sc],Cl au L0 o x:=fun x hx=>by
  simp at hx;rcases hx with rfl|rfl|rfl
  ·exact VL
  ·exact ee gj
  ·exact XP
 refine bA.mono (eF ah hF fB (Q:=fun wl v w'=>v=.slice (some ⟨wl.heap.size,0,none⟩) names.length names.length/\wl.heap.size<w'.heap.size/\w'.rowIs wl.heap.size 280 (names.length*2) (kP (names.map (rD outs sources)))) (fun wl Ba v w1 w2 e1 e2 h=>?_) (fun wl hz aU=>?_)) (fun v o' w' hq=>?_)
 ·rw[e1,e2];exact⟨h.1,h.2.1,World.rowIs.of_block h.2.2 (by rw[e2])⟩
 ·refine(Mz nb nc ob oc sb sc np sp names outs sources wl h1 h2 h3 (fun h=>⟨(vJ h).1,by rw[hz];exact hF.lt (vJ h).2⟩) (fun h=>⟨(vF h).1,by rw[hz];exact hF.lt (vF h).2⟩) (by rw[hz];exact hF.lt gj) ?_ (dh ho (aU _ gj)) ?_).mono fun e w' hq=>?_
  ·intro i hi;exact dh hn (aU nb (vJ (fun e=>by rw[e] at hi;simp at hi)).2) i hi
  ·intro i hi;exact dh hs (aU sb (vF (fun e=>by rw[e] at hi;simp at hi)).2) i hi
  obtain⟨rfl,h1,h2,h3⟩:=hq;exact⟨_,rfl,h1.size,fun b hb=>h1.block b hb,rfl,h2,h3⟩
 ·obtain⟨hN,wl,aW,z1,z2,hs,rfl,h2,h3⟩:=hq;rw[z1] at h2 h3 hN |-;exact⟨hN,rfl,aa,World.rowIs.of_block h3 (hs _ (ag _) aa)⟩
end
theorem MC(v:Value)(p:Option Addr)(n c:Nat)(w:ae):Calls au 145 #[.slice p n c] w fun e w'=>e=.returned (.func (.func 186) #[] #[.pointer (some ⟨w.heap.size,0,none⟩)])/\w'=w.alloc (.cells #[.slice p n c] 35):=by
 go_enter func145,ntmps145;go_wp2;go_ret;exact⟨rfl,rfl⟩
section
variable {Fin:bL} {o:aN} {w:ae}
theorem TF(hF:bN au L0 o w)(p:Option Addr)(n c:Nat)(hc:Cl au L0 o (.slice p n c)):
  bA au (XB au Fin 0) 145 #[.slice p n c] o w fun v o' w'=>fY o w v o' w'/\v=.func (.func 186) #[] #[.pointer (some ⟨w.heap.size,0,none⟩)]/\w.heap.size<w'.heap.size/\w'.heap[w.heap.size]?=some (.cells #[.slice p n c] 35):=by
 have fB:∀x∈#[Value.slice p n c],Cl au L0 o x:=fun x hx=>by
  simp at hx;subst hx;exact hc
 refine bA.mono (eF ah hF fB (Q:=fun wl v w'=>v=.func (.func 186) #[] #[.pointer (some ⟨wl.heap.size,0,none⟩)]/\wl.heap.size<w'.heap.size/\w'.heap[wl.heap.size]?=some (.cells #[.slice p n c] 35)) (fun wl Ba v w1 w2 e1 e2 h=>?_) (fun wl hz aU=>?_)) (fun v o' w' hq=>?_)
 ·rw[e1,e2];exact h
 ·refine(MC undef p n c wl).mono fun e w' hq=>?_;obtain⟨rfl,rfl⟩:=hq;exact⟨_,rfl,aj,fun b hb=>Go.RowKit.Below.heap_alloc _ _ b hb,rfl,aj,jW _ _⟩
 ·obtain⟨hN,wl,aW,z1,z2,hs,rfl,h2,h3⟩:=hq;rw[z1] at h2 h3 hN |-;exact⟨hN,rfl,aa,(hs _ (ag _) aa).trans h3⟩
def ir(lo:Nat)(ts:List af)(v:Value)(w':ae):Prop:=(v=.slice none 0 0/\ts=[])\/∃g cap,v=.slice (some ⟨g,0,none⟩) ts.length cap/\ts.length<=cap/\lo<=g/\g<w'.heap.size/\fE w' g 0 ts
theorem JS(hF:bN au L0 o w)(b c ob oc:Nat)(p:Option Addr)(rs:List aJ)(nm:Nat->List af)(nb:Nat->Nat)(outs:List af)(h1:rs.length<=1000)(h2:outs.length<=100000)(hp:rs≠[]->p=some ⟨b,0,none⟩/\o b)(gj:o ob)(hr:yG w b rs nm nb)(MD:∀i,i<rs.length->nm i≠[]->o (nb i))(ho:fE w ob 0 outs)(hc:Cl au L0 o (.slice p rs.length c)):
  bA au (XB au Fin 0) 148 #[.slice p rs.length c,.slice (some ⟨ob,0,none⟩) outs.length oc] o w fun v o' w'=>fY o w v o' w'/\ir w.heap.size (cZ (lJ outs nm rs.length)) v w':=by
 have fB:∀x∈#[Value.slice p rs.length c,.slice (some ⟨ob,0,none⟩) outs.length oc],Cl au L0 o x:=fun x hx=>by
  simp at hx;rcases hx with rfl|rfl
  ·exact hc
  ·exact ee gj
 refine bA.mono (eF ah hF fB (Q:=fun wl v w'=>ir wl.heap.size (cZ (lJ outs nm rs.length)) v w') (fun wl Ba v w1 w2 e1 e2 h=>?_) (fun wl hz aU=>?_)) (fun v o' w' hq=>?_)
 ·rcases h with h|⟨g,cap,k1,k2,k3,k4,k5⟩
  ·exact .inl h
  ·exact .inr ⟨g,cap,k1,k2,by rw[e1];exact k3,by rw[e2];exact k4,dh k5 (by rw[e2])⟩
 ·have UY:yG wl b rs nm nb:=by
   refine⟨fun i hi=>hJ hr.at_ (aU b (hp (fun e=>by rw[e] at hi;simp at hi)).2) i hi,hr.len,fun i hi dJ=>⟨(hr.ptr i hi dJ).1,by rw[hz];exact(hr.ptr i hi dJ).2⟩,fun i hi j hj=>?_,hr.four⟩;exact dh (hr.txt i hi) (aU _ (MD i hi (fun e=>by rw[e] at hj;simp at hj))) j hj
  refine(Ev b c ob oc p rs nm nb outs wl h1 h2 (fun h=>⟨(hp h).1,by rw[hz];exact hF.lt (hp h).2⟩) (by rw[hz];exact hF.lt gj) UY (dh ho (aU _ gj))).mono fun e w' hq=>?_;obtain⟨v',W,rfl,hB,hW,hC⟩:=hq;rcases hC with⟨rfl,k1,k2⟩|⟨g,cap,k1,k2,k3,k4,k5,k6,k7⟩
  ·exact⟨_,rfl,by rw[k2];exact hW,fun b hb=>by rw[k2];exact hB.block b hb,.inl ⟨rfl,k1⟩⟩
  ·exact⟨_,rfl,aa,fun b hb=>(k6 b aa aa).trans (hB.block b hb),.inr ⟨g,cap,k1,k2,k3,aa,k7⟩⟩
 ·obtain⟨hN,wl,aW,z1,z2,hs,hq⟩:=hq;refine⟨hN,?_⟩;rw[z1] at hq;rcases hq with h|⟨g,cap,k1,k2,k3,k4,k5⟩
  ·exact .inl h
  ·exact .inr ⟨g,cap,k1,k2,k3,aa,dh k5 (hs g k3 aa)⟩
end
section
open Go.RowKit
theorem JU:(au.info? 65).map (fun i=>(i.zero,i.size,i.bytes))=some (some (.agg #[.string aP,.string aP,.bool false]),3,40):=ah
theorem zR(w:ae)(n:Nat)(hn:n<=100000):(Instr.makeSlice 46 (.int .i64 (n:Int)) (.int .i64 (n:Int))).run au w=.ok (.slice (some ⟨w.heap.size,0,none⟩) n n) (w.alloc (.cells (madeCells #[.string aP,.string aP,.bool false] (n*3)) 65)):=by
 obtain⟨i,hi,hz⟩:=Option.map_eq_some_iff.1 JU;simp only[bu] at hz;obtain⟨hz,hs,hb⟩:=hz;have:=run_make (P:=au) w 46 65 i _ underlying46 hi hz .i64 .i64 n n aa (fP _) (by rw[hb];omega) aa;rw[this,hs];simp[Value.cells]
def hZ(out:Nat->af)(res:Nat->V)(k j:Nat):Value :=
 if j<k*3 then(if j%3=0 then .string (out (j/3)) else if j%3=1 then .string (res (j/3)).2 else .bool (!(res (j/3)).1))
 else(if j%3=0 then .string aP else if j%3=1 then .string aP else .bool false)
theorem Wy{w:ae}{B t n k:Nat}{out:Nat->af}{res:Nat->V}(h:w.rowIs B t (n*3) (hZ out res k)):
  (((w.setCell ⟨B,k*3,none⟩ (.string (out k))).setCell ⟨B,k*3+1,none⟩ (.string (res k).2)).setCell ⟨B,k*3+2,none⟩ (.bool (!(res k).1))).rowIs B t (n*3) (hZ out res (k+1)):=by
 refine(((h.set (k*3) _).set (k*3+1) _).set (k*3+2) _).congr fun j hj=>?_;by_cases e2:j=k*3+2
 ·subst e2;have h1:(k*3+2)%3=2:=aa;have h2:(k*3+2)/3=k:=aa;simp[hZ,h1,h2,show k*3+2<(k+1)*3 by omega]
 ·by_cases e1:j=k*3+1
  ·subst e1;have h1:(k*3+1)%3=1:=aa;have h2:(k*3+1)/3=k:=aa;simp[hZ,h1,h2,show k*3+1<(k+1)*3 by omega]
  ·by_cases e0:j=k*3
   ·subst e0;have h1:(k*3)%3=0:=aa;have h2:(k*3)/3=k:=aa;simp[hZ,h1,h2,show k*3<(k+1)*3 by omega]
   ·rw[if_neg e2,if_neg e1,if_neg e0];by_cases e3:j<k*3
    ·simp only[hZ,if_pos e3,if_pos (show j<(k+1)*3 by omega)]
    ·simp only[hZ,if_neg e3,if_neg (show ¬j<(k+1)*3 by omega)]
structure pW(w:ae)(bn Lb Lo St Rb Nb n:Nat)(out:Nat->af)(eU:Nat->Int)(ins:Nat->List (Bool×Nat))(cO:Nat->Nat)(res:Nat->V)(jX:Nat->Bool):Prop where
 b0:w.cell? ⟨bn,0,none⟩=some (.pointer (some ⟨Lb,Lo,none⟩))
 b2:w.cell? ⟨bn,2,none⟩=some (.slice (some ⟨Rb,0,none⟩) n n)
 b3:w.cell? ⟨bn,3,none⟩=some (.slice (some ⟨Nb,0,none⟩) n n)
 st:w.cell? ⟨Lb,Lo,none⟩=some (.slice (some ⟨St,0,none⟩) n n)
 steps:pU w St n out eU ins cO
 r2:∀s,s<n->w.cell? ⟨Rb,s*4+2,none⟩=some (.bool (res s).1)
 r3:∀s,s<n->w.cell? ⟨Rb,s*4+3,none⟩=some (.string (res s).2)
 jX:∀s,s<n->w.cell? ⟨Nb,s,none⟩=some (.bool (jX s))
 lbn:bn<w.heap.size
 lLb:Lb<w.heap.size
 lSt:St<w.heap.size
 lRb:Rb<w.heap.size
 lNb:Nb<w.heap.size
theorem JV(bn Lb Lo St Rb Nb n:Nat)(out:Nat->af)(eU:Nat->Int)(ins:Nat->List (Bool×Nat))(cO:Nat->Nat)(res:Nat->V)(jX:Nat->Bool)(w:ae)(hn:n<=1000)(h:pW w bn Lb Lo St Rb Nb n out eU ins cO res jX):
  Calls au 75 #[.pointer (some ⟨bn,0,none⟩)] w fun e w'=>e=.returned (.slice (some ⟨w.heap.size,0,none⟩) n n)/\Below w.heap.size w w'/\w.heap.size<w'.heap.size/\w'.rowIs w.heap.size 65 (n*3) (hZ out res n):=by
 have Jq:=fun w=>zR w n aa;obtain⟨b0,b2,b3,st,eI,r2,r3,rr,l1,l2,l3,l4,l5⟩:=h;have cA:∀(w':ae),Below w.heap.size w w'->∀b off,b<w.heap.size->w'.cell? ⟨b,off,none⟩=w.cell? ⟨b,off,none⟩:=fun w' hb b off hl=>(wq hb).1 _ _ hl;have a0:∀x,(w.alloc x).cell? ⟨bn,0,none⟩=some (.pointer (some ⟨Lb,Lo,none⟩)):=fun x=>by rw[cA _ ((Below.refl _ _).alloc (ag _) _) _ _ l1];exact b0
 have a1:∀x,(w.alloc x).cell? ⟨Lb,Lo,none⟩=some (.slice (some ⟨St,0,none⟩) n n):=fun x=>by rw[cA _ ((Below.refl _ _).alloc (ag _) _) _ _ l2];exact st
 go_enter func75,ntmps75;go_wp2;go_loopw [24] (fun i w'=>∃k:Nat,k<=n/\i=.int .i64 k/\Below w.heap.size w w'/\w.heap.size<w'.heap.size/\w'.rowIs w.heap.size 65 (n*3) (hZ out res k)) (fun i _=>n-(intOf i).toNat)
 case atStart =>
  refine⟨0,aV _,rfl,(Below.refl _ _).alloc (ag _) _,aj,_,jW _ _,by simp[size_madeCells],fun j hj=>?_⟩;simp only[madeCells,aL,Array.getElem?_range,hj,if_true,aK,hZ,Nat.zero_mul,Nat.not_lt_zero,if_false];have hm:j%3=0\/j%3=1\/j%3=2:=aa;rcases hm with e|e|e<;>simp[e]
 case round =>
  obtain⟨k,hk,rfl,gB,hz,cp⟩:=hrel;by_cases cB:k<n
  ·have c0:=(cA _ gB St (k*3) l3).trans (eI.out k cB);have c1:=(cA _ gB St (k*3+1) l3).trans (eI.eU k cB);have c2:=(cA _ gB St (k*3+2) l3).trans (eI.A9 k cB);have c3:=(cA _ gB bn 2 l1).trans b2;have c4:=(cA _ gB Rb (k*4+2) l4).trans (r2 k cB);have c5:=(cA _ gB Rb (k*4+3) l4).trans (r3 k cB);have d0:wr.cell? ⟨w.heap.size,k*3,none⟩=some (.string aP):=by rw[cp.cell aa];simp[hZ]
   have d1:wr.cell? ⟨w.heap.size,k*3+1,none⟩=some (.string aP):=by
    have h1:(k*3+1)%3=1:=aa;rw[cp.cell aa];simp[hZ,h1,show ¬k*3+1<k*3 by omega]
   have d2:wr.cell? ⟨w.heap.size,k*3+2,none⟩=some (.bool false):=by
    have h1:(k*3+2)%3=2:=aa;rw[cp.cell aa];simp[hZ,h1,show ¬k*3+2<k*3 by omega]
   have f0:=cp.frozen;have g1:bn<wr.heap.size:=aa;have g4:Rb<wr.heap.size:=aa;have p3:∀x y,((wr.alloc x).alloc y).cell? ⟨bn,2,none⟩=some (.slice (some ⟨Rb,0,none⟩) n n):=fun x y=>by rw[cA _ ((gB.alloc aa _).alloc dX _) _ _ l1];exact b2
   have q3:∀x,(wr.alloc x).cell? ⟨bn,2,none⟩=some (.slice (some ⟨Rb,0,none⟩) n n):=fun x=>by rw[cA _ (gB.alloc aa _) _ _ l1];exact b2
   have q4:∀x,(wr.alloc x).cell? ⟨Rb,k*4+2,none⟩=some (.bool (res k).1):=fun x=>by rw[cA _ (gB.alloc aa _) _ _ l4];exact r2 k cB
   have q5:∀x,(wr.alloc x).cell? ⟨Rb,k*4+3,none⟩=some (.string (res k).2):=fun x=>by rw[cA _ (gB.alloc aa _) _ _ l4];exact r3 k cB
   clear eI r2 r3 rr cA a0 a1;go_wp2;refine⟨⟨k+1,aa,by go_num,((((gB.setCell (ag _) _).setCell (ag _) _).setCell (ag _) _).alloc (by simp[World.setCell];omega) _).alloc (by simp[World.setCell];omega) _,by simp[World.setCell];omega,?_⟩,by simp[intOf];omega⟩;exact((Wy cp).alloc _).alloc _
  ·go_wp2;go_ret;have:k=n:=aa;subst this;exact⟨rfl,gB,hz,cp⟩
def rN(out:Nat->af)(jX:Nat->Bool):Nat->List af
 |0=>[]
 |k+1=>rN out jX k++(if jX k then[out k] else[])
theorem C7(out:Nat->af)(jX:Nat->Bool):∀k,(rN out jX k).length<=k
 |0=>by simp[rN]
 |k+1=>by
  have:=C7 out jX k;simp only[rN,List.length_append];split<;>simp<;>omega
theorem JW(bn Lb Lo St Rb Nb n:Nat)(out:Nat->af)(eU:Nat->Int)(ins:Nat->List (Bool×Nat))(cO:Nat->Nat)(res:Nat->V)(jX:Nat->Bool)(w:ae)(hn:n<=1000)(h:pW w bn Lb Lo St Rb Nb n out eU ins cO res jX):
  Calls au 76 #[.pointer (some ⟨bn,0,none⟩)] w fun e w'=>∃v,e=.returned v/\Below w.heap.size w w'/\w.heap.size<=w'.heap.size/\w'.ownsRow w.heap.size 9 1 v (rN out jX n).length ((rN out jX n).map .string):=by
 obtain⟨b0,b2,b3,st,eI,r2,r3,rr,l1,l2,l3,l4,l5⟩:=h;have cA:∀(w':ae),Below w.heap.size w w'->∀b off,b<w.heap.size->w'.cell? ⟨b,off,none⟩=w.cell? ⟨b,off,none⟩:=fun w' hb b off hl=>(wq hb).1 _ _ hl;go_enter func76,ntmps76;clear cA;go_wp2;have cA:∀(w':ae),Below w.heap.size w w'->∀b off,b<w.heap.size->w'.cell? ⟨b,off,none⟩=w.cell? ⟨b,off,none⟩:=fun w' hb b off hl=>(wq hb).1 _ _ hl;go_loopw [3,14] (fun v i w'=>∃k:Nat,k<=n/\i=.int .i64 k/\Below w.heap.size w w'/\w.heap.size<=w'.heap.size/\w'.ownsRow w.heap.size 9 1 v (rN out jX k).length ((rN out jX k).map .string)) (fun v i _=>n-(intOf i).toNat)
 case atStart=>exact⟨0,aV _,rfl,Below.refl _ _,ag _,by simp[rN],.inl ⟨rfl,rfl⟩⟩
 case round =>
  obtain⟨k,hk,rfl,gB,hz,cp⟩:=hrel;by_cases cB:k<n
  ·have c0:=(cA _ gB St (k*3) l3).trans (eI.out k cB);have c1:=(cA _ gB St (k*3+1) l3).trans (eI.eU k cB);have c2:=(cA _ gB St (k*3+2) l3).trans (eI.A9 k cB);have q3:∀x,(wr.alloc x).cell? ⟨bn,3,none⟩=some (.slice (some ⟨Nb,0,none⟩) n n):=fun x=>by rw[cA _ (gB.alloc aa _) _ _ l1];exact b3
   have q4:∀x,(wr.alloc x).cell? ⟨Nb,k,none⟩=some (.bool (jX k)):=fun x=>by rw[cA _ (gB.alloc aa _) _ _ l5];exact rr k cB
   have g1:bn<wr.heap.size:=aa;have g5:Nb<wr.heap.size:=aa;have hl:=C7 out jX k;have Eu:rN out jX (k+1)=rN out jX k++(if jX k then[out k] else[]):=rfl;generalize rN out jX k=raw at *;generalize jj:out k=x at *;generalize Vh:jX k=rk at *;clear eI r2 r3 rr cA;have e0:=qc cp (.cells #[.string x,.int .i64 (eU k),.slice (some ⟨cO k,0,none⟩) (ins k).length (ins k).length] 220);cases rk
   ·go_wp2;refine⟨⟨k+1,aa,by go_num,gB.alloc aa _,dX,?_⟩,by simp[intOf];omega⟩;rw[Eu];simpa using e0
   ·obtain⟨v',W',e1,e2,e3⟩:=qC ((wr.alloc (.cells #[.string x,.int .i64 (eU k),.slice (some ⟨cO k,0,none⟩) (ins k).length (ins k).length] 220)).alloc (.cells #[.string x] 9)) w.heap.size _ _ x (wr.heap.size+1) (qc e0 _) aa dX aj;have xA:=Below.grown ((gB.alloc aa _).alloc dX _) e3 dX (zP cp);go_wp2_with (at_builtin;refine gw rfl _ _ 40 rfl rfl rfl e1 ?_);exact⟨⟨k+1,aa,by go_num,xA,xA.size,by rw[Eu];exact e2⟩,by simp[intOf];omega⟩
  ·go_wp2;go_ret;have:k=n:=aa;subst this;exact⟨_,rfl,gB,hz,cp⟩
end
theorem Qt:(au.info? 220).map (fun i=>(i.zero,i.size,i.bytes))=some (some (.agg #[.string aP,.int .i64 0,.slice none 0 0]),3,48):=ah
theorem C8(w:ae)(n:Nat)(hn:n<=100000):(Instr.makeSlice 143 (.int .i64 (n:Int)) (.int .i64 (n:Int))).run au w=.ok (.slice (some ⟨w.heap.size,0,none⟩) n n) (w.alloc (.cells (madeCells #[.string aP,.int .i64 0,.slice none 0 0] (n*3)) 220)):=by
 obtain⟨i,hi,hz⟩:=Option.map_eq_some_iff.1 Qt;simp only[bu] at hz;obtain⟨hz,hs,hb⟩:=hz;have:=run_make (P:=au) w 143 220 i _ underlying143 hi hz .i64 .i64 n n aa (fP _) (by rw[hb];omega) aa;rw[this,hs];simp[Value.cells]
def gx(out:Nat->af)(eU:Nat->Int)(ins:Nat->List (Bool×Nat))(cO:Nat->Nat)(k j:Nat):Value :=
 if j<k*3 then(if j%3=0 then .string (out (j/3)) else if j%3=1 then .int .i64 (eU (j/3)) else .slice (some ⟨cO (j/3),0,none⟩) (ins (j/3)).length (ins (j/3)).length)
 else(if j%3=0 then .string aP else if j%3=1 then .int .i64 0 else .slice none 0 0)
theorem Qu(w:ae)(n:Nat)(out:Nat->af)(eU:Nat->Int)(ins:Nat->List (Bool×Nat))(cO:Nat->Nat)(St:Nat)(h:w.heap[St]?=some (.cells (madeCells #[.string aP,.int .i64 0,.slice none 0 0] (n*3)) 220)):w.rowIs St 220 (n*3) (gx out eU ins cO 0):=by
 refine⟨_,h,by simp[size_madeCells],fun j hj=>?_⟩;simp only[madeCells,aL,Array.getElem?_range,hj,if_true,aK,gx,Nat.zero_mul,Nat.not_lt_zero,if_false];have hm:j%3=0\/j%3=1\/j%3=2:=aa;rcases hm with e|e|e<;>simp[e]
theorem TG{w:ae}{St n k:Nat}{out:Nat->af}{eU:Nat->Int}{ins:Nat->List (Bool×Nat)}{cO:Nat->Nat}(h:w.rowIs St 220 (n*3) (gx out eU ins cO k)):
  (((w.setCell ⟨St,k*3,none⟩ (.string (out k))).setCell ⟨St,k*3+1,none⟩ (.int .i64 (eU k))).setCell ⟨St,k*3+2,none⟩ (.slice (some ⟨cO k,0,none⟩) (ins k).length (ins k).length)).rowIs St 220 (n*3) (gx out eU ins cO (k+1)):=by
 refine(((h.set (k*3) _).set (k*3+1) _).set (k*3+2) _).congr fun j hj=>?_;by_cases e2:j=k*3+2
 ·subst e2;have h1:(k*3+2)%3=2:=aa;have h2:(k*3+2)/3=k:=aa;simp[gx,h1,h2,show k*3+2<(k+1)*3 by omega]
 ·by_cases e1:j=k*3+1
  ·subst e1;have h1:(k*3+1)%3=1:=aa;have h2:(k*3+1)/3=k:=aa;simp[gx,h1,h2,show k*3+1<(k+1)*3 by omega]
  ·by_cases e0:j=k*3
   ·subst e0;have h1:(k*3)%3=0:=aa;have h2:(k*3)/3=k:=aa;simp[gx,h1,h2,show k*3<(k+1)*3 by omega]
   ·rw[if_neg e2,if_neg e1,if_neg e0];by_cases e3:j<k*3
    ·simp only[gx,if_pos e3,if_pos (show j<(k+1)*3 by omega)]
    ·simp only[gx,if_neg e3,if_neg (show ¬j<(k+1)*3 by omega)]
theorem Qv{w:ae}{b t n:Nat}{l:List (Bool×Nat)}(hn:n=l.length)(h:w.rowIs b t (n*2) (kP l)):tC w b l:=fun j hj=>by
 have h0:(j*2)%2=0:=aa;have h1:(j*2+1)%2=1:=aa;have d0:(j*2)/2=j:=aa;have d1:(j*2+1)/2=j:=aa;refine⟨?_,?_⟩
 ·rw[h.cell aa];simp only[kP,h0,d0];simp[hj]
 ·rw[h.cell aa];simp only[kP,h1,d1];simp[hj]
theorem Qw{w:ae}{St n:Nat}{out:Nat->af}{eU:Nat->Int}{ins:Nat->List (Bool×Nat)}{cO:Nat->Nat}(h:w.rowIs St 220 (n*3) (gx out eU ins cO n))(hi:∀s,s<n->tC w (cO s) (ins s))(hl:∀s,s<n->cO s<w.heap.size)(hs:∀s,s<n->(ins s).length<=100000):pU w St n out eU ins cO where
 out s hs:=by
  have h1:(s*3)%3=0:=aa;have h2:(s*3)/3=s:=aa;rw[h.cell aa];simp[gx,h1,h2,show s*3<n*3 by omega]
 eU s hs:=by
  have h1:(s*3+1)%3=1:=aa;have h2:(s*3+1)/3=s:=aa;rw[h.cell aa];simp[gx,h1,h2,show s*3+1<n*3 by omega]
 A9 s hs:=by
  have h1:(s*3+2)%3=2:=aa;have h2:(s*3+2)/3=s:=aa;rw[h.cell aa];simp[gx,h1,h2,show s*3+2<n*3 by omega]
 CR:=hi
 lt:=hl
 short:=hs
end Go.Proofs.Kz
namespace Go.Ren
open Go.Conc Go.ConcN
section
variable {w w':ae} {b:Nat} {t:TypeId} {x y z u v x' y' z' u' v':Value}
theorem C9(h:w.heap[b]?=some (.cells #[x] t)):w.cell? ⟨b,0,none⟩=some x/\w.frozen? ⟨b,0,none⟩=false:=by simp[World.cell?,World.frozen?,h]
theorem dQ(h:w.heap[b]?=some (.cells #[x,y] t)):w.cell? ⟨b,0,none⟩=some x/\w.cell? ⟨b,1,none⟩=some y/\w.frozen? ⟨b,0,none⟩=false/\w.frozen? ⟨b,1,none⟩=false:=by simp[World.cell?,World.frozen?,h]
theorem eQ(h:w.heap[b]?=some (.cells #[x,y,z] t)):w.cell? ⟨b,0,none⟩=some x/\w.cell? ⟨b,1,none⟩=some y/\w.cell? ⟨b,2,none⟩=some z/\w.frozen? ⟨b,0,none⟩=false/\w.frozen? ⟨b,1,none⟩=false/\w.frozen? ⟨b,2,none⟩=false:=by simp[World.cell?,World.frozen?,h]
theorem TH(h:w.heap[b]?=some (.cells #[x,y] t)):((w.setCell ⟨b,0,none⟩ x').setCell ⟨b,1,none⟩ y').heap[b]?=some (.cells #[x',y'] t):=by simp[World.setCell,aS,h]
theorem JX(h:w.heap[b]?=some (.cells #[x,y,z] t)):(((w.setCell ⟨b,0,none⟩ x').setCell ⟨b,1,none⟩ y').setCell ⟨b,2,none⟩ z').heap[b]?=some (.cells #[x',y',z'] t):=by simp[World.setCell,aS,h]
def eK(b:Nat)(w w':ae):Prop:=w'.heap.size=w.heap.size/\∀c,c≠b->w'.heap[c]?=w.heap[c]?
theorem eK.refl:eK b w w:=⟨rfl,fun _ _=>rfl⟩
theorem eK.set{a:Addr}(h:eK b w w')(ha:a.block=b):eK b w (w'.setCell a v):=by
 refine⟨by simp[World.setCell,h.1],fun c hc=>?_⟩;rw[<- h.2 c hc];obtain⟨ab,ao,az⟩:=a;simp only at ha;subst ha;simp[World.setCell,aS];exact fun e=>absurd e.symm hc
theorem eK.at(h:eK b w w')(off:Nat)(v:Value):eK b w (w'.setCell ⟨b,off,none⟩ v):=h.set rfl
theorem je(w:ae)(b i:Nat)(x:Value):eK b w (w.setCell ⟨b,i,none⟩ x):=eK.refl.at i x
theorem AG(w:ae)(b i j:Nat)(x y:Value):eK b w ((w.setCell ⟨b,i,none⟩ x).setCell ⟨b,j,none⟩ y):=(je w b i x).at j y
theorem uM(w:ae)(b i j k:Nat)(x y z:Value):eK b w (((w.setCell ⟨b,i,none⟩ x).setCell ⟨b,j,none⟩ y).setCell ⟨b,k,none⟩ z):=(AG w b i j x y).at k z
end
section
variable {P:Program} {L:Nat->Bool} {o:aN} {w w' wl aW:ae} {v:Value}
theorem lO.only(h:lO P L o w w' aW v)(ha:iF o w wl){A:Nat}(hA:o A)(hs:eK A wl aW):eK A w w'/\w'.heap[A]?=aW.heap[A]?/\grow o w w'=o:=by
 obtain⟨h1,h2,h3,h4⟩:=h.store ha hA hs.1 hs.2;exact⟨⟨h1,h2⟩,h3,h4⟩
end
end Go.Ren
namespace Go.Proofs.Kz
open Go.Proofs.Tryz
open Go.Proofs.Tryz renaming prog → au
open _root_.ByteArray renaming empty → aP
open Go.Ren Go.Conc Go.Proofs Go.ConcN
section
variable {Fin:bL} {o:aN} {w:ae}
theorem vq.view{rs:List aJ}{v:Value}{o':aN}{w':ae}(S:vq o w rs v o' w')(hF:bN au L0 o w)(Zd:∃b,o b):∃g p cap cu,v=.slice p cu.length cap/\(cu≠[]->p=some ⟨g,0,none⟩/\w.heap.size<=g)/\o' g/\eX w' g cu/\cu.Perm rs/\(∀i j (hi:i<cu.length) (hj:j<cu.length),i<j->¬qU cu[j] cu[i]<0)/\Cl au L0 o' (.slice p cu.length cap):=by
 rcases S.row with⟨rfl,rfl⟩|⟨g,cap,cu,h1,h2,h3,h4,h5,h6,h7⟩
 ·obtain⟨b,hb⟩:=Zd;exact⟨b,none,0,[],rfl,fun h=>absurd rfl h,by rw[S.own];exact .inl hb,fun i hi=>by simp at hi,List.Perm.refl _,fun i j hi=>by simp at hi,iU⟩
 ·have hg:o' g:=by rw[S.own];exact .inr ⟨h3,h4⟩
  exact⟨g,_,cap,cu,by rw[h1,h5.length_eq],fun _=>⟨rfl,h3⟩,hg,h7,h5,h6,ee hg⟩
def qW(rs:List aJ)(i:Nat):af:=((rs[i]?).map (·.out)).getD aP
def zS(rs:List aJ)(i:Nat):Int:=((rs[i]?).map (·.eU)).getD 0
def DZ(NM:aJ->List af)(rs:List aJ)(i:Nat):List af:=((rs[i]?).map NM).getD []
def nbF(NB:aJ->Nat)(rs:List aJ)(i:Nat):Nat:=((rs[i]?).map NB).getD 0
def fq(NM:aJ->List af)(rs:List aJ):List af:=cZ (lJ (rs.map (·.out)) (DZ NM rs) rs.length)
def mA(NM:aJ->List af)(rs:List aJ)(i:Nat):List (Bool×Nat):=(DZ NM rs i).map (rD (rs.map (·.out)) (fq NM rs))
theorem uN(raw:List af):(cZ raw).length<=raw.length:=by
 unfold cZ;rw[bR];refine aX (C6 _) ?_;simp[kx]
structure wB(lo:Nat)(NM:aJ->List af)(cu:List aJ)(St Or:Nat)(cO:Nat->Nat)(sv v:Value)(w':ae):Prop where
 val:v=.agg #[.slice (some ⟨St,0,none⟩) cu.length cu.length,.slice (some ⟨Or,0,none⟩) (eE (mA NM cu) cu.length cu.length).length cu.length,sv]
 steps:pU w' St cu.length (qW cu) (zS cu) (mA NM cu) cO
 ord:lA w' Or cu.length (eE (mA NM cu) cu.length cu.length)
 src:ir lo (fq NM cu) sv w'
 st:lo<=St/\St<w'.heap.size
 or:lo<=Or/\Or<w'.heap.size
 ib:∀s,s<cu.length->lo<=cO s
theorem AH{w w':ae}{b:Nat}{l:List (Bool×Nat)}(h:tC w b l)(e:w'.heap[b]?=w.heap[b]?):tC w' b l:=fun j hj=>⟨(cell_of e).trans (h j hj).1,(cell_of e).trans (h j hj).2⟩
theorem Ew{out:Nat->af}{eU:Nat->Int}{ins:Nat->List (Bool×Nat)}{cO yI:Nat->Nat}{k:Nat}(h:∀s,s<k->cO s=yI s)(j:Nat):gx out eU ins cO k j=gx out eU ins yI k j:=by
 unfold gx;by_cases hj:j<k*3
 ·rw[if_pos hj,if_pos hj,h (j/3) aa]
 ·rw[if_neg hj,if_neg hj]
theorem G1{o:aN}{w w1 w2:ae}(h:w1.heap.size=w2.heap.size):grow o w w1=grow o w w2:=by unfold grow;rw[h]
theorem lB{lo TJ:Nat}{ts:List af}{v:Value}{w w':ae}(h:ir lo ts v w)(vO:TJ<=lo)(hz:w.heap.size<=w'.heap.size)(e:∀b,lo<=b->b<w.heap.size->w'.heap[b]?=w.heap[b]?):ir TJ ts v w':=by
 rcases h with h|⟨g,cap,h1,h2,h3,h4,h5⟩
 ·exact .inl h
 ·exact .inr ⟨g,cap,h1,h2,aa,aa,dh h5 (e g h3 h4)⟩
structure ahX(o6:aN)(w6:ae)(R St ob n:Nat)(q:Option Addr)(cap:Nat)(sv:Value)(out:Nat->af)(eU:Nat->Int)(ins:Nat->List (Bool×Nat))(k:Nat)(a:Act)(o':aN)(w':ae):Prop where
 size:a.tmps.size=46
 df:a.defers=[]
 t2:a.eval (.tmp 2)=.pointer (some ⟨R,0,none⟩)
 t4:a.eval (.tmp 4)=.slice (some ⟨ob,0,none⟩) n n
 t5:a.eval (.tmp 5)=sv
 t6:a.eval (.tmp 6)=.slice (some ⟨St,0,none⟩) n n
 t20:a.eval (.tmp 20)=.slice q n cap
 t21:a.eval (.tmp 21)=.int .i64 n
 t22:a.eval (.tmp 22)=.int .i64 k
 own:o'=grow o6 w6 w'
 aG:bN au L0 o' w'
 jq:w6.heap.size<=w'.heap.size
 old:∀b,b<w6.heap.size->b≠St->w'.heap[b]?=w6.heap[b]?
 row:∃cO:Nat->Nat,w'.rowIs St 220 (n*3) (gx out eU ins cO k)/\∀s,s<k->tC w' (cO s) (ins s)/\w6.heap.size<=cO s/\cO s<w'.heap.size
theorem G6(hF:bN au L0 o w)(Ru c:Nat)(p:Option Addr)(rs:List aJ)(hn:rs.length<=8)(hp:rs≠[]->p=some ⟨Ru,0,none⟩)(za:o Ru)(Cw:eX w Ru rs)(fB:∀r∈rs,Cl au L0 o (.slice r.sa r.sl r.sc))(hc:Cl au L0 o (.slice p rs.length c))(NM:aJ->List af)(NB:aJ->Nat)(zA:∀r∈rs,r.sl=(NM r).length/\(NM r≠[]->r.sa=some ⟨NB r,0,none⟩/\o (NB r))/\fE w (NB r) 0 (NM r)/\(NM r).length<=4):
  bA au (XB au Fin 0) 112 #[.slice p rs.length c] o w fun v o' w'=>fY o w v o' w'/\∃cu St Or cO sv,cu.Perm rs/\(∀i j (hi:i<cu.length) (hj:j<cu.length),i<j->¬qU cu[j] cu[i]<0)/\wB w.heap.size NM cu St Or cO sv v w':=by
 have W:=bY (P:=au) (Fin:=Fin) (d:=0);refine eC W func112 ar ?_;refine ax ?_;refine dv bS hF rfl ar ar ni rfl (R:=fun wl v aW=>v=.pointer (some ⟨wl.heap.size,0,none⟩)/\aW=wl.alloc (Obj.cells #[.slice none 0 0,.slice none 0 0,.slice none 0 0] 145)) (fun wl aU=>⟨_,_,fU,rfl,rfl⟩) fun wl v1 aW w1 aU hR bO=>?_;obtain⟨rfl,hR⟩:=hR;obtain⟨z1,k1,k2⟩:=bO.alloc hF aU hR;have lD:=bO.aG;rw[aU.size];clear hR bO aU wl aW;refine ax ?_;refine dC W rfl ar rfl func145 ah rfl aI rfl ((TF lD p rs.length c (hc.up jr)).mono fun v2 o2 w2 hq=>?_);obtain⟨N2,rfl,z2,kb⟩:=hq;aE;have u2:∀b,o b->o2 b:=fun b hb=>by rw[N2.own];exact .inl (.inl hb)
 have adP:∀b,b<w.heap.size->w2.heap[b]?=w.heap[b]?:=fun b hb=>(N2.old b aa).trans (k1 b hb);have Tf:o2 w1.heap.size:=by rw[N2.own];exact .inr ⟨ag _,z2⟩
 refine dC W rfl ar rfl func144 ah rfl aI rfl ((GU N2.aG w1.heap.size Ru c p rs hn Tf (by simp[World.cell?,kb]) hp (u2 _ za) (hJ Cw (adP Ru (hF.lt za))) (fun r hr=>(fB r hr).up u2)).mono fun v3 o3 w3 S=>?_);refine ax ?_;obtain⟨g,q,cap,cu,rfl,hq,Vg,Er,hpm,Ri,hcq⟩:=S.view N2.aG ⟨_,Tf⟩;have hl':cu.length<=8:=by rw[hpm.length_eq];exact hn
 refine dC W rfl ar rfl func147 ah rfl aI rfl ((TD S.aG g cap q cu aa (fun h=>⟨(hq h).1,Vg⟩) Er hcq).mono fun v4 o4 w4 hq4=>?_);obtain⟨N4,rfl,z4,t4⟩:=hq4;refine ax ?_;have zz2:=N2.size;have zz3:=S.size;have zz4:=N4.size;have u4:∀b,o2 b->o4 b:=fun b hb=>by rw[N4.own,S.own];exact .inl (.inl hb)
 have u34:∀b,o3 b->o4 b:=fun b hb=>by rw[N4.own];exact .inl hb
 have Tp:∀b,b<w.heap.size->w4.heap[b]?=w.heap[b]?:=fun b hb=>(N4.old b aa).trans ((S.old b aa).trans (adP b hb));have ho4:o4 w3.heap.size:=by rw[N4.own];exact .inr ⟨ag _,z4⟩
 have rU:∀i (h:i<cu.length),cu[i]∈rs:=fun i h=>hpm.subset (aH h);obtain⟨nm,TK⟩:∃nm,DZ NM cu=nm:=⟨_,rfl⟩;obtain⟨nb,ahZ⟩:∃nb,nbF NB cu=nb:=⟨_,rfl⟩;have enm:∀i (h:i<cu.length),nm i=NM cu[i]:=fun i h=>by simp[<- TK,DZ,h]
 have enb:∀i (h:i<cu.length),nb i=NB cu[i]:=fun i h=>by simp[<- ahZ,nbF,h]
 have ME:yG w4 g cu nm nb:=by
  refine⟨hJ Er (N4.old g (S.aG.lt Vg)),fun i h=>?_,fun i h dJ=>?_,fun i h=>?_,fun i h=>?_⟩
  ·rw[enm i h];exact(zA _ (rU i h)).1
  ·rw[enm i h] at dJ;rw[enb i h];have:=(zA _ (rU i h)).2.1 dJ;exact⟨this.1,by have:=hF.lt this.2;omega⟩
  ·rw[enm i h,enb i h];intro k hk;have h3:=(zA _ (rU i h)).2.1 (fun e=>by rw[e] at hk;simp at hk);exact dh (zA _ (rU i h)).2.2.1 (Tp _ (hF.lt h3.2)) k hk
  ·rw[enm i h];exact(zA _ (rU i h)).2.2.2
 have MD:∀i,i<cu.length->nm i≠[]->o4 (nb i):=fun i h dJ=>by
  rw[enm i h] at dJ;rw[enb i h];exact u4 _ (u2 _ ((zA _ (rU i h)).2.1 dJ).2)
 have adR:=JS (Fin:=Fin) N4.aG g cap w3.heap.size cu.length q cu nm nb (cu.map (·.out)) aa dX (fun h=>⟨(hq h).1,u34 _ Vg⟩) ho4 ME MD t4 (hcq.up u34);rw[bR] at adR;refine dC W rfl ar rfl func148 ah rfl aI rfl (adR.mono fun v5 o5 w5 hq5=>?_);obtain⟨N5,t5⟩:=hq5;refine ax ?_;refine dv bS N5.aG rfl ar ar ?_ rfl (R:=fun wl v aW=>v=.slice (some ⟨wl.heap.size,0,none⟩) cu.length cu.length/\aW=wl.alloc (.cells (madeCells #[.string aP,.int .i64 0,.slice none 0 0] (cu.length*3)) 220)) (fun wl aU=>⟨_,_,by simp[go_sem,C8 wl cu.length aa],rfl,rfl⟩) fun wl v6 aW w6 aU hR bO=>?_
 ·exact ng dU
 obtain⟨rfl,hR⟩:=hR;obtain⟨z6,k6,kb6⟩:=bO.alloc N5.aG aU hR;have Es:=bO.aG;rw[aU.size];clear hR bO aU wl aW;refine ax ?_;have aoR:=Es;have ho6:grow o5 w5 w6 w5.heap.size:=.inr ⟨ag _,aa⟩;obtain⟨out,Yp⟩:∃f,qW cu=f:=⟨_,rfl⟩;obtain⟨eU,Yq⟩:∃f,zS cu=f:=⟨_,rfl⟩;obtain⟨ins,JY⟩:∃f,mA NM cu=f:=⟨_,rfl⟩;rw[<- TK,show cZ (lJ (cu.map (·.out)) (DZ NM cu) cu.length)=fq NM cu from rfl] at t5;have adS:(fq NM cu).length<=100000:=by
  have h1:=uN (lJ (cu.map (·.out)) (DZ NM cu) cu.length);have h2:=oY (cu.map (·.out)) nm cu.length ME.four cu.length (ag _);rw[<- TK] at h2;have:(fq NM cu).length<=(lJ (cu.map (·.out)) (DZ NM cu) cu.length).length:=h1;omega
 obtain⟨SR,aao⟩:∃f,fq NM cu=f:=⟨_,rfl⟩;rw[aao] at t5 adS;have hv5:∃sp sb sc,v5=.slice sp SR.length sc/\(SR≠[]->sp=some ⟨sb,0,none⟩/\o5 sb)/\fE w5 sb 0 SR:=by
  rcases t5 with⟨h1,h2⟩|⟨g2,c2,h1,h2,h3,h4,h5⟩
  ·exact⟨none,0,0,by rw[h1,h2];rfl,fun h=>absurd h2 h,fun i hi=>by rw[h2] at hi;simp at hi⟩
  ·exact⟨_,g2,c2,h1,fun _=>⟨rfl,by rw[N5.own];exact .inr ⟨h3,h4⟩⟩,h5⟩
 obtain⟨sp,sb,sc,rfl,vF,adT⟩:=hv5;refine iQ W (fun m a o' w'=>∃k,m+k=cu.length/\ahX (grow o5 w5 w6) w6 w.heap.size w5.heap.size w3.heap.size cu.length q cap (.slice sp SR.length sc) out eU ins k a o' w') (N:=cu.length) ⟨0,aj,?_⟩ ?_
 ·refine⟨rfl,rfl,aI,aI,aI,aI,aI,aI,aI,(cd _ _).symm,Es,ag _,fun _ _ _=>rfl,fun _=>0,Qu _ _ _ _ _ _ _ kb6,fun s hs=>aa⟩
 have hgw:g<w5.heap.size:=by have:=S.aG.lt Vg;have:=N5.size;omega
 have u5:∀b,o4 b->o5 b:=fun b hb=>by rw[N5.own];exact .inl hb
 have zz5:=N5.size;rintro m a o1 w7 ⟨k,Jq,fJ,kZ,i2,i4,i5,i6,i20,i21,i22,rfl,JZ,Yr,adU,cO,adV,MF⟩;obtain⟨gs,rfl⟩:=iJ fJ kZ;clear fJ kZ;simp only[List.range,List.range.loop,aA,aQ] at i2 i4 i5 i6 i20 i21 i22 |-;simp[Act.eval] at i2 i4 i5 i6 i20 i21 i22;simp only[i2,i4,i5,i6,i20,i21,i22];clear i2 i4 i5 i6 i20 i21 i22;have u7:∀b,o5 b->grow (grow o5 w5 w6) w6 w7 b:=fun b hb=>.inl (.inl hb);have TL:∀b,b<w5.heap.size->w7.heap[b]?=w5.heap[b]?:=fun b hb=>(adU b aa aa).trans (k6 b hb);have hr7:eX w7 g cu:=hJ ME.at_ ((TL g hgw).trans (N5.old g (by have:=S.aG.lt Vg;omega)));have Wz:grow (grow o5 w5 w6) w6 w7 g:=u7 _ (u5 _ (u34 _ Vg));generalize Z0:grow (grow o5 w5 w6) w6 w7=o7 at *;rcases bh m with hm|hm
 ·have hk:k=cu.length:=aa;subst hk;have adW:o7 w5.heap.size:=by rw[<- Z0];exact .inl ho6
  have hio:∀s,s<cu.length->o7 (cO s):=fun s hs=>by rw[<- Z0];exact .inr ⟨(MF s hs).2.1,(MF s hs).2.2⟩
  have adX:pU w7 w5.heap.size cu.length out eU ins cO:=Qw adV (fun s hs=>(MF s hs).1) (fun s hs=>(MF s hs).2.2) (fun s hs=>by
   have h4:=ME.four s hs;rw[<- JY];simp only[mA,List.length_map,TK];omega)
  have K7:grow o w w1 w.heap.size:=.inr ⟨ag _,aa⟩;have hR2:o2 w.heap.size:=by rw[N2.own];exact .inl K7
  have hR7:o7 w.heap.size:=u7 _ (u5 _ (u4 _ hR2));have kR7:w7.heap[w.heap.size]?=some (Obj.cells #[.slice none 0 0,.slice none 0 0,.slice none 0 0] 145):=by
   rw[TL _ aa,N5.old _ aa,N4.old _ aa,S.old _ aa,N2.old _ aa];exact k2
  refine ax ?_;refine dC W rfl ar rfl func150 ah rfl aI rfl ((Qs JZ w5.heap.size cu.length cu.length out eU ins cO aa adW adX hio).mono fun v8 o8 w8 hq8=>?_);obtain⟨N8,rfl,z8,adN⟩:=hq8;refine ax ?_;have u8:∀b,o7 b->o8 b:=fun b hb=>by rw[N8.own];exact .inl hb
  have hOr:o8 w7.heap.size:=by rw[N8.own];exact .inr ⟨ag _,z8⟩
  have kR8:=(N8.old w.heap.size (JZ.lt hR7)).trans kR7;generalize hol:(eE ins cu.length cu.length).length=ol;have Wq:Cl au L0 o8 (.agg #[.slice (some ⟨w5.heap.size,0,none⟩) cu.length cu.length,.slice (some ⟨w7.heap.size,0,none⟩) ol cu.length,.slice sp SR.length sc]):=fX (vs:=[_,_,_]) (fun x hx=>by
   simp at hx;rcases hx with rfl|rfl|rfl
   ·exact ee (u8 _ adW)
   ·exact ee hOr
   ·exact N5.cl.up fun b hb=>u8 _ (u7 _ hb))
  refine dz bS N8.aG rfl ar ar ?_ rfl (R:=fun wl aW=>aW=((wl.setCell ⟨w.heap.size,0,none⟩ (.slice (some ⟨w5.heap.size,0,none⟩) cu.length cu.length)).setCell ⟨w.heap.size,1,none⟩ (.slice (some ⟨w7.heap.size,0,none⟩) ol cu.length)).setCell ⟨w.heap.size,2,none⟩ (.slice sp SR.length sc)) (fun wl aU=>⟨_,?_,rfl⟩) fun wl aW w9 aU hR bO=>?_
  ·refine ja ?_ ?_
   ·exact bX (u8 _ hR7)
   ·exact Wq
  ·obtain⟨e0,e1,e2,f0,f1,f2⟩:=eQ ((aU.heap _ (u8 _ hR7)).trans kR8);simp[go_sem,e0,e1,e2,f0,f1,f2]
  have hO:eK w.heap.size wl aW:=by rw[hR];exact uM _ _ _ _ _ _ _ _
  obtain⟨lV,ow,e9⟩:=bO.only aU (u8 _ hR7) hO;rw[hR,JX ((aU.heap _ (u8 _ hR7)).trans kR8)] at ow;have mB:=bO.aG;rw[e9] at mB |-;clear hR bO aU hO wl aW kR8 e9;refine ax ?_;have c9:∀n,(w9.at n).cell? ⟨w.heap.size,0,none⟩=some (.slice (some ⟨w5.heap.size,0,none⟩) cu.length cu.length)/\(w9.at n).cell? ⟨w.heap.size,1,none⟩=some (.slice (some ⟨w7.heap.size,0,none⟩) ol cu.length)/\(w9.at n).cell? ⟨w.heap.size,2,none⟩=some (.slice sp SR.length sc):=fun n=>⟨(eQ ow).1,(eQ ow).2.1,(eQ ow).2.2.1⟩;have zz8:=N8.size;have z9:=lV.1;refine⟨.inr trivial,trivial,.agg #[.slice (some ⟨w5.heap.size,0,none⟩) cu.length cu.length,.slice (some ⟨w7.heap.size,0,none⟩) ol cu.length,.slice sp SR.length sc],xc (fun n=>?_) (fun n e he=>?_),⟨?_,mB,aa,fun b hb=>?_,Wq⟩,cu,w5.heap.size,w7.heap.size,cO,.slice sp SR.length sc,hpm,Ri,?_⟩
  ·obtain⟨c0,c1,c2⟩:=c9 n;simp[results,results112,go_sem,c0,c1,c2]
  ·obtain⟨c0,c1,c2⟩:=c9 n;simp[results,results112,go_sem,c0,c1,c2] at he;rcases he with rfl|rfl|rfl;all_goals exact⟨_,_,_,rfl,u8 _ hR7⟩
  ·rw[N8.own,<- Z0,grow_grow Yr rfl zz8,grow_grow (w:=w5) aa rfl aa,N5.own,grow_grow zz5 rfl aa,N4.own,grow_grow zz4 rfl aa,S.own,grow_grow zz3 rfl aa,N2.own,grow_grow zz2 rfl aa,grow_grow (w:=w) aa rfl aa];exact G1 z9.symm
  ·rw[lV.2 b aa,N8.old b aa,TL b aa,N5.old b aa];exact Tp b hb
  ·have aap:∀b,b<w7.heap.size->b≠w.heap.size->w9.heap[b]?=w7.heap[b]?:=fun b hb dJ=>(lV.2 b dJ).trans (N8.old b hb);refine⟨by rw[JY,hol],?_,?_,?_,⟨aa,aa⟩,⟨aa,aa⟩,fun s hs=>by have:=(MF s hs).2.1;omega⟩
   ·rw[Yp,Yq,JY];exact jG adX (aap _ aa aa) (fun s hs=>by obtain⟨-,h1,h2⟩:=MF s hs;exact aap _ h2 aa) aa
   ·rw[JY];exact World.rowIs.of_block adN (lV.2 _ aa)
   ·rw[aao];exact lB t5 aa aa fun b h1 h2=>(aap b aa aa).trans (TL b h2)
 ·have hk:k<cu.length:=aa;have Vj:(k:Int)<(cu.length:Int):=aa;obtain⟨rfl,Tq⟩:=hq (fun e=>by rw[e] at hk;simp at hk);refine ax ?_;obtain⟨c0,c1,c2⟩:=hr7 k hk;generalize r8:cu[k].out=ro at c0;generalize hrr:cu[k].eU=rr at c1;generalize Rr:cu[k].sa=ra at c2;generalize Yl:cu[k].sl=rl at c2;generalize GC:cu[k].sc=rc at c2;refine dD bS JZ rfl ar ar ?_ rfl (v:=.agg #[.string ro,.int .i64 rr,.slice ra rl rc]) (fun wl aU=>?_) fun Wt=>?_
  ·exact ng (bX Wz)
  ·simp[go_sem,(aU.cell Wz).trans c0,(aU.cell Wz).trans c1,(aU.cell Wz).trans c2]
  refine ax ?_;refine dv bS JZ rfl ar ar ni rfl (R:=fun wl v aW=>v=.pointer (some ⟨wl.heap.size,0,none⟩)/\aW=wl.alloc (Obj.cells #[.string aP,.int .i64 0,.slice none 0 0] 42)) (fun wl aU=>⟨_,_,by simp[go_sem];rfl,rfl,rfl⟩) fun wl v8 aW w8 aU hR bO=>?_;obtain⟨rfl,hR⟩:=hR;obtain⟨z8,k8,kb8⟩:=bO.alloc JZ aU hR;have su:=bO.aG;rw[aU.size];clear hR bO aU wl aW;refine ax ?_;have Qx:grow o7 w7 w8 w7.heap.size:=.inr ⟨ag _,aa⟩;refine dz bS su rfl ar ar ?_ rfl (R:=fun wl aW=>aW=((wl.setCell ⟨w7.heap.size,0,none⟩ (.string ro)).setCell ⟨w7.heap.size,1,none⟩ (.int .i64 rr)).setCell ⟨w7.heap.size,2,none⟩ (.slice ra rl rc)) (fun wl aU=>⟨_,?_,rfl⟩) fun wl aW w9 aU hR bO=>?_
  ·refine ja ?_ ?_
   ·exact bX Qx
   ·exact Wt.up jr
  ·obtain⟨e0,e1,e2,f0,f1,f2⟩:=eQ ((aU.heap _ Qx).trans kb8);simp[go_sem,e0,e1,e2,f0,f1,f2]
  have hO:eK w7.heap.size wl aW:=by rw[hR];exact uM _ _ _ _ _ _ _ _
  obtain⟨lV,ow,e9⟩:=bO.only aU Qx hO;rw[hR,JX ((aU.heap _ Qx).trans kb8)] at ow;have mB:=bO.aG;rw[e9] at mB |-;clear hR bO aU hO wl aW kb8 e9;have WA:∀b,b<w7.heap.size->w9.heap[b]?=w7.heap[b]?:=fun b hb=>(lV.2 b aa).trans (k8 b hb);have z9:w9.heap.size=w7.heap.size+1:=by rw[lV.1,z8]
  have e89:grow o7 w7 w8=grow o7 w7 w9:=by unfold grow;rw[lV.1]
  rw[e89] at mB Qx |-;clear lV k8 z8 su e89;clear w8;aE;refine x9 W ?_;simp only[iM,dK,if_true,if_false,reduceIte,Nat.reduceEqDiff];have G7:ins k=(nm k).map (rD (cu.map (·.out)) SR):=by rw[<- JY,<- TK,<- aao];rfl
  have ah2:out k=ro:=by rw[<- Yp,<- r8];simp[qW,hk]
  have ah3:eU k=rr:=by rw[<- Yq,<- hrr];simp[zS,hk]
  have aaq:(nm k).length=rl:=by rw[<- Yl];exact(ME.len k hk).symm
  have TM:∀b,b<w5.heap.size->w9.heap[b]?=w5.heap[b]?:=fun b hb=>(WA b aa).trans (TL b hb);have u9:∀b,o5 b->grow o7 w7 w9 b:=fun b hb=>.inl (u7 b hb);obtain⟨a0,a1,a2,-⟩:=eQ ow;have adY:Cl au L0 (grow o7 w7 w9) (.slice ra rl rc):=by rw[<- Rr,<- Yl,<- GC];exact(fB _ (rU k hk)).up (fun b hb=>u9 b (u5 b (u4 b (u2 b hb))))
  have ah4:nm k≠[]->ra=some ⟨nb k,0,none⟩:=fun h=>by rw[<- Rr];exact(ME.ptr k hk h).1
  clear r8 hrr Rr Yl GC c0 c1 c2;obtain⟨o9,ho9⟩:∃x,x=grow o7 w7 w9:=⟨_,rfl⟩;rw[<- ho9] at mB Qx u9 adY |-;have hAw:w7.heap.size<w9.heap.size:=aa;refine dS mixed ah [some none,some none,some none,some (some (.string ro)),some none,some (some (.int .i64 rr)),some none,some (some (.slice ra rl rc)),some none,some none,none,some none,some none,none]
   (S:=fun σ o' w'=>(σ 13=none/\(o'=grow o9 w9 w'/\bN au L0 o' w'/\w9.heap.size<=w'.heap.size/\(∀b,b<w9.heap.size->w'.heap[b]?=w9.heap[b]?))/\(σ 10=none->o'=o9/\w'=w9)/\(∀y,σ 10=some y->y=.slice (some ⟨w9.heap.size,0,none⟩) rl rl/\w9.heap.size<w'.heap.size/\w'.rowIs w9.heap.size 280 (rl*2) (kP (ins k)))) \/
    (σ 13≠none/\o'=grow (grow o5 w5 w6) w6 w'/\bN au L0 o' w'/\w6.heap.size<=w'.heap.size/\(∀b,b<w6.heap.size->b≠w5.heap.size->w'.heap[b]?=w6.heap[b]?)/\∃cO:Nat->Nat,w'.rowIs w5.heap.size 220 (cu.length*3) (gx out eU ins cO (k+1))/\∀s,s<k+1->tC w' (cO s) (ins s)/\w6.heap.size<=cO s/\cO s<w'.heap.size)) ?_ fun v=>?_
  ·exact .inl ⟨rfl,⟨(cd _ _).symm,mB,ag _,fun _ _=>rfl⟩,fun _=>⟨rfl,rfl⟩,fun y hy=>by cases hy⟩
  refine dR ?_;refine cE ?_;refine cq bS rfl rfl rfl ar ar (fun σ o' w' H hS=>?_) ?_
  ·rcases hS with⟨Bc,⟨e1,e2,e3,e4⟩,-,-⟩|⟨Bc,-⟩
   ·have Ys:o' w7.heap.size:=by rw[e1];exact .inl Qx
    refine⟨e2,fun y hy=>?_,fun wl aU=>?_⟩
    ·simp[Op.operands] at hy;subst hy;simp[Act.eval];exact bX Ys
    ·simp[go_sem,(aU.cell Ys).trans ((cell_of (e4 _ hAw)).trans a0)]
   ·exact absurd (H.xz 13 ah) Bc
  refine cE ?_;refine cq bS rfl rfl rfl ar ar (fun σ o' w' H hS=>?_) ?_
  ·rcases hS with⟨Bc,⟨e1,e2,e3,e4⟩,-,-⟩|⟨Bc,-⟩
   ·have Ys:o' w7.heap.size:=by rw[e1];exact .inl Qx
    refine⟨e2,fun y hy=>?_,fun wl aU=>?_⟩
    ·simp[Op.operands] at hy;subst hy;simp[Act.eval];exact bX Ys
    ·simp[go_sem,(aU.cell Ys).trans ((cell_of (e4 _ hAw)).trans a1)]
   ·exact absurd (H.xz 13 ah) Bc
  refine cE ?_;refine cq bS rfl rfl rfl ar ar (fun σ o' w' H hS=>?_) ?_
  ·rcases hS with⟨Bc,⟨e1,e2,e3,e4⟩,-,-⟩|⟨Bc,-⟩
   ·have Ys:o' w7.heap.size:=by rw[e1];exact .inl Qx
    refine⟨e2,fun y hy=>?_,fun wl aU=>?_⟩
    ·simp[Op.operands] at hy;subst hy;simp[Act.eval];exact bX Ys
    ·simp[go_sem,(aU.cell Ys).trans ((cell_of (e4 _ hAw)).trans a2)]
   ·exact absurd (H.xz 13 ah) Bc
  refine cE ?_;refine vm rfl rfl ar rfl func149 ah rfl (av:=#[.slice ra rl rc,.slice (some ⟨w3.heap.size,0,none⟩) cu.length cu.length,.slice sp SR.length sc]) aI (fun σ o' w' H nH hS=>?_) ?_
  ·rcases hS with⟨Bc,-,h5,-⟩|⟨Bc,-⟩
   ·obtain⟨rfl,rfl⟩:=h5 nH;have adZ:nm k≠[]->nb k<w4.heap.size:=fun h=>(ME.ptr k hk h).2;have hL:=TE (Fin:=Fin) mB (nb k) rc w3.heap.size cu.length sb sc ra sp (nm k) (cu.map (·.out)) SR (by have:=ME.four k hk;omega) dX adS (fun h=>⟨ah4 h,u9 _ (u5 _ (MD k hk h))⟩) (fun h=>⟨(vF h).1,u9 _ (vF h).2⟩) (u9 _ (u5 _ ho4)) (fun i hi=>?_) (dh t4 ((TM _ aa).trans (N5.old _ aa))) (fun i hi=>?_) (aaq.symm▸adY) ?_
    ·rw[bR,aaq,<- G7] at hL;refine hL.mono ?_;rintro y o2 w2 ⟨N,rfl,h1,h2⟩;refine .inl ⟨by simpa[fR] using Bc,⟨N.own,N.aG,N.size,N.old⟩,fun h=>by simp[fR] at h,fun y hy=>?_⟩;simp only[fR,if_true,ay] at hy;subst hy;exact⟨rfl,h1,h2⟩
    ·have dJ:nm k≠[]:=fun e=>by rw[e] at hi;simp at hi
     have:=adZ dJ;exact dh (ME.txt k hk) ((TM _ aa).trans (N5.old _ (adZ dJ))) i hi
    ·have dJ:SR≠[]:=fun e=>by rw[e] at hi;simp at hi
     have:=N5.aG.lt (vF dJ).2;exact dh adT (TM _ this) i hi
    ·exact N5.cl.up u9
   ·exact absurd (H.xz 13 ah) Bc
  aE;refine yq (v 10=.slice (some ⟨w9.heap.size,0,none⟩) rl rl) (.agg #[.string ro,.int .i64 rr,.slice (some ⟨w9.heap.size,0,none⟩) rl rl]) rfl rfl rfl ar (fun σ o' w' H hS=>?_) (fun hv w1=>?_) (fun hv w1=>?_) fun y38 ah7=>?_
  ·rcases hS with⟨-,-,-,h6⟩|⟨Bc,-⟩
   ·exact(h6 _ (H.done 10 ah rfl)).1
   ·exact absurd (H.xz 13 ah) Bc
  ·simp[go_sem,Act.eval,hv]
  ·simp[go_sem,Act.eval,hv]
  refine cE ?_;have hlen:(ins k).length=rl:=by rw[G7,bR,aaq]
  have ah8:w5.heap.size<w7.heap.size:=aa;have ah9:o9 w5.heap.size:=by rw[ho9,<- Z0];exact .inl (.inl ho6)
  refine pS bS rfl rfl rfl ar ar (fun σ o' w' H Bc hS=>?_) ?_
  ·rcases hS with⟨-,⟨e1,e2,e3,e4⟩,-,h6⟩|⟨aia,-⟩
   ·obtain⟨hy,hz,cp⟩:=h6 _ (H.done 10 ah rfl);have WB:o' w5.heap.size:=by rw[e1];exact .inl ah9
    have hn':o' w9.heap.size:=by rw[e1];exact .inr ⟨ag _,hz⟩
    have ad0:=ah7 hy;subst ad0;obtain⟨yI,Yt⟩:∃f:Nat->Nat,f=fun s=>if s=k then w9.heap.size else cO s:=⟨_,rfl⟩
    have hib:yI k=w9.heap.size:=by rw[Yt];simp
    have ad1:∀s,s<k->cO s=yI s:=fun s hs=>by rw[Yt];simp[show ¬s=k by omega]
    have ad2:w'.rowIs w5.heap.size 220 (cu.length*3) (gx out eU ins yI k):=(World.rowIs.of_block adV ((e4 _ aa).trans (WA _ ah8))).congr fun j _=>Ew ad1 j;refine⟨e2,fun y Oi=>?_,fun wl aW=>aW=((wl.setCell ⟨w5.heap.size,k*3,none⟩ (.string ro)).setCell ⟨w5.heap.size,k*3+1,none⟩ (.int .i64 rr)).setCell ⟨w5.heap.size,k*3+2,none⟩ (.slice (some ⟨w9.heap.size,0,none⟩) rl rl),fun wl aU=>⟨_,?_,rfl⟩,fun wl aW w2 aU hR bO=>?_⟩
    ·simp[Op.operands] at Oi;rcases Oi with rfl|rfl
     ·simp[Act.eval];exact bX WB
     ·simp[Act.eval];exact fX (vs:=[_,_,_]) (fun x hx=>by
       simp at hx;rcases hx with rfl|rfl|rfl
       ·exact bU
       ·exact dU
       ·exact ee hn')
    ·have rl':=World.rowIs.of_block ad2 (aU.heap _ WB);have q0:=rl'.cell (i:=k*3) aa;have q1:=rl'.cell (i:=k*3+1) aa;have q2:=rl'.cell (i:=k*3+2) aa;have f:=rl'.frozen;simp[go_sem,q0,q1,q2,f]
    ·have hO:eK w5.heap.size wl aW:=by rw[hR];exact uM _ _ _ _ _ _ _ _
     obtain⟨on,kbS,eg⟩:=bO.only aU WB hO;have rV:=bO.aG;have ad3:=TG (World.rowIs.of_block ad2 (aU.heap _ WB));rw[ah2,ah3,hib,hlen,<- hR] at ad3;have aib:=World.rowIs.of_block ad3 kbS;refine .inr ⟨by simp[fR],?_,rV,by have:=on.1;omega,fun b hb dJ=>?_,yI,aib,fun s hs=>?_⟩
     ·rw[eg,e1,ho9,<- Z0,grow_grow (w:=w7) (w1:=w9) aa rfl e3,grow_grow Yr rfl aa];exact G1 on.1.symm
     ·rw[on.2 b dJ,e4 b aa,WA b aa];exact adU b hb dJ
     ·by_cases hsk:s=k
      ·subst hsk;rw[hib];exact⟨AH (Qv hlen.symm cp) (on.2 _ aa),aa,by rw[on.1];exact hz⟩
      ·obtain⟨p1,p2,p3⟩:=MF s aa;rw[<- ad1 s aa];exact⟨AH p1 (by rw[on.2 _ aa,e4 _ aa,WA _ p3]),p2,by rw[on.1];omega⟩
   ·exact absurd Bc aia
  aE;refine cD fun σ o' w' mC hS=>?_;rcases hS with⟨Bc,-⟩|⟨-,e1,e2,e3,e4,yI,e5,e6⟩
  ·rw[mC 13 eA rfl] at Bc;cases Bc
  clear vF adT zA fB;simp only[iM,dK,if_true,if_false,reduceIte,Nat.reduceEqDiff];refine ax ?_;have ve:IntKind.i64.wrap ((k:Int)+1)=((k+1:Nat):Int):=by rw[IntKind.wrap_i64]<;>omega
  refine⟨m-1,aa,k+1,aa,rfl,rfl,rfl,rfl,rfl,rfl,rfl,rfl,by simp[Act.eval,ve],e1,e2,e3,e4,yI,e5,e6⟩
end
end Go.Proofs.Kz
namespace Go.Ren
open Go.Conc Go.ConcN
section
variable {P:Program} {Fin:bL} {d:Nat} {o:aN} {w:ae} {fn:FuncId} {Q:Exit->Act->aN->ae->Prop} {a:Act} {ops:Array Oper} {i:Nat} {rest:List Nat} {op:Oper}
theorem rE{f:FuncId}{fc:Func}{args:Array Operand}{sI:Array TypeId}{e:Array Value->Sem Value}(ho:ops[i]?=some op)(hw:Region.wanted op (yielded ops a.tmps)=true)(eR:op.op=.call {callee:=.value (.func f),args,argTypes:=sI})(hf:P.funcs[f]?=some fc)(gU:(fc.name == "runtime.NumGoroutine")=false)(hb:fc.body.isNone=true)(hn:Extern.findNext fc=none)(he:Extern.find fc=some e){vs:Array Value}(x8:args.map a.eval=vs){v:Value}{t:ae->ae}{evs:Array Event}{dd:Option Tmp}(hd:op.dst=dd)(pw:∀n,t (w.at n)=(t w).at n)(fJ:(t w).heap.size=w.heap.size)(cL:∀n,(e vs).run P (w.at n)=.ok v (t (w.at n)))(jl:∀n,(e vs).events P (w.at n) #[⟨.mark (.extern f),false,true⟩]=#[⟨.mark (.extern f),false,true⟩]++evs)(hs:∀x∈evs,x.sync=true/\(∀g,x.loc≠.mark (.extern g))/\x.loc≠.mark .disable/\x.loc≠.mark .enable)(h:fa (XB P Fin d) fn ops rest Q (a.put dd v) o (t w))(RY:(t w).os=w.os/\(t w).output=w.output:=by exact⟨rfl,rfl⟩):fa (XB P Fin d) fn ops (i::rest) Q a o w:=fun b k cs nC hk hc =>
 zD ho hw hk eR hf gU hb hn he hd pw fJ (fun n=>by rw[x8];exact cL n) (fun n=>by rw[x8];exact jl n) hs (h b k cs nC hk hc) RY
theorem MG(ho:ops[i]?=some op)(hw:Region.wanted op (yielded ops a.tmps)=true){v:Value}{dd:Option Tmp}(hd:op.dst=dd)(hr:∀n,(execOp a.eval op).run P (w.at n)=.ok (.value v) (w.at n))(jl:∀n,∀x∈(execOp a.eval op).events P (w.at n) #[],ZH Fin o x/\x.loc≠.mark .disable/\x.loc≠.mark .enable)(h:fa (XB P Fin d) fn ops rest Q (a.put dd v) o w):fa (XB P Fin d) fn ops (i::rest) Q a o w:=fun b k cs nC hk hc=>I5 ho hw hk hd hr jl (h b k cs nC hk hc)
theorem Da(ho:ops[i]?=some op)(hw:Region.wanted op (yielded ops a.tmps)=true){v:Value}{dd:Option Tmp}(hd:op.dst=dd)(hr:∀n,(execOp a.eval op).run P (w.at n)=.ok (.value v) (w.at n))(jl:∀n,∀x∈(execOp a.eval op).events P (w.at n) #[],VR o x/\x.loc≠.mark .disable/\x.loc≠.mark .enable)(h:fa (XB P Fin d) fn ops rest Q (a.put dd v) o w):fa (XB P Fin d) fn ops (i::rest) Q a o w:=fun b k cs nC hk hc=>yj ho hw hk hd hr jl (h b k cs nC hk hc)
end
section
variable {P:Program} {L:Nat->Bool} {Fin:bL} {d:Nat} {fn:FuncId} {Q:Exit->Act->aN->ae->Prop} {a:Act} {ops:Array Oper} {S:(Nat->Option Value)->aN->ae->Prop} {kds:List Kd} {v:Nat->Value} {K:Act->Prop} {j:Nat} {l:List Nat} {xs:List Kd} {op:Oper} {dd:Option Tmp}
theorem TN{f:FuncId}{fc:Func}{args:Array Operand}{sI:Array TypeId}{e:Array Value->Sem Value}(ho:ops[j]?=some op)(hd:op.dst=dd)(hw:Region.wanted op (yielded ops a.tmps)=true)(eR:op.op=.call {callee:=.value (.func f),args,argTypes:=sI})(hf:P.funcs[f]?=some fc)(gU:(fc.name == "runtime.NumGoroutine")=false)(hb:fc.body.isNone=true)(hn:Extern.findNext fc=none)(he:Extern.find fc=some e){av:Array Value}(has:args.map a.eval=av)(cL:∀σ o w,zH ops kds v j σ->σ j=none->S σ o w->∃(y:Value) (t:ae->ae) (evs:Array Event),(∀n,t (w.at n)=(t w).at n)/\((t w).heap.size=w.heap.size/\(t w).os=w.os/\(t w).output=w.output)/\(∀n,(e av).run P (w.at n)=.ok y (t (w.at n)))/\(∀n,(e av).events P (w.at n) #[⟨.mark (.extern f),false,true⟩]=#[⟨.mark (.extern f),false,true⟩]++evs)/\(∀x∈evs,x.sync=true/\(∀g,x.loc≠.mark (.extern g))/\x.loc≠.mark .disable/\x.loc≠.mark .enable)/\S (fR σ j y) o (t w))(h:dL P (Bu P (XB P Fin d) fn ops Q S kds v) ops K v l xs (a.put dd (v j))):dL P (Bu P (XB P Fin d) fn ops Q S kds v) ops K v (j::l) (none::xs) a:=by
 refine gn ho hd (fun A rest σ o w h1 h2 h3 h4 hS hc=>?_) rfl h;obtain⟨y,t,evs,k1,k2,k3,k4,k5,k6⟩:=cL σ o w h3 (h4 rfl) hS;exact rE ho (h2.trans hw) eR hf gU hb hn he ((pQ eR h1).trans has) rfl k1 k2.1 k3 k4 k5 (hc y o (t w) k6) k2.2
end
section
variable {P:Program} {w:ae} {ad:Addr}
theorem Ex{k:IntKind}{x:Int}(hc:w.cell? ad=some (.int k x)):(Extern.Atomic.loadT (.int k) #[.pointer (some ad)]).run P w=.ok (.int k x) w:=by
 change Sem.run P (do Extern.Atomic.read (.int k) (<- asAddr (.pointer (some ad)))) w=_;simp[Extern.Atomic.read,asAddr,hc]
theorem zT{k:IntKind}{x:Int}(hc:w.cell? ad=some (.int k x))(es:Array Event):(Extern.Atomic.loadT (.int k) #[.pointer (some ad)]).events P w es=es.push ⟨.cell ad,false,true⟩:=by
 change Sem.events P (do Extern.Atomic.read (.int k) (<- asAddr (.pointer (some ad)))) w _=_;simp[Extern.Atomic.read,asAddr,hc,events_load]
theorem Ey{p:Option Addr}(hc:w.cell? ad=some (.pointer p)):(Extern.Atomic.loadT .ptr #[.pointer (some ad)]).run P w=.ok (.pointer p) w:=by
 change Sem.run P (do Extern.Atomic.read .ptr (<- asAddr (.pointer (some ad)))) w=_;simp[Extern.Atomic.read,asAddr,hc]
theorem zU{p:Option Addr}(hc:w.cell? ad=some (.pointer p))(es:Array Event):(Extern.Atomic.loadT .ptr #[.pointer (some ad)]).events P w es=es.push ⟨.cell ad,false,true⟩:=by
 change Sem.events P (do Extern.Atomic.read .ptr (<- asAddr (.pointer (some ad)))) w _=_;simp[Extern.Atomic.read,asAddr,hc,events_load]
theorem Db{v u:Value}(hc:w.cell? ad=some u)(hz:w.frozen? ad=false)(hv:v.oneCell'=true):(Extern.Atomic.storeT #[.pointer (some ad),v]).run P w=.ok (.tuple #[]) (w.setCell ad v):=by
 change Sem.run P (do
  store (<- asAddr (.pointer (some ad))) v .atomic
  pure Extern.Atomic.none_) w=_
 simp[asAddr,Extern.Atomic.none_,run_store P w ad v .atomic hv,hc,hz]
theorem wC{v u:Value}(hc:w.cell? ad=some u)(hz:w.frozen? ad=false)(hv:v.oneCell'=true)(es:Array Event):(Extern.Atomic.storeT #[.pointer (some ad),v]).events P w es=es.push ⟨.cell ad,true,true⟩:=by
 change Sem.events P (do
  store (<- asAddr (.pointer (some ad))) v .atomic
  pure Extern.Atomic.none_) w _=_
 simp[asAddr,hc,hz,events_store P w _ ad v .atomic hv]
end
section
variable {P:Program} {m:Bool} {R:aN->ae->ae->Prop} {Gu:aN->ae->ae->Array Event->Prop} {X:aN->aY->ae->Prop} {o:aN} {w:ae} {f:FuncId} {Post:Value->aN->ae->Prop}
theorem G8(W:fM P m R Gu X){g:FuncId}{gc:Func}{c:Code}{args tm:Array Value}{ds:List Deferred}(hg:P.funcs[g]?=some gc)(gU:(gc.name == "runtime.NumGoroutine")=false)(fK:gc.body=some c)(h:wm X g c (fun e a' o' w'=>(e=.normal\/e=.ret)/\a'.defers=[]/\(∃v,ResultsC P gc a'.tmps v)/\jP X f Post ⟨tm,ds⟩ o' w') {tmps:=args++Array.replicate (gc.ntmps-args.size) undef,defers:=[]} o w):
  jP X f Post ⟨tm,{target:=.fn (.func g) #[],args}::ds⟩ o w:=by
 intro cf cs todo hc;refine W.go rfl (fun w1=>stepG_unwind_enter rfl hg gU fK) ?_;have leave:∀(a':Act) (o':aN) (w':ae) (td:List Item),a'.defers=[]->(∃v,ResultsC P gc a'.tmps v)->jP X f Post ⟨tm,ds⟩ o' w'->X o' (G {(baseD g).at a' td with mode:=.returning} ({(base f).at ⟨tm,ds⟩ todo with mode:=.returning}::cf::cs)) w':=by
  rintro a' o' w' td hd ⟨v,hr⟩ hl;exact W.go rfl (fun w1=>stepG_leave_deferred (b:=baseD g) rfl hd hg (hr w1).1 (hr w1).2 rfl) (hl cf cs todo hc)
 refine h (baseD g) [] _ rfl (by simp[baseD]) fun e a' o' w' q=>?_;obtain⟨he,hd,hr,hl⟩:=q;rcases he with rfl|rfl
 ·exact W.go rfl (fun _=>eu) (leave a' o' w' [] hd hr hl)
 ·exact fun td=>leave a' o' w' td hd hr hl
end
end Go.Ren
namespace Go.Proofs.Kz
open Go.Proofs.Tryz
open Go.Proofs.Tryz renaming prog → au
open _root_.ByteArray renaming empty → aP
open Go.Ren Go.Conc Go.Proofs Go.ConcN
section
variable {Fin:bL} {o:aN} {w:ae}
theorem xm(K off:Nat)(x:Int)(hc:w.cell? ⟨K,off,none⟩=some (.int .u32 x)):
  bA au (XB au Fin 0) 142 #[.pointer (some ⟨K,off,none⟩)] o w fun v o' w'=>v=.bool (x != 0)/\o'=o/\w'=w:=by
 have W:=bY (P:=au) (Fin:=Fin) (d:=0);refine bD W func142 rfl ?_;bP Tryz.f142;refine ax ?_;refine rE rfl ar rfl func182 ah ah ah (e:=Extern.Atomic.loadT (.int .u32)) ah (vs:=#[.pointer (some ⟨K,off,none⟩)]) aI (t:=id) rfl (fun n=>rfl) rfl (fun n=>Ex hc) (fun n=>by rw[zT (w:=w.at n) hc];rfl) (yC _ _) ?_;refine ax ?_;exact⟨.inr trivial,trivial,_,resultsC_tmp (t:=2) ar _,aI⟩
theorem ad4:bA au (XB au Fin 0) 202 #[.bool true] o w fun v o' w'=>v=.int .u32 1/\o'=o/\w'=w:=by
 have W:=bY (P:=au) (Fin:=Fin) (d:=0);refine bD W func202 rfl ?_;bP Tryz.f202;refine ax ?_;exact⟨.inr trivial,trivial,_,resultsC_tmp (t:=2) ar _,aI⟩
theorem MH{f:FuncId}{Post:Value->aN->ae->Prop}(K off:Nat)(x:Int)(hc:w.cell? ⟨K,off,none⟩=some (.int .u32 x))(hz:w.frozen? ⟨K,off,none⟩=false)(hF:bN au L0 o w)(tm:Array Value)(ds:List Deferred)(h:jP (XB au Fin 0) f Post ⟨tm,ds⟩ o (w.setCell ⟨K,off,none⟩ (.int .u32 1))):jP (XB au Fin 0) f Post ⟨tm,{target:=.fn (.func 183) #[],args:=#[.pointer (some ⟨K,off,none⟩),.bool true]}::ds⟩ o w:=by
 have W:=bY (P:=au) (Fin:=Fin) (d:=0);refine G8 W func183 ah rfl ?_;bP Tryz.f183;refine dS mixed ah [some none,some none,some none,some none,some (some (.int .u32 1)),none] (S:=fun σ o' w'=>o'=o/\(σ 5=none->w'=w)/\∀y,σ 5=some y->w'=w.setCell ⟨K,off,none⟩ (.int .u32 1)) ⟨rfl,fun _=>rfl,fun y hy=>by cases hy⟩ fun v=>?_;refine dR ?_;refine cE ?_;refine jU rfl rfl ar rfl func202 ah rfl (av:=#[.bool true]) aI (fun σ o' w' H hS=>ad4.mono ?_) ?_
 ·rintro v o2 w2 ⟨rfl,rfl,rfl⟩;exact⟨rfl,hS⟩
 aE;refine TN rfl rfl ar rfl func201 ah ah ah (e:=Extern.Atomic.storeT) ah (av:=#[.pointer (some ⟨K,off,none⟩),.int .u32 1]) aI (fun σ o' w' H h5 hS=>?_) ?_
 ·obtain⟨rfl,h1,-⟩:=hS;obtain rfl:=h1 h5;exact⟨.tuple #[],fun w=>w.setCell ⟨K,off,none⟩ (.int .u32 1),#[⟨.cell ⟨K,off,none⟩,true,true⟩],fun n=>rfl,⟨yB _ _ _,rfl,rfl⟩,fun n=>Db hc hz rfl,fun n=>by rw[wC (w:=World.at _ n) hc hz rfl];rfl,yC _ _,rfl,fun h=>by simp[fR] at h,fun y _=>rfl⟩
 aE;refine cD fun σ o' w' mC hS=>?_;obtain⟨rfl,-,h2⟩:=hS;obtain rfl:=h2 _ (mC 5 eA rfl);exact⟨.inl trivial,rfl,⟨.tuple #[],fun w1=>results_none ah _ _⟩,h⟩
theorem wD{f:FuncId}{Post:Value->aN->ae->Prop}(K off:Nat)(Yk:o K)(hc:w.cell? ⟨K,off,none⟩=some (.int .i32 1))(hz:w.frozen? ⟨K,off,none⟩=false)(tm:Array Value)(ds:List Deferred)(h:jP (XB au Fin 0) f Post ⟨tm,ds⟩ o (w.setCell ⟨K,off,none⟩ (.int .i32 0))):jP (XB au Fin 0) f Post ⟨tm,{target:=.fn (.func 46) #[],args:=#[.pointer (some ⟨K,off,none⟩)]}::ds⟩ o w :=
 fun cf cs todo Lg=>JI K off Yk hc hz (base f) tm ds todo (cf::cs) (h cf cs todo Lg)
theorem xn{P:Program}{src dst u e:TypeId}{j:TypeInfo}{cells:Nat}(a:Addr)(hs:P.underlying src=some .unsafePointer)(hd:P.underlying dst=some (.pointer u))(hu:P.info? u=some j)(tx:w.shape? a.block=some (e,cells))(ad5:liesAt P P.depth e (cells/P.cellsOf e) a.off u 1=true)(es:Array Event):
  (convert src dst (.pointer (some a))).events P w es=es:=by
 simp[convert,run_underlying hs,run_underlying hd,Conv.unsafePointer,Conv.seenAt,viewAt,tx,variablesAt,ad5,sizeOf,typeInfo,hu,Result.evThen]
theorem setInfo:∃j,au.info? 59=some j/\j.size≠0:=by
 have:(au.info? 59).map (fun i=>decide (i.size≠0))=some true:=ah;obtain⟨j,h1,h2⟩:=Option.map_eq_some_iff.1 this;exact⟨j,h1,by simpa using h2⟩
theorem FC(K off:Nat)(A:Nat)(x y z:Value)(hc:w.cell? ⟨K,off,none⟩=some (.pointer (some ⟨A,0,none⟩)))(hA:w.heap[A]?=some (.cells #[x,y,z] 59)):
  bA au (XB au Fin 0) 49 #[.pointer (some ⟨K,off,none⟩)] o w fun v o' w'=>v=.pointer (some ⟨A,0,none⟩)/\o'=o/\w'=w:=by
 have W:=bY (P:=au) (Fin:=Fin) (d:=0);refine bD W func49 rfl ?_;bP Tryz.f49;refine ax ?_;refine rE rfl ar rfl func81 ah ah ah (e:=Extern.Atomic.loadT .ptr) ah (vs:=#[.pointer (some ⟨K,off,none⟩)]) aI (t:=id) rfl (fun n=>rfl) rfl (fun n=>Ey hc) (fun n=>by rw[zU (w:=w.at n) hc];rfl) (yC _ _) ?_;aE;refine Da rfl ar (v:=.pointer (some ⟨A,0,none⟩)) rfl (fun n=>?_) (fun n x hx=>?_) ?_
 ·obtain⟨j,hj,-⟩:=setInfo;have:=Lib.run_from_unsafe (P:=au) (w:=w.at n) (src:=116) (dst:=113) (e:=59) (cells:=3) ⟨A,0,none⟩ underlying116 underlying113 hj (by simp[World.shape?,World.at,hA]) ah;simp[go_sem,this]
 ·obtain⟨j,hj,-⟩:=setInfo;have:=xn (P:=au) (w:=w.at n) (src:=116) (dst:=113) (e:=59) (cells:=3) ⟨A,0,none⟩ underlying116 underlying113 hj (by simp[World.shape?,World.at,hA]) ah #[];simp[go_sem,this] at hx
 refine ax ?_;exact⟨.inr trivial,trivial,_,resultsC_tmp (t:=2) ar _,aI⟩
theorem Dc(K off:Nat)(A:Nat)(x y z u:Value)(hc:w.cell? ⟨K,off,none⟩=some u)(hz:w.frozen? ⟨K,off,none⟩=false)(hA:w.heap[A]?=some (.cells #[x,y,z] 59)):
  bA au (XB au Fin 0) 61 #[.pointer (some ⟨K,off,none⟩),.pointer (some ⟨A,0,none⟩)] o w fun v o' w'=>v=.tuple #[]/\o'=o/\w'=w.setCell ⟨K,off,none⟩ (.pointer (some ⟨A,0,none⟩)):=by
 have W:=bY (P:=au) (Fin:=Fin) (d:=0);refine bD W func61 rfl ?_;bP Tryz.f61;refine ax ?_;obtain⟨ZB,-⟩:=eQ hA;have hcv:=fun n=>run_convert_to_unsafe (P:=au) (w:=w.at n) underlying113 underlying116 ah ZB;have hce:=fun n es=>events_convert_to_unsafe (P:=au) (w:=w.at n) underlying113 underlying116 ah ZB es;refine Da rfl ar (v:=.pointer (some ⟨A,0,none⟩)) rfl (fun n=>by simp[go_sem,hcv n]) (fun n x hx=>by simp[go_sem,hce n] at hx) ?_;aE;refine rE rfl ar rfl func99 ah ah ah (e:=Extern.Atomic.storeT) ah (vs:=#[.pointer (some ⟨K,off,none⟩),.pointer (some ⟨A,0,none⟩)]) aI (t:=fun w=>w.setCell ⟨K,off,none⟩ (.pointer (some ⟨A,0,none⟩))) rfl (fun n=>rfl) (yB _ _ _) (fun n=>Db hc hz rfl) (fun n=>by rw[wC (w:=w.at n) hc hz rfl];rfl) (yC _ _) ?_;refine ax ?_;exact⟨.inl trivial,trivial,.tuple #[],fun w1=>results_none ah _ _,aj⟩
end
end Go.Proofs.Kz
