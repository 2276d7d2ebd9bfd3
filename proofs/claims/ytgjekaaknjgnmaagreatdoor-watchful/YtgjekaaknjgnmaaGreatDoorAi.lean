import Derived.Test.YtgjekaaknjgnmaaGreatDoorAh
import Derived.ArgAppend
import Derived.Conc.AtomicLaws2
import Derived.Lib.Bytealg
import Derived.Lib.JoinLaws
set_option linter.all false
set_option maxHeartbeats 40000000
set_option maxRecDepth 200000
namespace Go.Proofs.Kz
open Go.Proofs.Tryz
open Go.Proofs.Tryz renaming prog → ar
open _root_.ByteArray renaming empty → aN
open Go.Ren Go.Conc Go.Proofs Go.ConcN
section
open Go.Conc.Lib Go.ConcR.Gen Go.ConcN.Gen
open Go.ConcR (KK wgBlock WgAt stA smA rd wr mk Payload DC0)
def Still(D:mf)(Ob:Nat)(old:Nat->Option (Nat×List Kz.V))(b:Nat):Prop :=
 b=D.bn\/b=D.Lb\/b=D.St\/b=D.Vb\/b=D.Mb\/b=Ob\/b=1\/(∃s,s<D.n/\b=D.cw s)\/(∃s vs,s<D.n/\old s=some (b,vs))
structure mZ(D:mf)(ord:Nat->Nat)(res:Nat->Kz.V)(old:Nat->Option (Nat×List Kz.V))(Ob:Nat)(o:aM)(w:ae):Prop where
 DI:kG D w
 pow:jB w
 order:w.cell? ⟨D.Lb,D.Lo+1,none⟩=some (.slice (some ⟨Ob,0,none⟩) D.n D.n)
 Kv:∀k,k<D.n->w.cell? ⟨Ob,k,none⟩=some (.int .i64 (ord k))
 still:∀b,Still D Ob old b->o b/\b≠D.Rb/\b≠D.Nb/\∀s,s<D.n->b≠D.ch s
 nZ:∀s,s<D.n->o (D.ch s)/\D.ch s≠D.Rb/\D.ch s≠D.Nb/\∃s' r tm,w.heap[D.ch s]?=some (.chan 0 #[] false s' r tm)
 wh:∀s t,s<D.n->t<D.n->D.ch s=D.ch t->s=t
 BC:o D.Rb
 BD:o D.Nb
 apart:D.Rb≠D.Nb
 R0:∃cs,w.heap[D.Rb]?=some (.cells cs 222 (0,0))/\cs.size=D.n*4
 N0:∃cs,w.heap[D.Nb]?=some (.cells cs 4 (0,0))/\cs.size=D.n
 idle:∀s,s<D.n->ye D s (old s) w
 vv:∀s B vs,s<D.n->old s=some (B,vs)->vt w B 0 vs/\vs.length<=100000
 pI:∀i,i<D.n->ord i<D.n
 XU:∀i j,i<D.n->j<D.n->ord i=ord j->i=j
 XV:∀s,s<D.n->∃i,i<D.n/\ord i=s
 dep:∀i,i<D.n->∀m,(true,m)∈D.ins (ord i)->∃k,k<i/\ord k=m
 src:∀s,s<D.n->∀m,(false,m)∈D.ins s->m<D.lj.length
 short:∀s,s<D.n->(D.ins s).length<=4
 gT:D.n<=100000
 TV:D.lj.length<=100000
 made:∀s,s<D.n->res s=jC (D.jm s) (dA D res s)
 eD:∀s,s<D.n->1<=D.jm s/\D.jm s<=5
 size:∀s,s<D.n->iM ((dA D res s).map (·.2))<=1000000
def pr(D:mf)(ord:Nat->Nat)(old:Nat->Option (Nat×List Kz.V))(S:Nat->Prop)(Wg H0 m0 T0:Nat):cP where
 T0:=T0
 H0:=H0
 Wg:=Wg
 m0:=m0
 n:=D.n
 ch:=fun i=>D.ch (ord i)
 js:=fun i l=>i<D.n/\((∃j,j<4/\l=.cell ⟨D.Rb,ord i*4+j,none⟩)\/l=.cell ⟨D.Nb,ord i,none⟩)
 Shun:=sK S
 Sh:=fun b=>b=D.Rb\/b=D.Nb
 ty:=216
 dep:=fun i k=>k<i
 Idle:=fun k w=>k<D.n->ye D (ord k) (old (ord k)) w
section
variable {D:mf} {ord:Nat->Nat} {res:Nat->Kz.V} {old:Nat->Option (Nat×List Kz.V)} {Ob:Nat} {o:aM} {w:ae} {L:Nat->Bool}
theorem tO{w w1:ae}{B:Nat}(hs:∀cs ty fz,w.heap[B]?=some (.cells cs ty fz)->∃rW,w1.heap[B]?=some (.cells rW ty fz)/\rW.size=cs.size)(h:uq w B):uq w1 B:=by
 obtain⟨c,t,h⟩:=h;obtain⟨c1,h1,_⟩:=hs c t _ h;exact⟨c1,t,h1⟩
theorem ye.keep{s:Nat}{x:Option (Nat×List Kz.V)}{w w1:ae}(h:ye D s x w)(hR:∀j,j<4->w1.cell? ⟨D.Rb,s*4+j,none⟩=w.cell? ⟨D.Rb,s*4+j,none⟩)(hN:w1.cell? ⟨D.Nb,s,none⟩=w.cell? ⟨D.Nb,s,none⟩)(h1:uq w1 D.Rb)(h2:uq w1 D.Nb):ye D s x w1:=by
 refine⟨?_,hN.trans h.2.1,h1,h2⟩;have k:=h.1;cases x with
 |none=>exact⟨(hR 0 aa).trans k.c0,(hR 1 aa).trans k.c1,(hR 2 aa).trans k.c2,(hR 3 aa).trans k.c3⟩
 |some y=>exact⟨(hR 0 aa).trans k.c0,(hR 1 aa).trans k.c1,(hR 2 aa).trans k.c2,(hR 3 aa).trans k.c3⟩
theorem mM{o:aM}{a b:Nat}(h:¬o b)(ha:o a):a≠b:=fun e=>h (e▸ha)
theorem T1(h:mZ D ord res old Ob o w){S:Nat->Prop}{Wg H0 m0 T0:Nat}(hm:0<m0)(Zl:Wg<H0)(L5:¬o Wg)(ho:∀b,o b->b<H0/\¬S b)(hS:∀b,S b->b<H0/\b≠Wg):(pr D ord old S Wg H0 m0 T0).OK where
 m0:=hm
 wg:=Zl
 own k l b hl hb:=by
  rcases hl.2 with⟨j,_,rfl⟩|rfl
  ·cases hb;exact⟨(ho _ h.BC).1,mM L5 h.BC⟩
  ·cases hb;exact⟨(ho _ h.BD).1,mM L5 h.BD⟩
 apart k k' l hl hl':=by
  have e:ord k=ord k':=by
   rcases hl.2 with⟨j,_,rfl⟩|rfl<;>rcases hl'.2 with⟨j',_,e⟩|e
   ·simp at e;omega
   ·simp at e;exact absurd e.1 h.apart
   ·simp at e;exact absurd e.1.symm h.apart
   ·simp at e;exact e
  exact h.XU _ _ hl.1 hl'.1 e
 Z9 l b hl hb:=by cases l<;>first|exact hl.elim|skip;cases hb;exact hS _ hl
 ER k l hl hs:=by
  rcases hl.2 with⟨j,_,rfl⟩|rfl
  ·exact(ho _ h.BC).2 hs
  ·exact(ho _ h.BD).2 hs
 ownSh k l hl:=by
  rcases hl.2 with⟨j,_,rfl⟩|rfl
  ·exact⟨_,rfl,.inl rfl⟩
  ·exact⟨_,rfl,.inr rfl⟩
 sh b hb:=by
  rcases hb with rfl|rfl
  ·exact⟨(ho _ h.BC).1,mM L5 h.BC,fun k hk=>(h.nZ _ (h.pI k hk)).2.1⟩
  ·exact⟨(ho _ h.BD).1,mM L5 h.BD,fun k hk=>(h.nZ _ (h.pI k hk)).2.2.1⟩
 ch k hk:=⟨(ho _ (h.nZ _ (h.pI k hk)).1).1,mM L5 (h.nZ _ (h.pI k hk)).1⟩
 wh k k' hk kY e:=h.XU _ _ hk kY (h.wh _ _ (h.pI k hk) (h.pI k' kY) e)
 Pv k hk:=fun e=>e
 dep i k _ e:=e
 idle k w w1 h1 h2 h3:=fun hk=>(h3 hk).keep (fun j hj=>h1 _ ⟨hk,.inl ⟨j,hj,rfl⟩⟩) (h1 _ ⟨hk,.inr rfl⟩) (tO (h2 _ · · · (.inl rfl)) (h3 hk).2.2.1) (tO (h2 _ · · · (.inr rfl)) (h3 hk).2.2.2)
theorem Kx(h:mZ D ord res old Ob o w){S:Nat->Prop}{Wg H0 m0 T0:Nat}(Zl:Wg<H0)(L5:¬o Wg)(ho:∀b,o b->b<H0/\¬S b){b:Nat}(hb:Still D Ob old b):Quiet (pr D ord old S Wg H0 m0 T0) b:=by
 obtain⟨h1,h2,h3,h4⟩:=h.still b hb;refine⟨(ho b h1).1,mM L5 h1,fun e=>e.elim h2 h3,fun k hk=>h4 _ (h.pI k hk),fun off=>⟨fun b' mo=>?_,fun k hk=>?_,(ho b h1).2⟩⟩
 ·cases mo;exact⟨(ho b h1).1,mM L5 h1⟩
 ·rcases hk.2 with⟨j,_,e⟩|e
  ·injection e with e;injection e with e;exact h2 e
  ·injection e with e;injection e with e;exact h3 e
theorem BE{S:Nat->Prop}{Wg H0 m0 T0 Bb:Nat}(hB:Bb<H0)(cV:Bb≠Wg)(hS:¬S Bb)(h:mZ D ord res old Ob o w)(hn:¬o Bb):Quiet (pr D ord old S Wg H0 m0 T0) Bb:=by
 have QO:∀a,o a->Bb≠a:=fun a ha e=>hn (e▸ha);refine⟨hB,cV,fun e=>e.elim (QO _ h.BC) (QO _ h.BD),fun k hk=>QO _ (h.nZ _ (h.pI k hk)).1,fun off=>⟨fun b' mo=>?_,fun k hk=>?_,hS⟩⟩
 ·cases mo;exact⟨hB,cV⟩
 ·rcases hk.2 with⟨j,_,e⟩|e
  ·injection e with e;injection e with e;exact QO _ h.BC e
  ·injection e with e;injection e with e;exact QO _ h.BD e
theorem mZ.keep{w1:ae}(h:mZ D ord res old Ob o w)(e:∀b,o b->w1.heap[b]?=w.heap[b]?):mZ D ord res old Ob o w1:=by
 have q:∀{b off},Still D Ob old b->w1.cell? ⟨b,off,none⟩=w.cell? ⟨b,off,none⟩:=fun hb=>cell_of (e _ (h.still _ hb).1);have qb:∀{off},w1.cell? ⟨D.bn,off,none⟩=w.cell? ⟨D.bn,off,none⟩:=q (.inl rfl);have qL:∀{off},w1.cell? ⟨D.Lb,off,none⟩=w.cell? ⟨D.Lb,off,none⟩:=q (.inr (.inl rfl));have qS:∀{off},w1.cell? ⟨D.St,off,none⟩=w.cell? ⟨D.St,off,none⟩:=q (.inr (.inr (.inl rfl)));have qV:∀{off},w1.cell? ⟨D.Vb,off,none⟩=w.cell? ⟨D.Vb,off,none⟩:=q (.inr (.inr (.inr (.inl rfl))));have qM:∀{off},w1.cell? ⟨D.Mb,off,none⟩=w.cell? ⟨D.Mb,off,none⟩:=q (.inr (.inr (.inr (.inr (.inl rfl)))));have qO:∀{off},w1.cell? ⟨Ob,off,none⟩=w.cell? ⟨Ob,off,none⟩:=q (.inr (.inr (.inr (.inr (.inr (.inl rfl))))));have q1:∀{off},w1.cell? ⟨1,off,none⟩=w.cell? ⟨1,off,none⟩:=q (.inr (.inr (.inr (.inr (.inr (.inr (.inl rfl)))))));have qI:∀{s off},s<D.n->w1.cell? ⟨D.cw s,off,none⟩=w.cell? ⟨D.cw s,off,none⟩:=fun hs=>q (.inr (.inr (.inr (.inr (.inr (.inr (.inr (.inl ⟨_,hs,rfl⟩))))))));have qR:∀{off},w1.cell? ⟨D.Rb,off,none⟩=w.cell? ⟨D.Rb,off,none⟩:=cell_of (e _ h.BC);have qN:∀{off},w1.cell? ⟨D.Nb,off,none⟩=w.cell? ⟨D.Nb,off,none⟩:=cell_of (e _ h.BD);have d:=h.DI;exact {h with
  DI:=⟨by rw[qb];exact d.b0,by rw[qb];exact d.b1,by rw[qb];exact d.b2,by rw[qb];exact d.b3,by rw[qb];exact d.b4,by rw[qL];exact d.steps,fun s hs=>by rw[qS];exact d.eD s hs,fun s hs=>by rw[qS];exact d.zJ s hs,fun s hs j hj=>by rw[qI hs,qI hs];exact d.Bw s hs j hj,fun k hk=>by rw[qV,qV];exact d.lj k hk,fun s hs=>by rw[qM];exact d.made s hs⟩
  pow:=fun k hk=>by rw[q1];exact h.pow k hk
  order:=by rw[qL];exact h.order
  Kv:=fun k hk=>by rw[qO];exact h.Kv k hk
  nZ:=fun s hs=>⟨(h.nZ s hs).1,(h.nZ s hs).2.1,(h.nZ s hs).2.2.1,by rw[e _ (h.nZ s hs).1];exact(h.nZ s hs).2.2.2⟩
  R0:=by rw[e _ h.BC];exact h.R0
  N0:=by rw[e _ h.BD];exact h.N0
  idle:=fun s hs=>(h.idle s hs).keep (fun j _=>qR) qN (tO (fun cs ty fz hx=>⟨cs,by rw[e _ h.BC];exact hx,rfl⟩) (h.idle s hs).2.2.1) (tO (fun cs ty fz hx=>⟨cs,by rw[e _ h.BD];exact hx,rfl⟩) (h.idle s hs).2.2.2)
  vv:=fun s B vs hs ho=>⟨fun k hk=>by
   have hb:Still D Ob old B:=.inr (.inr (.inr (.inr (.inr (.inr (.inr (.inr ⟨s,vs,hs,ho⟩)))))));rw[q hb,q hb];exact(h.vv s B vs hs ho).1 k hk,(h.vv s B vs hs ho).2⟩}
theorem Ky(h:mZ D ord res old Ob o w){S:Nat->Prop}{Wg Bb H0 m0 T0:Nat}(hm:0<m0)(Zl:Wg<H0)(L5:¬o Wg)(ho:∀b,o b->b<H0/\¬S b)(hS:∀b,S b->b<H0/\b≠Wg)(hB:Bb<H0)(cV:Bb≠Wg)(hSB:¬S Bb)(hnB:¬o Bb)(hg:ar.globals.size<=H0)(XX:w.cell? ⟨Bb,0,none⟩=some (.pointer (some ⟨D.bn,0,none⟩))):Setup D (pr D ord old S Wg H0 m0 T0) ord res old Bb Ob w:=by
 have Q:∀{b},Still D Ob old b->Quiet (pr D ord old S Wg H0 m0 T0) b:=fun hb=>Kx h Zl L5 ho hb;exact {
  ok:=T1 h hm Zl L5 ho hS
  n:=rfl
  jF:=hg
  ty:=rfl
  q1:=Q (.inr (.inr (.inr (.inr (.inr (.inr (.inl rfl)))))))
  dk:={
   Cx:=Q (.inl rfl)
   XJ:=Q (.inr (.inl rfl))
   XK:=Q (.inr (.inr (.inl rfl)))
   Zm:=Q (.inr (.inr (.inr (.inl rfl))))
   qMb:=Q (.inr (.inr (.inr (.inr (.inl rfl)))))
   NK:=fun s hs=>Q (.inr (.inr (.inr (.inr (.inr (.inr (.inr (.inl ⟨_,hs,rfl⟩))))))))
   pI:=h.pI
   ch:=fun _ _=>rfl
   own:=fun _ _=>cG
   O3:=.inl rfl
   VR:=.inr rfl
   apart:=h.apart
   dep:=fun i hi m hm=>by
    obtain⟨k,hk,e⟩:=h.dep i hi m hm;exact⟨k,by have:i<D.n:=hi;show k<D.n;omega,e,hk⟩
   src:=h.src
   short:=h.short
   gT:=h.gT
   TV:=h.TV}
  DI:=h.DI
  pow:=h.pow
  made:=fun i hi=>h.made _ (h.pI i hi)
  eD:=fun i hi=>h.eD _ (h.pI i hi)
  size:=fun i hi=>h.size _ (h.pI i hi)
  qB:=BE hB cV hSB h hnB
  box:=XX
  qO:=Q (.inr (.inr (.inr (.inr (.inr (.inl rfl))))))
  order:=h.order
  Kv:=h.Kv
  vv:=fun s B vs hs e=>⟨(h.vv s B vs hs e).1,Q (.inr (.inr (.inr (.inr (.inr (.inr (.inr (.inr ⟨s,vs,hs,e⟩)))))))),(h.vv s B vs hs e).2⟩
  idle:=fun k w hk hi=>hi hk}
end
end
section
open Go.Conc.Lib Go.ConcR.Gen Go.ConcN.Gen
open Go.ConcR (KK wgBlock WgAt stA smA rd wr mk Payload DC0)
structure QP(D:mf)(res:Nat->Kz.V)(old:Nat->Option (Nat×List Kz.V))(o:aM)(w:ae)(o':aM)(w':ae):Prop where
 more:∀b,o b->o' b
 new:∀b,o' b->o b\/w.heap.size<=b
 same:∀b,b<w.heap.size->b≠D.Rb->b≠D.Nb->(∀s,s<D.n->b≠D.ch s)->w'.heap[b]?=w.heap[b]?
 runs:∀s,s<D.n->mL D s (old s) (dA D res s) (res s) (fun b=>o' b/\w.heap.size<=b) w'
 R0:∃cs,w'.heap[D.Rb]?=some (.cells cs 222 (0,0))/\cs.size=D.n*4
 N0:∃cs,w'.heap[D.Nb]?=some (.cells cs 4 (0,0))/\cs.size=D.n
 nZ:∀s,s<D.n->∃c s' r tm,w'.heap[D.ch s]?=some (.chan 0 #[] c s' r tm)
 size:w.heap.size<=w'.heap.size
 os:w'.os=w.os
 output:w'.output=w.output
section
variable [Payload] {D:mf} {ord:Nat->Nat} {res:Nat->Kz.V} {old:Nat->Option (Nat×List Kz.V)} {Ob:Nat} {o:aM} {w:ae} {L:Nat->Bool} {Fin:bH}
theorem rq{f:Rn}{cs:Array Value}{ty:TypeId}{fz:Nat×Nat}(h:∀j (hj:j<cs.size),val f cs[j]=cs[j]):obj f (.cells cs ty fz)=.cells cs ty fz:=by
 simp only[obj]
 congr 1
 apply iF
 ·simp
 ·intro j h1 h2;simpa using h j h2
theorem HU{w:ae}{b j:Nat}{v:Value}{cs:Array Value}{ty:TypeId}{fz:Nat×Nat}(h:w.cell? ⟨b,j,none⟩=some v)(hb:w.heap[b]?=some (.cells cs ty fz)):cs[j]?=some v:=by
 simpa[World.cell?,hb] using h
theorem tj{w:ae}{b j:Nat}{v:Value}{cs:Array Value}{ty:TypeId}{fz:Nat×Nat}{f:Rn}(h:w.cell? ⟨b,j,none⟩=some v)(hb:w.heap[b]?=some (.cells cs ty fz))(hj:j<cs.size)(hv:val f v=v):val f cs[j]=cs[j]:=by
 have:=HU h hb;rw[aG hj] at this;rw[aK this];exact hv
theorem NR{w:ae}{b t n:Nat}{g:Nat->Value}(h:w.rowIs b t n g)(hg:∀j,j<n->∀f,val f (g j)=g j):∃x,w.heap[b]?=some x/\eF x=false/\∀f,obj f x=x:=by
 obtain⟨c,hb,hn,hc⟩:=h;refine⟨_,hb,rfl,fun f=>rq fun j hj=>?_⟩;have:=hc j aa;rw[aG hj] at this;rw[aK this];exact hg j aa f
theorem QQ{S:Nat->Prop}{Wg H0 m0 T0:Nat}:jJ (pr D ord old S Wg H0 m0 T0) (Vd D ord res) (wS D ord old res):=by
 refine⟨fun k w w1 h1 h2=>?_,fun k o w w1 h1 h2 h3=>?_⟩
 ·exact⟨h2.1,(h1 _ ⟨h2.1,.inl ⟨2,aa,rfl⟩⟩).trans h2.2.1,(h1 _ ⟨h2.1,.inl ⟨3,aa,rfl⟩⟩).trans h2.2.2⟩
 ·exact⟨h3.1,mL.of h3.2 (fun j hj=>h1 _ ⟨h3.1,.inl ⟨j,hj,rfl⟩⟩) (h1 _ ⟨h3.1,.inr rfl⟩) fun b hb=>⟨hb,h2 b hb⟩⟩
theorem NT(hF:bE ar L o w)(h:mZ D ord res old Ob o w):bp ar (XB ar Fin 0) 74 #[.pointer (some ⟨D.bn,0,none⟩)] o w fun v o' w'=>v=.tuple #[]/\QP D res old o w o' w'/\bE ar L o' w':=by
 intro c cs hc;have fo:Tryz.f74.body=some (.seq _ (.seq _ (.seq (.seq _ (.block 0 (.loop _))) _))):=rfl;rw[ij func74 fo];refine fun XY=>(?_:XB ar Fin 0 o _ w) XY;have W:=bJ (P:=ar) (Fin:=Fin) (d:=0);have qh:(base 74).kind≠.early:=by simp[base]
 walk_nrmf Tryz.f74;refine W.go rfl (fun _=>ax) ?_;refine W.go rfl (fun _=>aV) ?_;refine dp ?_;refine xW rfl ai qh rfl (Obj.cells #[.pointer (some ⟨D.bn,0,none⟩)] 151) (fun n=>.pointer (some ⟨n,0,none⟩)) (fun w1=>fa) (fun w1=>fa) ?_;walk_nrm;refine W.go rfl (fun _=>ak) ?_;refine W.go rfl (fun _=>ax) ?_;refine W.go rfl (fun _=>aV) ?_;refine dp ?_;refine xW rfl ai qh rfl (Obj.cells #[.int .u64 0,.int .u32 0] 216) (fun n=>.pointer (some ⟨n,0,none⟩)) (fun w1=>fa) (fun w1=>fa) ?_;walk_nrm;refine W.go rfl (fun _=>ak) ?_;have pE:∀b,b<w.heap.size->((w.alloc (Obj.cells #[.pointer (some ⟨D.bn,0,none⟩)] 151)).alloc (Obj.cells #[.int .u64 0,.int .u32 0] 216)).heap[b]?=w.heap[b]?:=fun b hb=>by
  rw[RowKit.Below.heap_alloc _ _ b eR,RowKit.Below.heap_alloc _ _ b hb]
 have HQ:((w.alloc (Obj.cells #[.pointer (some ⟨D.bn,0,none⟩)] 151)).alloc (Obj.cells #[.int .u64 0,.int .u32 0] 216)).heap[w.heap.size]?=some (Obj.cells #[.pointer (some ⟨D.bn,0,none⟩)] 151):=by
  rw[RowKit.Below.heap_alloc _ _ _ an];show(w.heap.push _)[w.heap.size]?=_;simp
 have nU:((w.alloc (Obj.cells #[.pointer (some ⟨D.bn,0,none⟩)] 151)).alloc (Obj.cells #[.int .u64 0,.int .u32 0] 216)).heap[w.heap.size+1]?=some (Obj.cells #[.int .u64 0,.int .u32 0] 216):=by
  show((w.heap.push (Obj.cells #[.pointer (some ⟨D.bn,0,none⟩)] 151)).push _)[w.heap.size+1]?=_;rw[eZ,if_pos an]
 have A4:((w.alloc (Obj.cells #[.pointer (some ⟨D.bn,0,none⟩)] 151)).alloc (Obj.cells #[.int .u64 0,.int .u32 0] 216)).heap.size=w.heap.size+2:=an;have I8:(w.alloc (Obj.cells #[.pointer (some ⟨D.bn,0,none⟩)] 151)).heap.size=w.heap.size+1:=an;have WH:((w.alloc (Obj.cells #[.pointer (some ⟨D.bn,0,none⟩)] 151)).alloc (Obj.cells #[.int .u64 0,.int .u32 0] 216)).os=w.os/\((w.alloc (Obj.cells #[.pointer (some ⟨D.bn,0,none⟩)] 151)).alloc (Obj.cells #[.int .u64 0,.int .u32 0] 216)).output=w.output:=⟨rfl,rfl⟩;rw[I8];generalize (w.alloc (Obj.cells #[.pointer (some ⟨D.bn,0,none⟩)] 151)).alloc (Obj.cells #[.int .u64 0,.int .u32 0] 216)=w2 at *;clear I8;have bZ:∀b,o b->b<w.heap.size:=fun b hb=>hF.lt hb;have L5:¬o (w.heap.size+1):=fun hb=>by have:=bZ _ hb;omega
 have hoB:¬o w.heap.size:=fun hb=>by have:=bZ _ hb;omega
 intro Nt w3 nT;have e3:w3.heap=w2.heap:=by obtain⟨dd,rfl⟩:=nT;rfl
 have e3o:w3.os=w2.os/\w3.output=w2.output:=by obtain⟨dd,rfl⟩:=nT;exact⟨rfl,rfl⟩
 have NU:mZ D ord res old Ob o w3:=h.keep fun b hb=>by rw[e3];exact pE b (bZ b hb)
 have aff:DW Fin (fun b=>(o b\/b=w.heap.size)\/b=w.heap.size+1) w2=DW Fin o w:=by
  funext b;simp only[DW,eq_iff_iff,A4];constructor
  ·rintro⟨h1,h2,h5⟩;exact⟨eP fun h3=>h2 aa,fun h3=>h2 (.inl (.inl h3)),h5⟩
  ·rintro⟨h1,h2,h5⟩;exact⟨aa,fun h3=>by rcases h3 with(h3|h3)|h3<;>first|exact h2 h3|omega,h5⟩
 rw[aff];have hg:ar.globals.size<=w.heap.size+2:=by have:=hF.size;omega
 have XZ:∀m0 T0,0<m0->Setup D (pr D ord old (DW Fin o w) (w.heap.size+1) (w.heap.size+2) m0 T0) ord res old w.heap.size Ob w3:=fun m0 T0 hm =>
  Ky NU hm aa L5 (fun b hb=>⟨by have:=bZ b hb;omega,fun hx=>hx.2.1 hb⟩) (fun b hb=>⟨by have:=hb.1;omega,by have:=hb.1;omega⟩) aa aa (fun hx=>by have:=hx.1;omega) hoB hg (by simp[World.cell?,e3,HQ])
 refine BX.aaN fun m0 T0 hm=>⟨pr D ord old (DW Fin o w) (w.heap.size+1) (w.heap.size+2) m0 T0,Vd D ord res,wS D ord old res,
  fun o5 g5 w5=>∃tm wA,DX link (pr D ord old (DW Fin o w) (w.heap.size+1) (w.heap.size+2) m0 T0) wA ((base 74).at ⟨tm,[]⟩ (.inRegion #[{dst:=some 20,op:=.call {callee:=.value (.func 117),args:=#[.tmp 2],argTypes:=#[216]},type:=0,pos:= "build.go:82",after:=#[],guard:=none}] (0::[])::[])) (c::cs) o5 g5 w5,
  fun o5 g5 w5=>∃tm wA,Nu ar (pr D ord old (DW Fin o w) (w.heap.size+1) (w.heap.size+2) m0 T0) wA (G ((base 74).at ⟨tm,[]⟩ (.inRegion #[{dst:=some 20,op:=.call {callee:=.value (.func 117),args:=#[.tmp 2],argTypes:=#[216]},type:=0,pos:= "build.go:82",after:=#[],guard:=none}] []::[])) (c::cs)) o5 g5 w5,
  fun _=>False,rfl,rfl,(XZ m0 T0 hm).ok,QQ,?_,rfl,?_,?_,fun _ hb=>hb.elim,?_,?_,?_,?_,?_⟩
 ·show D.n<2147483648;have:=h.gT;omega
 ·rintro o5 g5 w5 ⟨tm,wA,hA⟩;exact(J9 yZ (XZ m0 T0 hm).ok g5 w5 hA).mono fun _ _ _=>OX.mono (fun o g w x=>⟨tm,wA,x⟩) (fun o g w x=>⟨_,wA,x⟩)
 ·have hS:=XZ m0 T0 hm;have hT:=hS.ok;show iC ar _ _ _ _ D.n _ _ w3;generalize hTm:pr D ord old (DW Fin o w) (w.heap.size+1) (w.heap.size+2) m0 T0=T at *;have hTn:T.n=D.n:=hS.n;have hTW:T.Wg=w.heap.size+1:=by rw[<- hTm];rfl
  have hTH:T.H0=w.heap.size+2:=by rw[<- hTm];rfl
  have hTy:T.ty=216:=hS.ty;have wT:WgLive T.ty T.Wg w3:=⟨0,0,by rw[hTy,hTW];show w3.heap[w.heap.size+1]?=_;rw[e3];exact nU⟩;obtain⟨Stop,HT⟩:∃Stop:dV,∀o5 g5 w5,cM ar T Stop o5 g5 w5↔iC ar T (Vd D ord res) (wS D ord old res) (fun o5 g5 w5=>∃tm wA,DX link T wA ((base 74).at ⟨tm,[]⟩ (.inRegion #[{dst:=some 20,op:=.call {callee:=.value (.func 117),args:=#[.tmp 2],argTypes:=#[216]},type:=0,pos:= "build.go:82",after:=#[],guard:=none}] (0::[])::[])) (c::cs) o5 g5 w5) D.n o5 g5 w5:=by
   cases D.n
   ·exact⟨_,fun _ _ _=>cG⟩
   ·exact⟨_,fun _ _ _=>cG⟩
  rw[<- HT];have W4:=mH (P:=ar) (T:=T) (Stop:=Stop);refine W4.go rfl (fun _=>ax) ?_;refine W4.go rfl (fun _=>ax) ?_;refine W4.go rfl (fun _=>aV) ?_;refine dp ?_;have c0:∀w5,dc T (fun _=>False) w3 w5->w5.cell? ⟨w.heap.size,0,none⟩=some (.pointer (some ⟨D.bn,0,none⟩)):=fun w5 r5=>by rw[hS.qB.cellS r5];exact hS.box
  have c1:∀w5,dc T (fun _=>False) w3 w5->w5.cell? ⟨D.bn,0,none⟩=some (.pointer (some ⟨D.Lb,D.Lo,none⟩)):=fun w5 r5=>by rw[hS.dk.Cx.cellS r5];exact hS.DI.b0
  have c2:∀w5,dc T (fun _=>False) w3 w5->w5.cell? ⟨D.Lb,D.Lo+1,none⟩=some (.slice (some ⟨Ob,0,none⟩) D.n D.n):=fun w5 r5=>by rw[hS.dk.XJ.cellS r5];exact hS.order
  (refine still_at W4 c0 rfl ai qh (fun w9 hc=>⟨.refl _ _,fun e he=>?_⟩) fun w9 hc K hK=>?_;(focus (rw[bS];have he:=mem_listed he;simp[go_sem, *] at he;subst he;exact tN hS.qB));go_simp;refine hK _ ?_;clear hK K;clear hc w9;try walk_nrm)
  refine gA ?_
  (refine still_at W4 c1 rfl ai qh (fun w9 hc=>⟨.refl _ _,fun e he=>?_⟩) fun w9 hc K hK=>?_;(focus (rw[bS];have he:=mem_listed he;simp[go_sem, *] at he;subst he;exact tN hS.dk.Cx));go_simp;refine hK _ ?_;clear hK K;clear hc w9;try walk_nrm)
  refine gA ?_
  (refine still_at W4 c2 rfl ai qh (fun w9 hc=>⟨.refl _ _,fun e he=>?_⟩) fun w9 hc K hK=>?_;(focus (rw[bS];have he:=mem_listed he;simp[go_sem, *] at he;subst he;exact tN hS.dk.XJ));go_simp;refine hK _ ?_;clear hK K;clear hc w9;try walk_nrm)
  refine gA ?_;refine W4.go rfl (fun _=>ak) ?_;refine W4.go rfl (fun _=>eB) ?_;refine W4.go rfl (fun _=>jj) ?_;rw[HT];refine HR hS fo (base 74) [] (c::cs) rfl qh (fun o5 w5 tm r5 l5 ho5 ft t2=>?_) D.n 0 hTn.symm _ w3 _ (dc.refl _) wT (fun _ hb=>hb.elim) (by rw[hTH,e3,A4];exact ag _) rfl rfl (by rw[hTW];rfl) rfl rfl rfl;have W5:=mH (P:=ar) (T:=T) (Stop:=OY ar T (fun o5 g5 w5=>∃tm wA,DX link T wA ((base 74).at ⟨tm,[]⟩ (.inRegion #[{dst:=some 20,op:=.call {callee:=.value (.func 117),args:=#[.tmp 2],argTypes:=#[216]},type:=0,pos:= "build.go:82",after:=#[],guard:=none}] (0::[])::[])) (c::cs) o5 g5 w5));obtain⟨gs,rfl⟩:=fA ft;simp only[List.range,List.range.loop,List.map_cons,List.map_nil] at *;simp only[List.getElem?_toArray,List.getElem?_cons_succ,List.getElem?_cons_zero,Option.some.injEq] at t2;simp only[t2];refine W5.go rfl (fun _=>aV) ?_;refine dp ?_;refine W5.go rfl (fun w1=>pj rfl ai qh rfl yZ.f_wait (nm_wait link) rfl w1) ?_;rw[ij yZ.f_wait rfl];simp only[List.map_toArray,List.map_cons,List.map_nil,Act.eval];walk_nrmf waitFn;have hA:=@Ka _ link ar T o5 w5;simp only[body_wait,waitFn,Option.getD_some] at hA;exact(hA yZ (fun b hb=>(ho5 b hb).1) w5 ⟨dc.refl w5,l5⟩).mono fun _ _ _=>OY.mono fun o g w x=>⟨_,w5,x⟩
 ·show w.heap.size+2<=w3.heap.size;rw[e3,A4];exact ag _
 ·show w3.heap[w.heap.size+1]?=_;rw[e3];exact nU
 ·exact fun k hk=>(NU.nZ _ (h.pI k hk)).2.2.2
 ·exact fun k hk kY=>NU.idle _ (h.pI k hk)
 ·rintro o5 g5 w5 ⟨tm,wA,-,n5,hgo⟩ aa3 hrel eH M8 uh;have alF:w.heap.size+2<=w5.heap.size:=by have:=hrel.size;rw[e3,A4] at this;exact this
  have hold:∀b,b<w.heap.size->b≠D.Rb->b≠D.Nb->(∀s,s<D.n->b≠D.ch s)->w5.heap[b]?=w.heap[b]?:=fun b h1 h2 h3 h4=>by
   rw[hrel.ro b (show b<w.heap.size+2 by omega) (show b≠w.heap.size+1 by omega) (fun e=>e.elim h2 h3) (fun k hk=>h4 _ (h.pI k hk)),e3,pE b h1]
  have cm:∀s,s<D.n->∃oi:Nat->Prop,mL D s (old s) (dA D res s) (res s) oi w5/\∀b,oi b->w.heap.size+2<=b/\b<w5.heap.size:=fun s hs=>by
   obtain⟨i,hi,rfl⟩:=h.XV s hs;obtain⟨-,oi,C,hv,ho⟩:=aa3 i hi;exact⟨_,hv.2,fun b hb=>ho b hb.1⟩
  have X0:∃cs,w5.heap[D.Rb]?=some (.cells cs 222 (0,0))/\cs.size=D.n*4:=by
   obtain⟨cs,k1,k2⟩:=NU.R0;obtain⟨c1,k3,k4⟩:=M8 D.Rb cs _ _ (.inl rfl) k1;exact⟨c1,k3,aa⟩
  have hN5:∃cs,w5.heap[D.Nb]?=some (.cells cs 4 (0,0))/\cs.size=D.n:=by
   obtain⟨cs,k1,k2⟩:=NU.N0;obtain⟨c1,k3,k4⟩:=M8 D.Nb cs _ _ (.inr rfl) k1;exact⟨c1,k3,aa⟩
  have aa4:∀s,s<D.n->∃c s' r tm,w5.heap[D.ch s]?=some (.chan 0 #[] c s' r tm):=fun s hs=>by
   obtain⟨i,hi,rfl⟩:=h.XV s hs;exact uh i hi
  let o':aM:=fun b=>o b\/∃s,s<D.n/\w.heap.size+2<=b/\b<w5.heap.size/\(∀B,old s≠some (B,dA D res s))/\eM w5 b (dA D res s)/\uQ D s w5 b (dA D res s) (res s);have QR:∀s,s<D.n->mL D s (old s) (dA D res s) (res s) (fun b=>o' b/\w.heap.size<=b) w5:=fun s hs=>by
   obtain⟨oi,hr,ho⟩:=cm s hs;rcases hr with⟨B,k1,k2,k3⟩|⟨k1,A,k2,k3,k4,k5⟩
   ·exact .inl ⟨B,k1,k2,k3⟩
   ·have:=ho A k2;exact .inr ⟨k1,A,⟨.inr ⟨s,hs,this.1,this.2,k1,k3,k4⟩,aa⟩,k3,k4,k5⟩
  have X1:QP D res old o w o' w5:={
   more:=fun b hb=>.inl hb
   new:=fun b hb=>hb.imp id fun⟨s,_,h1,_⟩=>aa
   same:=hold
   runs:=QR
   R0:=X0
   N0:=hN5
   nZ:=aa4
   size:=aa
   os:=by rw[hrel.os,e3o.1,WH.1]
   output:=by rw[hrel.output,e3o.2,WH.2]}
  have aa5:bE ar L o' w5:=by
   have up:∀f,(lR ar L o').has f->(lR ar L o).has f:=fun f hf=>⟨hf.inj,fun r hr=>hf.at_ r (.inl hr),hf.fn,hf.jF⟩;refine⟨fun b hb=>?_,fun b hb=>.inl (hF.jF b hb),by have:=hF.size;omega⟩;rcases hb with hb|⟨s,hs,h1,h2,_,h3,_⟩
   ·by_cases hbR:b=D.Rb
    ·subst hbR;obtain⟨cs5,k1,k2⟩:=X0;refine⟨_,k1,rfl,fun f hf=>rq fun j hj=>?_⟩;have hq:j/4<D.n:=aa;have hrw:∃B,uQ D (j/4) w5 B (dA D res (j/4)) (res (j/4))/\o' B:=by
      rcases QR _ hq with⟨B,m1,m2,-⟩|⟨-,A,m1,-,m2,-⟩
      ·exact⟨B,m2,.inl (h.still B (.inr (.inr (.inr (.inr (.inr (.inr (.inr (.inr ⟨_,_,hq,m1⟩))))))))).1⟩
      ·exact⟨A,m2,m1.1⟩
     obtain⟨B,m1,m2⟩:=hrw;have fy:j=j/4*4\/j=j/4*4+1\/j=j/4*4+2\/j=j/4*4+3:=aa;have hBf:f.b B=B:=hf.at_ B m2;have key:∀v,w5.cell? ⟨D.Rb,j,none⟩=some v->val f v=v->val f cs5[j]=cs5[j]:=fun v hv=>tj hv k1 hj;rcases fy with e|e|e|e
     ·exact key _ (by rw[e];exact m1.c0) an
     ·exact key _ (by rw[e];exact m1.c1) (by simp[val,addr,hBf])
     ·exact key _ (by rw[e];exact m1.c2) an
     ·exact key _ (by rw[e];exact m1.c3) an
    ·by_cases hbN:b=D.Nb
     ·subst hbN;obtain⟨cs5,k1,k2⟩:=hN5;refine⟨_,k1,rfl,fun f hf=>rq fun j hj=>?_⟩;have hq:j<D.n:=aa;rcases QR _ hq with⟨B,_,_,m2⟩|⟨_,A,_,_,_,m2⟩
      ·exact tj m2 k1 hj an
      ·exact tj m2 k1 hj an
     ·by_cases Y1:∃s,s<D.n/\b=D.ch s
      ·obtain⟨s,hs,rfl⟩:=Y1;obtain⟨c,s',r,tm,k1⟩:=aa4 s hs;exact⟨_,k1,rfl,fun f _=>by simp[obj]⟩
      ·rw[hold b (bZ b hb) hbR hbN fun s hs e=>Y1 ⟨s,hs,e⟩];obtain⟨x,k1,k2,k3⟩:=hF.shut b hb;exact⟨x,k1,k2,fun f hf=>k3 f (up f hf)⟩
   ·obtain⟨x,k1,k2,k3⟩:=NR h3 (fun j _ f=>uN _ j f);exact⟨x,k1,k2,fun f _=>k3 f⟩
  have hX:XB ar Fin 0 o' (G ((base 74).at ⟨tm,[]⟩ (.inRegion #[{dst:=some 20,op:=.call {callee:=.value (.func 117),args:=#[.tmp 2],argTypes:=#[216]},type:=0,pos:= "build.go:82",after:=#[],guard:=none}] []::[])) (c::cs)) w5:=by
   refine W.go rfl (fun _=>ak) ?_;refine W.go rfl (fun _=>dG) ?_;refine W.go rfl (fun w6=>stepG_leave (b:=base 74) (v:=.tuple #[]) rfl rfl func74 (results_none af _ _).1 (results_none af _ _).2) ?_;exact hc _ o' w5 ⟨rfl,X1,aa5⟩
  have hX':zF ar (Hd Fin w2) 0 (fun b=>DW Fin o w b\/b=w.heap.size+1) (G ((base 74).at ⟨tm,[]⟩ (.inRegion #[{dst:=some 20,op:=.call {callee:=.value (.func 117),args:=#[.tmp 2],argTypes:=#[216]},type:=0,pos:= "build.go:82",after:=#[],guard:=none}] []::[])) (c::cs)) w5:=fun w6 h6=>by
   have hX6:=hX (XY.up aa) w6 h6;rw[EW (w:=w2) ⟨by rw[hrel.os,e3o.1],by rw[hrel.output,e3o.2]⟩] at hX6;refine hX6.less (fun b hb=>?_) fun b hb hx=>?_
   ·rcases hb with hb|rfl
    ·exact⟨by have:=hb.1;omega,fun hx=>hx.elim hb.2.1 fun⟨s,_,h1,_⟩=>by have:=hb.1;omega,hb.2.2⟩
    ·exact⟨aa,fun hx=>hx.elim L5 fun⟨s,_,h1,_⟩=>aa,fun hl=>by have:=XY _ hl;omega⟩
   ·obtain⟨dd,rfl⟩:=h6;have h1:b<w5.heap.size:=hx.1;have h2:w5.heap.size<=b:=hb;omega
  exact(zF.iT hgo hX').bx
end
end
section
variable {Fin:bH} {o:aM} {w:ae}
theorem wU(w:ae)(a:Addr)(v:Value):(w.setCell a v).heap.size=w.heap.size:=by simp[World.setCell]
theorem HV(ad:Addr):∀x∈(#[⟨.cell ad,false,true⟩,⟨.cell ad,true,true⟩]:Array Event),x.sync=true/\(∀g,x.loc≠.mark (.extern g))/\x.loc≠.mark .disable/\x.loc≠.mark .enable:=by
 intro x hx;simp at hx;rcases hx with rfl|rfl<;>simp
theorem wV(ad:Addr)(b:Bool):∀x∈(#[⟨.cell ad,b,true⟩]:Array Event),x.sync=true/\(∀g,x.loc≠.mark (.extern g))/\x.loc≠.mark .disable/\x.loc≠.mark .enable:=by
 intro x hx;simp at hx;subst hx;simp
theorem T9(K off:Nat)(VV:o K)(hc:w.cell? ⟨K,off,none⟩=some (.int .i32 0))(hz:w.frozen? ⟨K,off,none⟩=false):
  bp ar (XB ar Fin 0) 78 #[.pointer (some ⟨K,off,none⟩)] o w fun v o' w'=>v=.tuple #[]/\o'=o/\w'=w.setCell ⟨K,off,none⟩ (.int .i32 1):=by
 intro c cs Js;have W0:=bJ (P:=ar) (Fin:=Fin) (d:=0);have W1:=bJ (P:=ar) (Fin:=Fin) (d:=1);have qh:(base 78).kind≠.early:=by simp[base]
 rw[ij func78 rfl];walk_nrmf Tryz.f78;refine W0.go rfl (fun _=>ax) ?_;refine W0.go rfl (fun _=>aV) ?_;refine dp ?_;refine wD .disable (.inl rfl) rfl ai qh rfl func120 af af af af rfl (d':=1) ai ?_;walk_nrm;refine W1.go rfl (fun _=>ak) ?_;refine W1.go rfl (fun _=>ax) ?_;refine W1.go rfl (fun _=>ax) ?_;refine W1.go rfl (fun _=>aV) ?_;refine dp ?_;refine gA ?_;refine xX rfl ai qh rfl func121 af af af (e:=Extern.Atomic.casT (.int .i32)) af (v:=.bool true) (t:=fun w=>w.setCell ⟨K,off,none⟩ (.int .i32 1)) (evs:=#[⟨.cell ⟨K,off,none⟩,false,true⟩,⟨.cell ⟨K,off,none⟩,true,true⟩]) rfl (fun n=>rfl) (wU _ _ _) (fun n=>?_) (fun n=>?_) (HV _) ?_
 ·simp only[List.map_toArray,List.map_cons,List.map_nil,Act.eval];walk_nrm;rw[casT_eq];exact run_cas_hit_entry hc hz
 ·simp only[List.map_toArray,List.map_cons,List.map_nil,Act.eval];walk_nrm;rw[casT_eq,events_cas_hit_entry (w:=w.at n) hc hz];rfl
 walk_nrm;refine W1.go rfl (fun _=>ak) ?_;refine W1.go rfl (fun _=>dI (t:=true) rfl) ?_;simp only[if_true];refine W1.go rfl (fun _=>ax) ?_;refine W1.go rfl (fun _=>dI (t:=true) rfl) ?_;simp only[if_true];refine W1.go rfl (fun _=>ax) ?_;refine W1.go rfl (fun _=>aV) ?_;refine dp ?_;refine wD .enable (.inr rfl) rfl ai qh rfl func122 af af af af rfl (d':=0) ai ?_;walk_nrm;refine W0.go rfl (fun _=>ak) ?_;refine W0.go rfl (fun _=>aV) ?_;refine dp ?_;refine gA ?_;have Zf:(w.setCell ⟨K,off,none⟩ (.int .i32 1)).cell? ⟨K,off,none⟩=some (.int .i32 1):=World.cell?_setCell_same _ _ _ hc;have hcv:=fun n=>run_convert_to_unsafe (P:=ar) (w:=(w.setCell ⟨K,off,none⟩ (.int .i32 1)).at n) underlying225 underlying116 af Zf;have hce:=fun n es=>events_convert_to_unsafe (P:=ar) (w:=(w.setCell ⟨K,off,none⟩ (.int .i32 1)).at n) underlying225 underlying116 af Zf es;refine wE rfl ai qh (v:=.pointer (some ⟨K,off,none⟩)) rfl (fun n=>by simp[go_sem,hcv n]) (fun n x hx=>by simp[go_sem,hce n] at hx) ?_;walk_nrm;refine Bj .acquire (fun ad=>.inl ⟨ad,rfl⟩) rfl ai qh rfl func123 af af af af (ad:=⟨K,off,none⟩) aC rfl ?_;walk_nrm;refine W0.go rfl (fun _=>ak) ?_;refine W0.go rfl (fun _=>stepG_ret') ?_;refine W0.go rfl (fun w6=>stepG_leave (b:=base 78) (v:=.tuple #[]) rfl rfl func78 (results_none af _ _).1 (results_none af _ _).2) ?_;exact Js _ o _ ⟨rfl,rfl,rfl⟩
theorem yf(K off:Nat)(VV:o K)(hc:w.cell? ⟨K,off,none⟩=some (.int .i32 0))(hz:w.frozen? ⟨K,off,none⟩=false):
  bp ar (XB ar Fin 0) 45 #[.pointer (some ⟨K,off,none⟩)] o w fun v o' w'=>v=.tuple #[]/\o'=o/\w'=w.setCell ⟨K,off,none⟩ (.int .i32 1):=by
 have W0:=bJ (P:=ar) (Fin:=Fin) (d:=0);refine bA W0 func45 rfl ?_;walk_nrmf Tryz.f45;refine aA ?_;refine aF W0 rfl ai rfl func78 af rfl aC rfl ((T9 K off VV hc hz).mono ?_);rintro v o' w' ⟨rfl,rfl,rfl⟩;refine aA ?_;exact⟨.inl trivial,trivial,.tuple #[],fun w1=>results_none af _ _,an⟩
theorem NV(K off:Nat)(VV:o K)(hc:w.cell? ⟨K,off,none⟩=some (.int .i32 1))(hz:w.frozen? ⟨K,off,none⟩=false):
  bp ar (XB ar Fin 0) 79 #[.pointer (some ⟨K,off,none⟩)] o w fun v o' w'=>v=.tuple #[]/\o'=o/\w'=w.setCell ⟨K,off,none⟩ (.int .i32 0):=by
 intro c cs Js;have W0:=bJ (P:=ar) (Fin:=Fin) (d:=0);have W1:=bJ (P:=ar) (Fin:=Fin) (d:=1);have qh:(base 79).kind≠.early:=by simp[base]
 rw[ij func79 rfl];walk_nrmf Tryz.f79;have hcv:=fun n=>run_convert_to_unsafe (P:=ar) (w:=w.at n) underlying225 underlying116 af hc;have hce:=fun n es=>events_convert_to_unsafe (P:=ar) (w:=w.at n) underlying225 underlying116 af hc es;have sd:∀n,(w.at n).cell? ⟨K,off,none⟩=some (.int .i32 1):=fun n=>hc;refine W0.go rfl (fun _=>ax) ?_;refine W0.go rfl (fun _=>dI (t:=true) rfl) ?_;simp only[if_true];refine W0.go rfl (fun _=>ax) ?_;refine W0.go rfl (fun _=>aV) ?_;refine dp ?_;refine gA ?_;refine wE rfl ai qh (v:=.int .i32 1) rfl (fun n=>by simp[go_sem,sd n]) (fun n x hx=>by simp[go_sem,sd n] at hx;subst hx;exact⟨zY VV,an,an⟩) ?_;walk_nrm;refine W0.go rfl (fun _=>ak) ?_;refine W0.go rfl (fun _=>ax) ?_;refine W0.go rfl (fun _=>aV) ?_;refine dp ?_;refine gA ?_;refine wE rfl ai qh (v:=.pointer (some ⟨K,off,none⟩)) rfl (fun n=>by simp[go_sem,hcv n]) (fun n x hx=>by simp[go_sem,hce n] at hx) ?_;walk_nrm;refine Bj .releaseMerge (fun ad=>.inr ⟨ad,rfl⟩) rfl ai qh rfl func125 af af af af (ad:=⟨K,off,none⟩) aC rfl ?_;walk_nrm;refine W0.go rfl (fun _=>ak) ?_;refine W0.go rfl (fun _=>aV) ?_;refine dp ?_;refine wD .disable (.inl rfl) rfl ai qh rfl func120 af af af af rfl (d':=1) ai ?_;walk_nrm;refine W1.go rfl (fun _=>ak) ?_;refine W1.go rfl (fun _=>ax) ?_;refine W1.go rfl (fun _=>aV) ?_;refine dp ?_;refine gA ?_;refine xX rfl ai qh rfl func126 af af af (e:=Extern.Atomic.update (Op.intArith .add) .i32 true) af (v:=.int .i32 0) (t:=fun w=>w.setCell ⟨K,off,none⟩ (.int .i32 0)) (evs:=#[⟨.cell ⟨K,off,none⟩,false,true⟩,⟨.cell ⟨K,off,none⟩,true,true⟩]) rfl (fun n=>rfl) (wU _ _ _) (fun n=>?_) (fun n=>?_) (HV _) ?_
 ·simp only[List.map_toArray,List.map_cons,List.map_nil,Act.eval];walk_nrm;exact run_add_entry (v:=1) (d:=-1) hc hz
 ·simp only[List.map_toArray,List.map_cons,List.map_nil,Act.eval];walk_nrm;rw[events_add_entry (w:=w.at n) (v:=1) (d:=-1) hc hz];rfl
 walk_nrm;refine gA ?_;refine W1.go rfl (fun _=>ak) ?_;refine W1.go rfl (fun _=>ax) ?_;refine W1.go rfl (fun _=>ax) ?_;refine W1.go rfl (fun _=>aV) ?_;refine dp ?_;refine gA ?_;refine W1.go rfl (fun _=>ak) ?_;refine W1.go rfl (fun _=>dI (t:=false) aC) ?_;simp only[Bool.false_eq_true,if_false];refine W1.go rfl (fun _=>bY) ?_;refine W1.go rfl (fun _=>aV) ?_;refine dp ?_;refine wD .enable (.inr rfl) rfl ai qh rfl func122 af af af af rfl (d':=0) ai ?_;walk_nrm;refine W0.go rfl (fun _=>ak) ?_;refine W0.go rfl (fun _=>dG) ?_;refine W0.go rfl (fun w6=>stepG_leave (b:=base 79) (v:=.tuple #[]) rfl rfl func79 (results_none af _ _).1 (results_none af _ _).2) ?_;exact Js _ o _ ⟨rfl,rfl,rfl⟩
theorem HW(K off:Nat)(VV:o K)(hc:w.cell? ⟨K,off,none⟩=some (.int .i32 1))(hz:w.frozen? ⟨K,off,none⟩=false)(b:Frame)(tm:Array Value)(ds:List Deferred)(todo:List Item)(cs:List Frame)(h:XB ar Fin 0 o (G {b.at ⟨tm,ds⟩ todo with mode:=.returning} cs) (w.setCell ⟨K,off,none⟩ (.int .i32 0))):
  XB ar Fin 0 o (G {b.at ⟨tm,{target:=.fn (.func 46) #[],args:=#[.pointer (some ⟨K,off,none⟩)]}::ds⟩ todo with mode:=.returning} cs) w:=by
 have W0:=bJ (P:=ar) (Fin:=Fin) (d:=0);have qh:(baseD 46).kind≠.early:=by simp[baseD]
 refine W0.go rfl (fun w1=>stepG_unwind_enter rfl func46 af rfl) ?_;walk_nrmf Tryz.f46;refine W0.go rfl (fun _=>aV) ?_;refine dp ?_;refine gA ?_;refine W0.go rfl (fun w1=>pj rfl ai qh rfl func79 af rfl w1) ?_;simp only[List.map_toArray,List.map_cons,List.map_nil,Act.eval];walk_nrm;refine NV K off VV hc hz _ _ ?_;rintro v o' w' ⟨rfl,rfl,rfl⟩;rw[dF];simp only[List.getElem?_toArray,List.getElem?_cons_succ,List.getElem?_cons_zero,Option.bind_some];walk_nrm;refine W0.go rfl (fun _=>ak) ?_;refine W0.go rfl (fun _=>dG) ?_;exact W0.go rfl (fun w1=>stepG_leave_deferred rfl rfl func46 (results_none af _ _).1 (results_none af _ _).2 rfl) h
end
def L0(n:Nat):Bool:=[15,17,18,19,20,22,26,27,29,31,33,35,39,40,41,43,47,48,50,51,52,53,56,59,60,62,66,67,68,69,70,71,72,75,76,77,80,82,83,84,85,86,87,88,89,90,91,92,93,94,95,96,97,98,100,102,103,104,105,106,107,108,109,118,119,128,129,130,131,132,133,134,135,136,137,138,139,140,141,145,146,147,148,149,150,162,163,168,176,177,178,179,180,181,185,186,187,188,189,190,191,196,197,198,199,202,204,205,206,207,208,209,210,211,212,213,214,215,216,217,218,219,220,221,222,223,224,225,226,227,228,229,230,231,232,233,234,235,236,237,238,239,240,241,242,243,244,245,246,247,248,249,250,251,252,253,254,255,256,257,258,259,260,261,262,263].contains n
theorem QS:([15,17,18,19,20,22,26,27,29,31,33,35,39,40,41,43,47,48,50,51,52,53,56,59,60,62,66,67,68,69,70,71,72,75,76,77,80,82,83,84,85,86,87,88,89,90,91,92,93,94,95,96,97,98,100,102,103,104,105,106,107,108,109,118,119,128,129,130,131,132,133,134,135,136,137,138,139,140,141,145,146,147,148,149,150,162,163,168,176,177,178,179,180,181,185,186,187,188,189,190,191,196,197,198,199,202,204,205,206,207,208,209,210,211,212,213,214,215,216,217,218,219,220,221,222,223,224,225,226,227,228,229,230,231,232,233,234,235,236,237,238,239,240,241,242,243,244,245,246,247,248,249,250,251,252,253,254,255,256,257,258,259,260,261,262,263]:List Nat).all (TG ar L0 4 [224,262,263])=true:=af
theorem Ua(n:Nat)(hn:L0 n=true)(f:Rn)(hf:mC ar f)(hh:∀n,L0 n=true->f.h n=n)(args:Array Value):Rel ar f (iI L0 f) (callFunc n args) (callFunc n (args.map (val f))):=by
 obtain⟨fn,h1,-,h2⟩:=Af QS (List.contains_iff_mem.1 (by unfold L0 at hn;exact hn));rcases h2 with⟨h2,h3⟩|h2;rotate_left;simp only[List.mem_cons,List.not_mem_nil,or_false] at h2;rcases h2 with rfl|rfl|rfl
 rotate_right
 ·exact DF h1 h2 h3 hn args
 ·exact nn func224 rfl af af rfl (hh _ af) args (GN _)
 ·exact nn func262 rfl af af rfl (hh _ af) args (we _)
 ·exact nn func263 rfl af af rfl (hh _ af) args (sM hf _ _ _)
theorem X2(hz:∀t i z,ar.info? t=some i->i.zero=some z->∀f:Rn,val f z=z):qf ar L0 4 where
 zero:=hz
 call:=fun n hn=>Ua n hn
 body:=fun n hn=>by
  obtain⟨fn,h1,h2,-⟩:=Af QS (List.contains_iff_mem.1 (by unfold L0 at hn;exact hn));exact⟨fn,h1,fun c hc=>by rw[hc] at h2;exact h2⟩
theorem QT:ar.globals.size=4:=af
theorem aX:qf ar L0 ar.globals.size:=by rw[QT];exact X2 D5
structure aL where
 out:ah
 eD:Int
 sa:Option Addr
 sl:Nat
 sc:Nat
def aL.cells(r:aL):List Value:=[.string r.out,.int .i64 r.eD,Value.slice r.sa r.sl r.sc]
def aL.agg(r:aL):Value:=.agg #[.string r.out,.int .i64 r.eD,Value.slice r.sa r.sl r.sc]
def dX(w:ae)(b:Nat)(rs:List aL):Prop:=∀i (h:i<rs.length),w.cell? ⟨b,i*3,none⟩=some (.string rs[i].out)/\w.cell? ⟨b,i*3+1,none⟩=some (.int .i64 rs[i].eD)/\w.cell? ⟨b,i*3+2,none⟩=some (.slice rs[i].sa rs[i].sl rs[i].sc)
section
variable {Fin:bH} {o:aM} {w:ae}
theorem BF:(ar.info? 42).map (fun i=>(i.zero,i.size,i.bytes))=some (some (.agg #[.string aN,.int .i64 0,.slice none 0 0]),3,48):=af
theorem grow_grow{o:aM}{w w1 w3 w4:ae}(h1:w.heap.size<=w1.heap.size)(h2:w3.heap.size=w1.heap.size)(h3:w3.heap.size<=w4.heap.size):grow (grow o w w1) w3 w4=grow o w w4:=by
 funext b;simp only[grow,eq_iff_iff];constructor
 ·rintro((h|h)|h)
  ·exact .inl h
  ·exact .inr aa
  ·exact .inr aa
 ·rintro(h|h)
  ·exact .inl (.inl h)
  ·by_cases hb:b<w1.heap.size
   ·exact .inl (.inr aa)
   ·exact .inr aa
theorem cQ{w w':ae}{lo:Nat}{e:TypeId}{sz:Nat}{v:Value}{n:Nat}{xs:List Value}(h:w.ownsRow lo e sz v n xs)(hh:∀g,some g=v.ownBlock->lo<=g->w'.heap[g]?=w.heap[g]?):w'.ownsRow lo e sz v n xs:=by
 obtain⟨h1,h2⟩:=h;refine⟨h1,h2.imp id ?_⟩;rintro⟨g,cap,cur,rfl,k1,k2,k3⟩;exact⟨g,cap,cur,rfl,k1,by rw[hh g rfl k1];exact k2,k3⟩
theorem gm{P:Program}{o:Oper}{a:Act}{w w':ae}{v xv v':Value}(s x:Operand)(t:TypeId)(ho:o.op=.call {callee:=.builtin .append,args:=#[s,x],argTypes:=#[t,t]})(hs:a.eval s=v)(hx:a.eval x=xv)(hr:(Builtin.append_ #[t,t] o.type #[v,xv]).run P w=.ok v' w'):(execOp a.eval o).run P w=.ok (.value v') w':=by
 unfold execOp;simp only[ho,resolve,invoke,builtin,Sem.run_bind,Sem.run_pure,Result.andThen_ok,List.map_toArray,List.map_cons,List.map_nil,hs,hx,hr]
structure Round(w w':ae)(Bx l lo i:Nat)(v v':Value)(xs:List Value)(r:aL)(lr:Loop):Prop where
 size:w.heap.size<=w'.heap.size
 old:∀b,b<w.heap.size->b≠Bx->b≠l->some b≠v.ownBlock->w'.heap[b]?=w.heap[b]?
 box:w'.heap[Bx]?=some (.cells #[v'] 35 (0,0))
 Ub:w'.heap[l]?=some (.loop {lr with state:=.ready,pending:=none})
 row:w'.ownsRow lo 42 3 v' (i+1) (xs++r.cells)
theorem Uc(hF:bE ar L0 o w)(Bx l lo i:Nat)(v:Value)(xs:List Value)(r:aL)(lr:Loop)(hi:i<8)(hBx:o Bx)(hl:o l)(cV:Bx≠l)(hb:w.heap[Bx]?=some (.cells #[v] 35 (0,0)))(QI:w.heap[l]?=some (.loop lr))(dW:lr.state=.ready)(uL:lo<=w.heap.size)(hBb:Bx<lo)(hlb:l<lo)(eH:∀b,lo<=b->b<w.heap.size->o b)(b6:w.ownsRow lo 42 3 v i xs)(eY:Cl ar L0 o (.slice r.sa r.sl r.sc)){r0 r1 tl Nv bd:Code}{x:Operand}{ps:Array Tmp}(fo:Tryz.f203.body=some (.seq r0 (.seq (.seq r1 (.block 0 (.rangeFunc x ps Nv bd))) tl)))(tm:Array Value)(ft:tm.size=13)(t2:tm[2]?=some (.pointer (some ⟨Bx,0,none⟩)))(t7:tm[7]?=some r.agg)(c:Frame)(cs:List Frame)(h:∀v' w',Round w w' Bx l lo i v v' xs r lr->bE ar L0 (grow o w w') w'->XB ar Fin 0 (grow o w w') (G (c.finish (.bool true)) cs) w'):
  XB ar Fin 0 o (G (Frame.round l 203 tm Nv bd .normal) (c::cs)) w:=by
 have TY:=fo;simp only[Tryz.f203,Option.some.injEq,Code.seq.injEq,Code.block.injEq,Code.rangeFunc.injEq,true_and] at TY;obtain⟨-,⟨-,-,-,rfl,rfl⟩,-⟩:=TY;have W:=bJ (P:=ar) (Fin:=Fin) (d:=0);obtain⟨gs,rfl⟩:=fA ft;simp only[List.range,List.range.loop,List.map_cons,List.map_nil] at *;simp only[List.getElem?_toArray,List.getElem?_cons_succ,List.getElem?_cons_zero,Option.some.injEq] at t2 t7;simp only[t2,t7];rw[round_eq];have qZ:∀{x:Op},(∀c,x≠.defer c)->∀c,x≠.defer c:=fun h=>h;refine W.go rfl (fun _=>wF) ?_;refine dp ?_;refine zZ aX hF rfl (fun w1 v w' hr=>nC rfl ai an hr rfl) ai kp (R:=fun wl v aI=>v=.pointer (some ⟨wl.heap.size,0,none⟩)/\aI=wl.alloc (Obj.cells #[.string aN,.int .i64 0,.slice none 0 0] 42)) (fun wl aE=>⟨_,_,by simp[go_sem];rfl,rfl,rfl⟩) fun wl v1 aI w1 aE hR ba=>?_;obtain⟨rfl,hR⟩:=hR;obtain⟨z1,k1,k2⟩:=ba.alloc hF aE hR;have mw:=ba.ay;rw[aE.size];clear hR ba aE wl aI;walk_nrm;have NW:grow o w w1 w.heap.size:=.inr ⟨ag _,aa⟩;have Ud:Cl ar L0 (grow o w w1) r.agg:=cJ (vs:=[.string r.out,.int .i64 r.eD,Value.slice r.sa r.sl r.sc]) (by
  intro y hy;simp at hy;rcases hy with rfl|rfl|rfl
  ·exact bf
  ·exact bN
  ·exact eY.up iK)
 have bZ:∀b,o b->b<w.heap.size:=fun b hb=>hF.lt hb;have aa7:=bZ Bx hBx;have afi:=bZ l hl;refine Bm aX mw rfl (fun w1 w' hr=>Bo rfl ai an hr rfl) ai ?_ (R:=fun wl aI=>aI=((wl.setCell ⟨w.heap.size,0,none⟩ (.string r.out)).setCell ⟨w.heap.size,1,none⟩ (.int .i64 r.eD)).setCell ⟨w.heap.size,2,none⟩ (Value.slice r.sa r.sl r.sc)) (fun wl aE=>?_) fun wl aI w2 aE hR ba=>?_
 ·intro y hy;simp[Op.operands] at hy;rcases hy with rfl|rfl
  ·exact aH NW
  ·simp[Act.eval];exact Ud
 ·have hx:wl.heap[w.heap.size]?=some (Obj.cells #[.string aN,.int .i64 0,.slice none 0 0] 42):=(aE.heap _ NW).trans k2;refine⟨_,?_,rfl⟩;have c0:wl.cell? ⟨w.heap.size,0,none⟩=some (.string aN):=by simp[World.cell?,hx]
  have c1:wl.cell? ⟨w.heap.size,1,none⟩=some (.int .i64 0):=by simp[World.cell?,hx]
  have c2:wl.cell? ⟨w.heap.size,2,none⟩=some (.slice none 0 0):=by simp[World.cell?,hx]
  have f:∀j,wl.frozen? ⟨w.heap.size,j,none⟩=false:=fun j=>by simp[World.frozen?,hx]
  simp[go_sem,aL.agg,c0,c1,c2,f]
 obtain⟨z2,m1,m2,e2⟩:=ba.store aE NW (by rw[hR];simp[World.setCell]) (fun b hb=>by rw[hR,RowKit.Below.heap_setCell _ _ _ b hb,RowKit.Below.heap_setCell _ _ _ b hb,RowKit.Below.heap_setCell _ _ _ b hb]);have m2':w2.heap[w.heap.size]?=some (Obj.cells #[.string r.out,.int .i64 r.eD,Value.slice r.sa r.sl r.sc] 42):=by
  have hx:wl.heap[w.heap.size]?=some (Obj.cells #[.string aN,.int .i64 0,.slice none 0 0] 42):=(aE.heap _ NW).trans k2;rw[m2,hR];simp[World.setCell,Array.getElem?_modify,hx]
 have rh:=ba.ay;rw[e2] at rh |-;clear hR ba aE wl aI m2;walk_nrm;refine W.go rfl (fun _=>qp) ?_;have L6:w2.heap[l]?=some (.loop lr):=by rw[m1 l aa,k1 l afi];exact QI
 have pE:w2.heap[Bx]?=some (.cells #[v] 35 (0,0)):=by rw[m1 Bx aa,k1 Bx aa7];exact hb
 refine qq (t:=fun w=>cX w l {lr with state:=.busy}) (l:=l) rfl (fun n=>Hm (w:=w2.at n) L6 dW) (by simp[cX]) ?_;have qu:bE ar L0 (grow o w w1) (cX w2 l {lr with state:=.busy}):=oB rh rfl (fun f=>by simp[obj]) (.inl hl);have aa8:(cX w2 l {lr with state:=.busy}).heap[l]?=some (.loop {lr with state:=.busy}):=by
  simp only[cX];rw[bR aa]
 have m3:∀b,b≠l->(cX w2 l {lr with state:=.busy}).heap[b]?=w2.heap[b]?:=fun b hb=>by simp only[cX];rw[aJ (bc hb)]
 have z3:(cX w2 l {lr with state:=.busy}).heap.size=w2.heap.size:=by simp[cX]
 generalize cX w2 l {lr with state:=.busy}=w3 at *;refine W.go rfl (fun _=>Hl) ?_;refine W.go rfl (fun _=>wF) ?_;refine dp ?_;have hoB:grow o w w1 Bx:=.inl hBx;have vE:w3.heap[Bx]?=some (.cells #[v] 35 (0,0)):=(m3 Bx cV).trans pE;have C2:w3.heap[w.heap.size]?=some (Obj.cells #[.string r.out,.int .i64 r.eD,.slice r.sa r.sl r.sc] 42):=(m3 _ aa).trans m2';refine xZ aX qu rfl (fun w1 v w' hr=>nC rfl ai an hr rfl) ai (v:=v) ?_ (fun wl aE=>?_) fun Ue=>?_
 ·intro y hy;simp[Op.operands] at hy;subst hy;exact aH hoB
 ·have hx:=(aE.heap _ hoB).trans vE;have c0:wl.cell? ⟨Bx,0,none⟩=some v:=by simp[World.cell?,hx]
  simp[go_sem,c0]
 walk_nrm;refine xZ aX qu rfl (fun w1 v w' hr=>nC rfl ai an hr rfl) ai (v:=r.agg) ?_ (fun wl aE=>?_) fun _=>?_
 ·intro y hy;simp[Op.operands] at hy;subst hy;exact aH NW
 ·have hx:=(aE.heap _ NW).trans C2;have c0:wl.cell? ⟨w.heap.size,0,none⟩=some (.string r.out):=by simp[World.cell?,hx]
  have c1:wl.cell? ⟨w.heap.size,1,none⟩=some (.int .i64 r.eD):=by simp[World.cell?,hx]
  have c2:wl.cell? ⟨w.heap.size,2,none⟩=some (.slice r.sa r.sl r.sc):=by simp[World.cell?,hx]
  simp[go_sem,c0,c1,c2,aL.agg]
 walk_nrm;have alJ:bE ar L0 (grow o w w1) w3:=qu;refine zZ aX qu rfl (fun w1 v w' hr=>nC rfl ai an hr rfl) ai ?_ (R:=fun wl v aI=>v=.slice (some ⟨wl.heap.size,0,none⟩) 1 1/\aI=wl.alloc (Obj.cells #[.string r.out,.int .i64 r.eD,.slice r.sa r.sl r.sc] 42)) (fun wl aE=>⟨_,_,?_,rfl,rfl⟩) fun wl v1 aI w4 aE hR ba=>?_
 ·intro y hy;simp[Op.operands] at hy;subst hy;simp[Act.eval];exact Ud
 ·simp[go_sem,aL.agg]
 obtain⟨rfl,hR⟩:=hR;obtain⟨z4,n1,n2⟩:=ba.alloc qu aE hR;have D9:=ba.ay;rw[aE.size];clear hR ba aE wl aI;walk_nrm;have g4:grow (grow o w w1) w3 w4=grow o w w4:=grow_grow aa aa aa;rw[g4] at D9 |-;have hw4:w.heap.size<=w4.heap.size:=aa;have QU:∀b,b<w.heap.size->b≠l->w4.heap[b]?=w.heap[b]?:=fun b hb Uf=>by rw[n1 b aa,m3 b Uf,m1 b aa,k1 b hb]
 have LY:w4.ownsRow lo 42 3 v i xs:=cQ b6 fun g hg QV=>by
  obtain⟨hlen,fy⟩:=b6;rcases fy with⟨rfl,_⟩|⟨g',cap,cur,rfl,h1,h2,_⟩
  ·cases hg
  ·cases hg;exact QU _ (Array.getElem?_eq_some_iff.1 h2).1 aa
 have aa9:Cl ar L0 (grow o w w4) v:=by rw[<- g4];exact Ue.up iK
 have hoN:grow o w w4 w3.heap.size:=.inr ⟨aa,aa⟩;have aba:∀g,some g=v.ownBlock->grow o w w4 g:=fun g hg=>by
  obtain⟨hlen,fy⟩:=b6;rcases fy with⟨rfl,_⟩|⟨g',cap,cur,rfl,h1,h2,_⟩
  ·cases hg
  ·cases hg;exact .inl (eH _ h1 (Array.getElem?_eq_some_iff.1 h2).1)
 obtain⟨ie,hie,Ug⟩:=Option.map_eq_some_iff.1 BF;simp only[Prod.mk.injEq] at Ug;refine zZ aX D9 rfl (fun w1 v w' hr=>nC rfl ai an hr rfl) ai ?_ (R:=fun wl v' aI=>aI.ownsRow lo 42 3 v' (i+1) (xs++r.cells)/\wl.grownBy aI v.ownBlock) (fun wl aE=>?_) fun wl v5 aI w5 aE hR ba=>?_
 ·intro y hy;simp[Op.operands,Call.operands] at hy;rcases hy with rfl|rfl
  ·simp[Act.eval];exact aa9
  ·simp[Act.eval];exact di hoN
 ·have hx:=(aE.heap _ hoN).trans n2;have VW:wl.ownsRow lo 42 3 v i xs:=cQ LY fun g hg _=>aE.heap g (aba g hg);have HX:∀j u,r.cells[j]?=some u->wl.cell? ((⟨w3.heap.size,0,none⟩:Addr).add j)=some u:=fun j u hu=>by
   rcases(show j=0\/j=1\/j=2\/3<=j by omega) with rfl|rfl|rfl|hj
   ·simp[aL.cells] at hu;subst hu;simp[Addr.add,World.cell?,hx]
   ·simp[aL.cells] at hu;subst hu;simp[Addr.add,World.cell?,hx]
   ·simp[aL.cells] at hu;subst hu;simp[Addr.add,World.cell?,hx]
   ·rw[List.getElem?_eq_none (by simp[aL.cells];omega)] at hu;cases hu
  have abb:∀u∈r.cells,u.oneCell'=true:=by
   intro u hu;simp[aL.cells] at hu;rcases hu with rfl|rfl|rfl<;>rfl
  obtain⟨v',aI,e1,e2,e3,_⟩:=run_append_own wl lo 35 35 42 ie _ 3 48 underlying35 hie Ug.1 Ug.2.1 Ug.2.2 rfl aa v i xs VW ⟨w3.heap.size,0,none⟩ 1 1 r.cells rfl HX abb (by simp[maxLen];omega) aa (by rw[aE.size];omega);exact⟨v',aI,gm (.tmp 8) (.tmp 10) 35 rfl aC aC e1,e2,e3⟩
 have g5:grow (grow o w w4) w4 w5=grow o w w5:=grow_grow hw4 rfl ba.gO;have SQ:=ba.ay;have hs5:=ba.same;have SP:=ba.rest;have z5:=ba.gO;rw[g5] at SQ hs5 |-;obtain⟨wQ,CS⟩:=hR;have abd:∀b,b<w.heap.size->b≠l->some b≠v.ownBlock->w5.heap[b]?=w.heap[b]?:=fun b hb Uf X3=>by
  rw[<- QU b hb Uf];by_cases ho:grow o w w4 b
  ·rw[hs5 b (ho.imp id fun h=>⟨h.1,aa⟩),CS.block b (by rw[aE.size];omega) X3,aE.heap b ho]
  ·exact SP b aa ho
 have hvl:∀g,some g=v.ownBlock->lo<=g:=fun g hg=>by
  obtain⟨hlen,fy⟩:=b6;rcases fy with⟨rfl,_⟩|⟨g',cap,cur,rfl,h1,h2,_⟩
  ·cases hg
  ·cases hg;exact h1
 have QW:w5.ownsRow lo 42 3 v5 (i+1) (xs++r.cells):=cQ wQ fun g hg QV=>hs5 g (by
  obtain⟨hlen,fy⟩:=wQ;rcases fy with⟨rfl,_⟩|⟨g',cap,cur,rfl,h1,h2,_⟩
  ·cases hg
  ·have e:g=g':=aK hg;subst e;have h3:=(Array.getElem?_eq_some_iff.1 h2).1;have hz:=ba.size;by_cases hgw:g<w.heap.size
   ·exact .inl (eH _ h1 hgw)
   ·exact .inr ⟨aa,aa⟩)
 have afk:w5.heap[l]?=w3.heap[l]?:=by
  rw[hs5 l (.inl hl),CS.block l (by rw[aE.size];omega) (fun e=>by have:=hvl l e;omega),aE.heap l (.inl hl),n1 l aa]
 have afl:Cl ar L0 (grow o w w5) v5:=by have:=ba.val;rw[g5] at this;exact this
 have hb5:w5.heap[Bx]?=some (.cells #[v] 35 (0,0)):=by rw[abd Bx aa7 cV (fun e=>by have:=hvl Bx e;omega)];exact hb
 clear CS wQ aE ba wl aI hs5 SP g5 g4;walk_nrm;have Uh:grow o w w5 Bx:=.inl hBx;refine Bm aX SQ rfl (fun w1 w' hr=>Bo rfl ai an hr rfl) ai ?_ (R:=fun wl aI=>aI=wl.setCell ⟨Bx,0,none⟩ v5) (fun wl aE=>⟨_,?_,rfl⟩) fun wl aI w6 aE hR ba=>?_
 ·intro y hy;simp[Op.operands] at hy;rcases hy with rfl|rfl
  ·exact aH Uh
  ·simp[Act.eval];exact afl
 ·have hx:=(aE.heap _ Uh).trans hb5;have c0:wl.cell? ⟨Bx,0,none⟩=some v:=by simp[World.cell?,hx]
  have f:∀j,wl.frozen? ⟨Bx,j,none⟩=false:=fun j=>by simp[World.frozen?,hx]
  obtain⟨hlen,fy⟩:=QW;rcases fy with⟨rfl,_⟩|⟨g',cap,cur,rfl,h1,h2,_⟩
  ·simp[go_sem,c0,f]
  ·simp[go_sem,c0,f]
 obtain⟨z6,q1,q2,e6⟩:=ba.store aE Uh (by rw[hR];simp[World.setCell]) (fun b hb=>by rw[hR,RowKit.Below.heap_setCell _ _ _ b hb]);have q2':w6.heap[Bx]?=some (Obj.cells #[v5] 35):=by
  have hx:=(aE.heap _ Uh).trans hb5;rw[q2,hR];simp[World.setCell,Array.getElem?_modify,hx]
 have C3:=ba.ay;rw[e6] at C3 |-;clear hR ba aE wl aI q2;walk_nrm;refine W.go rfl (fun _=>qp) ?_;refine W.go rfl (fun _=>CX) ?_;have abf:w6.heap[l]?=some (.loop {lr with state:=.busy}):=by rw[q1 l (bc cV),afk];exact aa8
 refine qq (t:=fun w=>cX w l {{lr with state:=.busy} with state:=.ready,pending:=none}) (l:=l) rfl (fun n=>Nw (w:=w6.at n) abf) (by simp[cX]) ?_;have Zr:bE ar L0 (grow o w w5) (cX w6 l {{lr with state:=.busy} with state:=.ready,pending:=none}):=oB C3 rfl (fun f=>by simp[obj]) (.inl hl);have g7:grow o w w5=grow o w (cX w6 l {{lr with state:=.busy} with state:=.ready,pending:=none}):=by
  have:(cX w6 l {{lr with state:=.busy} with state:=.ready,pending:=none}).heap.size=w5.heap.size:=by simp[cX];omega
  unfold grow;rw[this]
 rw[g7] at Zr |-;have q3:∀b,b≠l->(cX w6 l {{lr with state:=.busy} with state:=.ready,pending:=none}).heap[b]?=w6.heap[b]?:=fun b hb=>by simp only[cX];rw[aJ (bc hb)]
 refine h v5 _ ⟨?_,fun b h1 h2 h3 h4=>?_,?_,?_,?_⟩ Zr
 ·simp[cX];omega
 ·rw[q3 b h3,q1 b h2,abd b h1 h3 h4]
 ·rw[q3 Bx cV];exact q2'
 ·simp only[cX];rw[bR aa]
 ·refine cQ QW fun g hg QV=>?_;rw[q3 g aa,q1 g aa]
structure QX(o0:aM)(w0:ae)(Bx l rd lo:Nat)(lr:Loop)(rs:List aL)(i:Nat)(o:aM)(w:ae)(v:Value):Prop where
 own:o=grow o0 w0 w
 ay:bE ar L0 o w
 size:lo<=w.heap.size
 le:w0.heap.size<=w.heap.size
 old:∀b,b<lo->b≠Bx->b≠l->w.heap[b]?=w0.heap[b]?
 box:w.heap[Bx]?=some (.cells #[v] 35 (0,0))
 Ub:w.heap[l]?=some (.loop {lr with state:=.ready,pending:=none})
 row:w.ownsRow lo 42 3 v i ((rs.take i).flatMap aL.cells)
theorem HY(o0:aM)(w0:ae)(Bx l rd lo Ru c:Nat)(lr:Loop)(rs:List aL)(hn:rs.length<=8)(hBx:Bx<lo)(hl:l<lo)(cV:Bx≠l)(hBl:w0.heap.size<=lo)(hBo:o0 Bx)(uL:o0 l)(alP:lo=w0.heap.size)(xz:o0 Ru)(abg:Ru≠Bx/\Ru≠l)(xU:dX w0 Ru rs)(eY:∀r∈rs,Cl ar L0 o0 (.slice r.sa r.sl r.sc))(p:Option Addr)(hp:rs≠[]->p=some ⟨Ru,0,none⟩)(lf:lr.fn=203)(lp:lr.params=#[7])(lt:lr.tmps.size=13)(X4:lr.tmps[2]?=some (.pointer (some ⟨Bx,0,none⟩))){r0 r1 tl:Code}{x:Operand}{ps:Array Tmp}(fo:Tryz.f203.body=some (.seq r0 (.seq (.seq r1 (.block 0 (.rangeFunc x ps lr.assign lr.body))) tl))){q0 lq:Code}(X5:Tryz.f186.body=some (.seq q0 (.block 0 (.loop lq))))(cA:Frame)(cs:List Frame)(QK:∀o w v (tm:Array Value),QX o0 w0 Bx l rd lo lr rs rs.length o w v->XB ar Fin 0 o (G ((base 186).at ⟨tm,[]⟩ []) (cA::cs)) w):
  ∀r i,r+i=rs.length->∀o w v (tm:Array Value),QX o0 w0 Bx l rd lo lr rs i o w v->tm.size=16->tm[0]?=some (.func (.yield l) #[] #[])->tm[5]?=some (.slice p rs.length c)->tm[6]?=some (.int .i64 rs.length)->tm[7]?=some (.int .i64 i) ->
   XB ar Fin 0 o (G ((base 186).at ⟨tm,[]⟩ (.code lq :: .inLoop lq :: .inBlock 0::[])) (cA::cs)) w:=by
 have hlq:=X5;simp only[Tryz.f186,Option.some.injEq,Code.seq.injEq,Code.block.injEq,Code.loop.injEq,true_and] at hlq;obtain⟨-,hlq⟩:=hlq;have W:=bJ (P:=ar) (Fin:=Fin) (d:=0);have qh:(base 186).kind≠.early:=by simp[base]
 intro r
 induction r with
 |zero =>
  intro i hi o w v tm I ft t0 t5 t6 t7;have hni:¬((i:Int)<(rs.length:Int)):=aa;obtain⟨gs,rfl⟩:=fA ft;simp only[List.range,List.range.loop,List.map_cons,List.map_nil] at *;simp only[List.getElem?_toArray,List.getElem?_cons_succ,List.getElem?_cons_zero,Option.some.injEq] at t0 t5 t6 t7;simp only[t0,t5,t6,t7];rw[show(Item.code lq)=Item.code _ from congrArg Item.code hlq.symm];refine W.go rfl (fun _=>ax) ?_;refine W.go rfl (fun _=>aV) ?_;refine dp ?_;refine gA ?_;refine W.go rfl (fun _=>ak) ?_;refine W.go rfl (fun _=>ax) ?_;refine W.go rfl (fun _=>dI (t:=false) (by simp[Act.eval,hni])) ?_;simp only[Bool.false_eq_true,if_false];refine W.go rfl (fun _=>stepG_exit rfl) ?_;exact QK o w v _ (by rw[show rs.length=i by omega];exact I)
 |succ r ih =>
  intro i hi o w v tm I ft t0 t5 t6 t7;have bZ:i<rs.length:=aa;have hlI:(i:Int)<(rs.length:Int):=aa;obtain rfl:=hp (fun e=>by rw[e] at bZ;simp at bZ);have pO:IntKind.wrap .i64 ((i:Int)+1)=(i:Int)+1:=by rw[IntKind.wrap_i64];omega
  obtain⟨gs,rfl⟩:=fA ft;simp only[List.range,List.range.loop,List.map_cons,List.map_nil] at *;simp only[List.getElem?_toArray,List.getElem?_cons_succ,List.getElem?_cons_zero,Option.some.injEq] at t0 t5 t6 t7;simp only[t0,t5,t6,t7];rw[show(Item.code lq)=Item.code _ from congrArg Item.code hlq.symm];refine W.go rfl (fun _=>ax) ?_;refine W.go rfl (fun _=>aV) ?_;refine dp ?_;refine gA ?_;refine W.go rfl (fun _=>ak) ?_;refine W.go rfl (fun _=>ax) ?_;refine W.go rfl (fun _=>dI (t:=true) (by simp[Act.eval,hlI])) ?_;simp only[if_true];refine W.go rfl (fun _=>bY) ?_;refine W.go rfl (fun _=>ax) ?_;refine W.go rfl (fun _=>eB) ?_;refine W.go rfl (fun _=>ax) ?_;refine W.go rfl (fun _=>aV) ?_;refine dp ?_;refine gA ?_;have mW:∀b,o0 b->o b:=fun b hb=>by rw[I.own];exact .inl hb
  have abi:Ru<lo:=by
   have:=(xU 0 aa).1;have h2:Ru<w0.heap.size:=by
    refine eP fun hh=>?_;rw[World.cell?,cb hh] at this;cases this
   omega
  have Jg:w.heap[Ru]?=w0.heap[Ru]?:=I.old Ru abi abg.1 abg.2;have Ui:Cl ar L0 o (.slice rs[i].sa rs[i].sl rs[i].sc):=(eY _ (aD bZ)).up mW;have Ud:Cl ar L0 o rs[i].agg:=cJ (vs:=[.string rs[i].out,.int .i64 rs[i].eD,.slice rs[i].sa rs[i].sl rs[i].sc]) (by
   intro y hy;simp at hy;rcases hy with rfl|rfl|rfl
   ·exact bf
   ·exact bN
   ·exact Ui)
  refine me aX I.ay rfl ai qh ai ?_ rfl (v:=rs[i].agg) (fun wl aE=>?_) fun _=>?_
  ·intro y hy;simp[Op.operands] at hy;subst hy;exact aH (mW _ xz)
  ·have hx:=(aE.heap _ (mW _ xz)).trans Jg;obtain⟨c0,c1,c2⟩:=xU i bZ;have d0:wl.cell? ⟨Ru,i*3,none⟩=some (.string rs[i].out):=(cell_of hx).trans c0;have d1:wl.cell? ⟨Ru,i*3+1,none⟩=some (.int .i64 rs[i].eD):=(cell_of hx).trans c1;have d2:wl.cell? ⟨Ru,i*3+2,none⟩=some (.slice rs[i].sa rs[i].sl rs[i].sc):=(cell_of hx).trans c2;simp[go_sem,d0,d1,d2,aL.agg]
  walk_nrm;generalize hri:rs[i]=ri at *;refine Bn aX I.ay rfl ai qh ai kp rfl (R:=fun wl v aI=>v=.pointer (some ⟨wl.heap.size,0,none⟩)/\aI=wl.alloc (Obj.cells #[.string aN,.int .i64 0,.slice none 0 0] 42)) (fun wl aE=>⟨_,_,by simp[go_sem];rfl,rfl,rfl⟩) fun wl v1 aI w1 aE hR ba=>?_;obtain⟨rfl,hR⟩:=hR;obtain⟨z1,k1,k2⟩:=ba.alloc I.ay aE hR;have mw:=ba.ay;rw[aE.size];clear hR ba aE wl aI;walk_nrm;have NW:grow o w w1 w.heap.size:=.inr ⟨ag _,aa⟩;refine yV aX mw rfl ai qh ai ?_ rfl (R:=fun wl aI=>aI=((wl.setCell ⟨w.heap.size,0,none⟩ (.string ri.out)).setCell ⟨w.heap.size,1,none⟩ (.int .i64 ri.eD)).setCell ⟨w.heap.size,2,none⟩ (.slice ri.sa ri.sl ri.sc)) (fun wl aE=>?_) fun wl aI w2 aE hR ba=>?_
  ·intro y hy;simp[Op.operands] at hy;rcases hy with rfl|rfl
   ·exact aH NW
   ·simp[Act.eval];exact Ud.up iK
  ·have hx:wl.heap[w.heap.size]?=some (Obj.cells #[.string aN,.int .i64 0,.slice none 0 0] 42):=(aE.heap _ NW).trans k2;refine⟨_,?_,rfl⟩;have c0:wl.cell? ⟨w.heap.size,0,none⟩=some (.string aN):=by simp[World.cell?,hx]
   have c1:wl.cell? ⟨w.heap.size,1,none⟩=some (.int .i64 0):=by simp[World.cell?,hx]
   have c2:wl.cell? ⟨w.heap.size,2,none⟩=some (.slice none 0 0):=by simp[World.cell?,hx]
   have f:∀j,wl.frozen? ⟨w.heap.size,j,none⟩=false:=fun j=>by simp[World.frozen?,hx]
   simp[go_sem,aL.agg,c0,c1,c2,f]
  obtain⟨z2,m1,m2,e2⟩:=ba.store aE NW (by rw[hR];simp[World.setCell]) (fun b hb=>by rw[hR,RowKit.Below.heap_setCell _ _ _ b hb,RowKit.Below.heap_setCell _ _ _ b hb,RowKit.Below.heap_setCell _ _ _ b hb]);have m2':w2.heap[w.heap.size]?=some (Obj.cells #[.string ri.out,.int .i64 ri.eD,.slice ri.sa ri.sl ri.sc] 42):=by
   have hx:wl.heap[w.heap.size]?=some (Obj.cells #[.string aN,.int .i64 0,.slice none 0 0] 42):=(aE.heap _ NW).trans k2;rw[m2,hR];simp[World.setCell,Array.getElem?_modify,hx]
  have rh:=ba.ay;rw[e2] at rh |-;clear hR ba aE wl aI m2;walk_nrm;refine W.go rfl (fun _=>ak) ?_;refine W.go rfl (fun _=>ax) ?_;refine W.go rfl (fun _=>aV) ?_;refine dp ?_;refine gA ?_;refine me aX rh rfl ai qh ai ?_ rfl (v:=ri.agg) (fun wl aE=>?_) fun _=>?_
  ·intro y hy;simp[Op.operands] at hy;subst hy;exact aH NW
  ·have hx:=(aE.heap _ NW).trans m2';have c0:wl.cell? ⟨w.heap.size,0,none⟩=some (.string ri.out):=by simp[World.cell?,hx]
   have c1:wl.cell? ⟨w.heap.size,1,none⟩=some (.int .i64 ri.eD):=by simp[World.cell?,hx]
   have c2:wl.cell? ⟨w.heap.size,2,none⟩=some (.slice ri.sa ri.sl ri.sc):=by simp[World.cell?,hx]
   simp[go_sem,c0,c1,c2,aL.agg]
  walk_nrm;have hlw:l<w.heap.size:=by have:=I.size;omega
  have hBw:Bx<w.heap.size:=by have:=I.size;omega
  have L6:w2.heap[l]?=some (.loop {lr with state:=.ready,pending:=none}):=by rw[m1 l aa,k1 l hlw];exact I.Ub
  refine qq (t:=fun w=>w) (l:=l) rfl (fun n=>Hk (w:=w2.at n) (t:=7) rfl ai qh rfl aC rfl L6 lp) rfl ?_;have alT:w2.heap.size=w.heap.size+1:=aa;simp only[lf];refine Uc rh Bx l lo i v ((rs.take i).flatMap aL.cells) ri {lr with state:=.ready,pending:=none} aa (.inl (mW _ hBo)) (.inl (mW _ uL)) cV ?_ L6 rfl (by have:=I.size;omega) hBx hl ?_ ?_ (Ui.up iK) fo _ ?_ ?_ ?_ _ _ ?_
  ·rw[m1 Bx aa,k1 Bx hBw];exact I.box
  ·intro b h1 h2;by_cases hb:b<w.heap.size
   ·refine .inl ?_;rw[I.own];exact .inr ⟨aa,hb⟩
   ·exact .inr ⟨aa,aa⟩
  ·refine cQ I.row fun g hg QV=>?_;have hgw:g<w.heap.size:=by
    obtain⟨hlen,fy⟩:=I.row;rcases fy with⟨rfl,_⟩|⟨g',cap,cur,rfl,h1,h2,_⟩
    ·cases hg
    ·have e:g=g':=aK hg;subst e;exact(Array.getElem?_eq_some_iff.1 h2).1
   rw[m1 g aa,k1 g hgw]
  ·simp[lt]
  ·rw[aJ aa];exact X4
  ·rw[bR aa];simp[Act.eval]
  intro v' w' VX hF';have eg:grow (grow o w w1) w2 w'=grow o0 w0 w':=by
   rw[grow_grow aa z2 VX.size,I.own,grow_grow I.le rfl (by have:=VX.size;omega)]
  rw[eg] at hF' |-;rw[dF];walk_nrm;refine gA ?_;refine W.go rfl (fun _=>ak) ?_;refine W.go rfl (fun _=>dI (t:=false) aC) ?_;simp only[Bool.false_eq_true,if_false];refine W.go rfl (fun _=>bY) ?_;refine W.go rfl (fun _=>fR) ?_;refine W.go rfl (fun _=>aV) ?_;refine dp ?_;refine gA ?_;refine W.go rfl (fun _=>ak) ?_;refine W.go rfl (fun _=>ig) ?_;refine ih (i+1) aa _ _ v' _ ⟨rfl,hF',?_,?_,?_,VX.box,VX.Ub,?_⟩ rfl rfl rfl rfl ?_
  ·have:=VX.size;have:=I.size;omega
  ·have:=VX.size;have:=I.le;omega
  ·intro b h1 h2 h3;have hv:some b≠v.ownBlock:=fun e=>by
    obtain⟨hlen,fy⟩:=I.row;rcases fy with⟨rfl,_⟩|⟨g',cap,cur,rfl,h4,h5,_⟩
    ·cases e
    ·have e:b=g':=aK e;omega
   have gv:b<w.heap.size:=by have:=I.size;omega
   rw[VX.old b aa h2 h3 hv,m1 b aa,k1 b gv];exact I.old b h1 h2 h3
  ·rw[List.take_add_one,cp bZ,hri];simp only[List.flatMap_append,Option.toList_some,List.flatMap_cons,List.flatMap_nil,List.append_nil];exact VX.row
  ·simp
theorem HZ{P:Program}{L:Nat->Bool}{o:aM}{w:ae}(h:bE P L o w)(fn:FuncId)(tmps:Array Value)(ps:Array Tmp)(Nv bd:Code):
  bE P L (fun b=>(o b\/b=w.heap.size)\/b=w.heap.size+1) (l8 w fn tmps ps Nv bd)/\(l8 w fn tmps ps Nv bd).heap.size=w.heap.size+2/\(∀b,b<w.heap.size->(l8 w fn tmps ps Nv bd).heap[b]?=w.heap[b]?)/\(l8 w fn tmps ps Nv bd).heap[w.heap.size]?=some (.deferred (some [])) /\
   (l8 w fn tmps ps Nv bd).heap[w.heap.size+1]?=some (.loop {state:=.ready,pending:=none,fn:=fn,tmps:=tmps,params:=ps,assign:=Nv,body:=bd,defers:=w.heap.size}):=by
 refine⟨?_,by simp[l8],fun b hb=>?_,?_,?_⟩
 ·have h1:=h.alloc (x:=.deferred (some [])) rfl (fun f _=>by simp[obj]);have h2:=h1.alloc (x:=.loop {state:=.ready,pending:=none,fn:=fn,tmps:=tmps,params:=ps,assign:=Nv,body:=bd,defers:=w.heap.size}) rfl (fun f _=>by simp[obj]);simpa[l8] using h2
 ·simp only[l8,World.alloc];rw[cT eR,Array.getElem_push_lt aa];simp[hb]
 ·simp only[l8,World.alloc];rw[cT an,Array.getElem_push_eq]
 ·simp only[l8,World.alloc];rw[eZ,if_pos an]
theorem Uj{o0:aM}{w0:ae}{n:Nat}(hF:bE ar L0 o0 w0)(hz:w0.heap.size=n+3)(o1:o0 n)(o2:o0 (n+1))(o3:o0 (n+2))(XX:w0.heap[n]?=some (.cells #[.slice none 0 0] 35 (0,0)))(X6:w0.heap[n+1]?=some (.deferred (some [])))(lr:Loop)(hlr:w0.heap[n+2]?=some (.loop lr))(ls:lr.state=.ready)(lpe:lr.pending=none)(Sv Ru c:Nat)(p:Option Addr)(rs:List aL)(hn:rs.length<=8)(SS:o0 Sv)(hs:w0.cell? ⟨Sv,0,none⟩=some (.slice p rs.length c))(hp:rs≠[]->p=some ⟨Ru,0,none⟩)(xz:o0 Ru)(Uk:Ru<n)(xU:dX w0 Ru rs)(eY:∀r∈rs,Cl ar L0 o0 (.slice r.sa r.sl r.sc))(lf:lr.fn=203)(lp:lr.params=#[7])(lt:lr.tmps.size=13)(X4:lr.tmps[2]?=some (.pointer (some ⟨n,0,none⟩))){r0 r1 tl:Code}{x:Operand}{ps:Array Tmp}(fo:Tryz.f203.body=some (.seq r0 (.seq (.seq r1 (.block 0 (.rangeFunc x ps lr.assign lr.body))) tl)))(cf:Frame)(cs:List Frame)(h:∀v w',w'.heap.size>=n+3->bE ar L0 (grow o0 w0 w') w'->(∀b,b<n->w'.heap[b]?=w0.heap[b]?)->w'.ownsRow (n+3) 42 3 v rs.length (rs.flatMap aL.cells)->XB ar Fin 0 (grow o0 w0 w') (G (cf.finish v) cs) w'):
  XB ar Fin 0 o0 (G (Frame.enter ar 186 #[.func (.yield (n+2)) #[] #[],.pointer (some ⟨Sv,0,none⟩)] .normal) ((base 203).at ⟨lr.tmps,[{target:=.collected (n+1),args:=#[]}]⟩ [.inRangeFunc (n+2),.inBlock 0,.code tl]::cf::cs)) w0:=by
 have W:=bJ (P:=ar) (Fin:=Fin) (d:=0);have qh:(base 186).kind≠.early:=by simp[base]
 have abk:(base 203).kind≠.early:=by simp[base]
 have hs0:∃x,w0.heap[Sv]?=some x:=by obtain⟨x,k,_⟩:=hF.shut Sv SS;exact⟨x,k⟩
 rw[ij func186 rfl];walk_nrmf Tryz.f186;refine W.go rfl (fun _=>ax) ?_;refine W.go rfl (fun _=>aV) ?_;refine dp ?_;refine me aX hF rfl ai qh ai ?_ rfl (v:=.slice p rs.length c) (fun wl aE=>?_) fun _=>?_
 ·intro y hy;simp[Op.operands] at hy;subst hy;exact aH SS
 ·obtain⟨x,hx⟩:=hs0;have c0:wl.cell? ⟨Sv,0,none⟩=some (.slice p rs.length c):=(cell_of (aE.heap _ SS)).trans hs;simp[go_sem,c0]
 walk_nrm;refine gA ?_;refine W.go rfl (fun _=>ak) ?_;refine W.go rfl (fun _=>eB) ?_;refine W.go rfl (fun _=>jj) ?_;have afn:({lr with state:=.ready,pending:=none}:Loop)=lr:=by cases lr;simp only at ls lpe;subst ls;subst lpe;rfl
 refine HY o0 w0 n (n+2) (n+1) (n+3) Ru c lr rs hn aa aa aa aa o1 o3 hz.symm xz ⟨aa,aa⟩ xU eY p hp lf lp lt X4 fo rfl _ _ ?_ rs.length 0 rfl _ _ (.slice none 0 0) _ ⟨?_,hF,aa,ag _,fun _ _ _ _=>rfl,XX,?_,?_⟩ rfl rfl rfl rfl rfl;rotate_left
 ·funext b;simp only[grow,eq_iff_iff];constructor
  ·exact .inl
  ·rintro(h1|h1)
   ·exact h1
   ·omega
 ·rw[hlr,afn]
 ·exact⟨rfl,.inl ⟨rfl,rfl⟩⟩
 intro o' w' v tm I;refine W.go rfl (fun _=>dG) ?_;refine W.go rfl (fun w1=>stepG_leave rfl rfl func186 (results_none af _ _).1 (results_none af _ _).2) ?_;have AP:((base 203).at ⟨lr.tmps,[{target:=.collected (n+1),args:=#[]}]⟩ [.inRangeFunc (n+2),.inBlock 0,.code tl]).finish (.tuple #[])=(base 203).at ⟨lr.tmps,[{target:=.collected (n+1),args:=#[]}]⟩ [.endRangeFunc (n+2),.inBlock 0,.code tl]:=by
  simp[Frame.finish,Frame.at]
 rw[AP];have hl':=I.Ub;refine qq (t:=fun w=>cX w (n+2) {{lr with state:=.ready,pending:=none} with state:=.exhausted}) (l:=n+2) rfl (fun m=>CW (w:=w'.at m) hl' rfl rfl rfl) (by simp[cX]) ?_;have mW:∀b,o0 b->o' b:=fun b hb=>by rw[I.own];exact .inl hb
 have mw:bE ar L0 o' (cX w' (n+2) {{lr with state:=.ready,pending:=none} with state:=.exhausted}):=oB I.ay rfl (fun f=>by simp[obj]) (mW _ o3);have Xx:(cX w' (n+2) {{lr with state:=.ready,pending:=none} with state:=.exhausted}).heap.size=w'.heap.size:=by simp[cX]
 have VY:∀b,b≠n+2->(cX w' (n+2) {{lr with state:=.ready,pending:=none} with state:=.exhausted}).heap[b]?=w'.heap[b]?:=fun b hb=>by simp only[cX];rw[aJ (bc hb)]
 generalize cX w' (n+2) {{lr with state:=.ready,pending:=none} with state:=.exhausted}=w1 at *;have Zs:=fo;simp only[Tryz.f203,Option.some.injEq,Code.seq.injEq,true_and] at Zs;obtain⟨-,-,Zs⟩:=Zs;obtain⟨gs,OZ⟩:=fA lt;rw[OZ] at X4 |-;simp only[List.range,List.range.loop,List.map_cons,List.map_nil] at X4 |-;simp only[List.getElem?_toArray,List.getElem?_cons_succ,List.getElem?_cons_zero,Option.some.injEq] at X4;simp only[X4];rw[show(Item.code tl)=Item.code _ from congrArg Item.code Zs.symm];refine W.go rfl (fun _=>fR) ?_;refine W.go rfl (fun _=>ax) ?_;refine W.go rfl (fun _=>aV) ?_;refine dp ?_;have Ag:w1.heap[n]?=some (.cells #[v] 35 (0,0)):=(VY n aa).trans I.box;refine me aX mw rfl ai abk ai ?_ rfl (v:=v) (fun wl aE=>?_) fun _=>?_
 ·intro y hy;simp[Op.operands] at hy;subst hy;exact aH (mW _ o1)
 ·have hx:=(aE.heap _ (mW _ o1)).trans Ag;have c0:wl.cell? ⟨n,0,none⟩=some v:=by simp[World.cell?,hx]
  simp[go_sem,c0]
 walk_nrm;have qh:=abk;refine gA ?_;refine W.go rfl (fun _=>ak) ?_;refine W.go rfl (fun _=>stepG_ret') ?_;have Zd:w1.heap[n+1]?=some (.deferred (some [])):=by rw[VY _ aa,I.old _ aa aa aa];exact X6
 refine qq (t:=fun w=>{w with heap:=w.heap.setIfInBounds (n+1) (.deferred none)}) (l:=n+1) rfl (fun m=>zH (w:=w1.at m) rfl Zd) an ?_;have rh:bE ar L0 o' {w1 with heap:=w1.heap.setIfInBounds (n+1) (.deferred none)}:=oB mw rfl (fun f=>by simp[obj]) (mW _ o2);have XR:({w1 with heap:=w1.heap.setIfInBounds (n+1) (.deferred none)}:ae).heap.size=w'.heap.size:=by simp[Xx]
 have PD:∀b,b≠n+1->b≠n+2->({w1 with heap:=w1.heap.setIfInBounds (n+1) (.deferred none)}:ae).heap[b]?=w'.heap[b]?:=fun b h1 h2=>by
  rw[<- VY b h2];exact aJ (bc h1)
 generalize ({w1 with heap:=w1.heap.setIfInBounds (n+1) (.deferred none)}:ae)=w2 at *;refine W.go rfl (fun w1=>stepG_leave rfl rfl func203 (v:=v) (by simp[results,Tryz.f203,go_sem]) (by simp[results,Tryz.f203,go_sem])) ?_;have eo:o'=grow o0 w0 w2:=by rw[I.own];unfold grow;rw[XR]
 rw[eo] at rh |-;have ft:=I.size;refine h v w2 aa rh (fun b hb=>?_) ?_
 ·rw[PD b aa aa];exact I.old b aa aa aa
 ·have hr:=I.row;rw[dz] at hr;exact cQ hr fun g hg QV=>PD g aa aa
theorem H2(hF:bE ar L0 o w)(Sv Ru c:Nat)(p:Option Addr)(rs:List aL)(hn:rs.length<=8)(SS:o Sv)(hs:w.cell? ⟨Sv,0,none⟩=some (.slice p rs.length c))(hp:rs≠[]->p=some ⟨Ru,0,none⟩)(xz:o Ru)(xU:dX w Ru rs)(eY:∀r∈rs,Cl ar L0 o (.slice r.sa r.sl r.sc)):
  bp ar (XB ar Fin 0) 203 #[.slice none 0 0,.func (.func 186) #[] #[.pointer (some ⟨Sv,0,none⟩)]] o w fun v o' w' =>
   o'=grow o w w'/\bE ar L0 o' w'/\(∀b,b<w.heap.size->w'.heap[b]?=w.heap[b]?)/\w'.ownsRow w.heap.size 42 3 v rs.length (rs.flatMap aL.cells):=by
 intro cf cs Js;have W:=bJ (P:=ar) (Fin:=Fin) (d:=0);have qh:(base 203).kind≠.early:=by simp[base]
 rw[ij func203 rfl];walk_nrmf Tryz.f203;refine W.go rfl (fun _=>ax) ?_;refine W.go rfl (fun _=>aV) ?_;refine dp ?_;refine xW rfl ai qh rfl (Obj.cells #[.slice none 0 0] 35) (fun n=>.pointer (some ⟨n,0,none⟩)) (fun w1=>fa) (fun w1=>fa) ?_;walk_nrm;have mw:bE ar L0 (fun b=>o b\/b=w.heap.size) (w.alloc (Obj.cells #[.slice none 0 0] 35)):=hF.alloc rfl fun f _=>by simp[obj,val]
 refine gA ?_;refine W.go rfl (fun _=>ak) ?_;refine W.go rfl (fun _=>ax) ?_;refine W.go rfl (fun _=>ax) ?_;refine W.go rfl (fun _=>aV) ?_;refine dp ?_;refine gA ?_;refine W.go rfl (fun _=>ak) ?_;refine W.go rfl (fun _=>eB) ?_;refine Kf (g:=186) rfl qh rfl (by simp[Act.eval];rfl) func186 af rfl ?_;have Lf:=HZ mw 203;have TT:(w.alloc (Obj.cells #[.slice none 0 0] 35)).heap.size=w.heap.size+1:=an;have abl:∀b,b<w.heap.size->(w.alloc (Obj.cells #[.slice none 0 0] 35)).heap[b]?=w.heap[b]?:=fun b hb=>RowKit.Below.heap_alloc w _ b hb;have abm:(w.alloc (Obj.cells #[.slice none 0 0] 35)).heap[w.heap.size]?=some (Obj.cells #[.slice none 0 0] 35):=by simp only[World.alloc];rw[eZ,if_pos rfl]
 generalize w.alloc (Obj.cells #[.slice none 0 0] 35)=wa at *;rw[TT] at Lf;simp only[TT];have ho:(fun b=>((o b\/b=w.heap.size)\/b=w.heap.size+1)\/b=w.heap.size+1+1)=(fun b=>((o b\/b=w.heap.size)\/b=w.heap.size+1)\/b=w.heap.size+2):=rfl;have Uk:Ru<w.heap.size:=hF.lt xz;have hSn:Sv<w.heap.size:=hF.lt SS;have mW:∀{w':ae},(∀b,b<w.heap.size+1->w'.heap[b]?=wa.heap[b]?)->∀b,b<w.heap.size->w'.heap[b]?=w.heap[b]?:=fun h b hb=>(h b aa).trans (abl b hb);have hru:∀w0:ae,(∀b,b<w.heap.size+1->w0.heap[b]?=wa.heap[b]?)->dX w0 Ru rs:=fun w0 h0 i hi=>by
  have e:=mW h0 Ru Uk;obtain⟨c0,c1,c2⟩:=xU i hi;exact⟨(cell_of e).trans c0,(cell_of e).trans c1,(cell_of e).trans c2⟩
 have pZ:∀w0:ae,w0.heap.size=w.heap.size+1+2->(∀b,b<w.heap.size+1->w0.heap[b]?=wa.heap[b]?)->∀v w',w'.heap.size>=w.heap.size+3->bE ar L0 (grow (fun b=>((o b\/b=w.heap.size)\/b=w.heap.size+1)\/b=w.heap.size+1+1) w0 w') w'->(∀b,b<w.heap.size->w'.heap[b]?=w0.heap[b]?)->w'.ownsRow (w.heap.size+3) 42 3 v rs.length (rs.flatMap aL.cells)->XB ar Fin 0 (grow (fun b=>((o b\/b=w.heap.size)\/b=w.heap.size+1)\/b=w.heap.size+1+1) w0 w') (G (cf.finish v) cs) w':=by
  intro w0 h0 h00 v w' hz hF' hk hr;have e:grow (fun b=>((o b\/b=w.heap.size)\/b=w.heap.size+1)\/b=w.heap.size+1+1) w0 w'=grow o w w':=by
   funext b;simp only[grow,eq_iff_iff,h0];constructor
   ·rintro((((h1|h1)|h1)|h1)|h1)
    ·exact .inl h1
    all_goals exact .inr aa
   ·rintro(h1|h1)
    ·exact .inl (.inl (.inl (.inl h1)))
    ·by_cases h2:b<w.heap.size+3
     ·by_cases h3:b=w.heap.size
      ·exact .inl (.inl (.inl (.inr h3)))
      ·by_cases h4:b=w.heap.size+1
       ·exact .inl (.inl (.inr h4))
       ·exact .inl (.inr aa)
     ·exact .inr aa
  rw[e] at hF' |-;refine Js v _ w' ⟨rfl,hF',fun b hb=>(hk b hb).trans (mW h00 b hb),?_⟩;obtain⟨hlen,fy⟩:=hr;refine⟨hlen,?_⟩;rcases fy with h1|⟨g,cap,cur,h1,h2,h3⟩
  ·exact .inl h1
  ·exact .inr ⟨g,cap,cur,h1,aa,h3⟩
 refine Uj (n:=w.heap.size) (Lf _ _ _ _).1 (Lf _ _ _ _).2.1 (.inl (.inl (.inr rfl))) (.inl (.inr rfl)) (.inr rfl) (((Lf _ _ _ _).2.2.1 _ aa).trans abm) (Lf _ _ _ _).2.2.2.1 _ (Lf _ _ _ _).2.2.2.2 rfl rfl Sv Ru c p rs hn (.inl (.inl (.inl SS))) ?_ hp (.inl (.inl (.inl xz))) Uk ?_ ?_ rfl rfl rfl rfl rfl cf cs ?_
 ·exact(cell_of (mW (Lf _ _ _ _).2.2.1 Sv hSn)).trans hs
 ·exact hru _ (Lf _ _ _ _).2.2.1
 ·exact fun r hr=>(eY r hr).up fun b hb=>.inl (.inl (.inl hb))
 ·exact pZ _ (Lf _ _ _ _).2.1 (Lf _ _ _ _).2.2.1
end
section
open Go.Lib
theorem tP:∀a:List UInt8,compareBytes a a=0
 | []=>rfl
 |x::r=>by
  have h:¬x<x:=UInt8.lt_irrefl x;simp[compareBytes,h,tP r]
theorem rA:∀a b:List UInt8,compareBytes a b=0->a=b
 | [],[],_=>rfl
 | [],_::_,h=>by simp[compareBytes] at h
 |_::_,[],h=>by simp[compareBytes] at h
 |x::r,y::s,h=>by
  simp only[compareBytes] at h;split at h
  ·cases h
  ·split at h
   ·cases h
   ·rename_i h1 h2;have e:x=y:=gH (UInt8.not_lt.1 h2) (UInt8.not_lt.1 h1);rw[e,rA r s h]
theorem qw:∀a b:List UInt8,compareBytes b a=- compareBytes a b
 | [],[]=>rfl
 | [],_::_=>rfl
 |_::_,[]=>rfl
 |x::r,y::s=>by
  simp only[compareBytes];by_cases h1:x<y
  ·have h2:¬y<x:=UInt8.lt_asymm h1;simp[h1,h2]
  ·by_cases h2:y<x
   ·simp[h1,h2]
   ·simp[h1,h2,qw r s]
theorem mN:∀a b c:List UInt8,compareBytes a b<0->compareBytes b c<0->compareBytes a c<0
 | [],[],_,h,_=>by simp[compareBytes] at h
 |_::_,[],_,h,_=>by simp[compareBytes] at h
 |_,_::_,[],_,h=>by simp[compareBytes] at h
 | [],_::_,_::_,_,_=>by simp[compareBytes]
 |x::r,y::s,z::t,h1,h2=>by
  simp only[compareBytes] at h1 h2 |-;by_cases a1:x<y
  ·by_cases a2:y<z
   ·simp[UInt8.lt_trans a1 a2]
   ·by_cases a3:z<y
    ·simp[a2,a3] at h2
    ·have e:y=z:=gH (UInt8.not_lt.1 a3) (UInt8.not_lt.1 a2);subst e;simp[a1]
  ·by_cases a4:y<x
   ·simp[a1,a4] at h1
   ·have e:x=y:=gH (UInt8.not_lt.1 a4) (UInt8.not_lt.1 a1);subst e;simp only[UInt8.lt_irrefl,if_false] at h1;by_cases a2:x<z
    ·simp[a2]
    ·by_cases a3:z<x
     ·simp[a2,a3] at h2
     ·simp[a2,a3] at h2 |-;exact mN r s t h1 h2
end
end Go.Proofs.Kz
namespace Go.Proofs
section
open Go.Shelf
end
end Go.Proofs
namespace Go.Proofs.Kz
open Go.Proofs.Tryz
open Go.Proofs.Tryz renaming prog → ar
open _root_.ByteArray renaming empty → aN
open Go.Proofs
section
open Go.RowKit Go.Shelf Go.Lib Go.Sort
def qx(x y:aL):Int:=Lib.compareBytes x.out.data.toList y.out.data.toList
theorem NX(x y:aL)(W:ae):Calls ar 146 #[.agg x.cells.toArray,.agg y.cells.toArray] W fun e w'=>e=.returned (.int .i64 (qx x y))/\∃q os',w'=grow (W.drewN q) os':=by
 have abn:=fun W'=>Tryz.strings_Compare x.out y.out W';show Calls ar _ #[.agg #[.string x.out,.int .i64 x.eD,.slice x.sa x.sl x.sc],.agg #[.string y.out,.int .i64 y.eD,.slice y.sa y.sl y.sc]] W _;unfold qx;generalize Lib.compareBytes x.out.data.toList y.out.data.toList=r at abn |-;go_enter func146,ntmps146;go_wp2_with (go_at_call 187;refine(abn _).mono ?_;rintro e w' ⟨rfl,rfl⟩);go_ret;exact⟨rfl,0,_,by rw[alloc_eq_grow,alloc_eq_grow,Go.Sort.grow_grow];rfl⟩
@[reducible] def C4:Inhabited aL:=⟨⟨aN,0,none,0,0⟩⟩
theorem KA(blk off size:Nat)(w:ae):@CmpLays aL C4 ar 146 #[] aL.cells 3 qx blk off size w :=
 fun _ _ _ _ x y=>NX x y _
theorem E7(n:Nat)(W:ae)(h:n<=12):Calls ar 205 #[.int .u64 n] W fun e w'=>(∃l:Int,e=.returned (.int .i64 l))/\w'=W :=
 (Any.bits_Len Tryz.bitsLen n W aa aa).mono fun _ _ ⟨he,hw⟩=>⟨⟨_,he⟩,hw⟩
theorem Ul(d:Array aL)(i:Nat)(h:i<d.size):(@getElem! (Array aL) Nat aL _ _ C4 d i)=d[i]:=by
 letI:Inhabited aL:=C4
 exact dT d i h
theorem afo:SWO (ltOf qx):=by
 have hx:∀x y,ltOf qx x y=true↔qx x y<0:=fun x y=>by simp[ltOf]
 have hn:∀x y,ltOf qx x y=false↔¬qx x y<0:=fun x y=>by simp[ltOf]
 refine⟨fun x=>?_,fun x y z h1 h2=>?_,fun x y z h1 h2=>?_⟩
 ·rw[hn];simp[qx,tP]
 ·rw[hx] at *;exact mN _ _ _ h1 h2
 ·rw[hn] at *;intro h3;unfold qx at *;rcases Int.lt_or_le 0 (compareBytes x.out.data.toList y.out.data.toList) with h4|h4
  ·have e:=qw x.out.data.toList y.out.data.toList;exact h2 (mN _ _ _ aa h3)
  ·have e:compareBytes x.out.data.toList y.out.data.toList=0:=aa;rw[rA _ _ e] at h3;exact h2 h3
theorem holds_of(w:ae)(b:Nat)(rs:List aL)(h:dX w b rs)(hf:∀j,j<rs.length*3->w.frozen? ⟨b,j,none⟩=false):@HoldsK aL C4 aL.cells 3 w b 0 rs.toArray:=by
 intro j hj;have rY:j<rs.length*3:=by simpa using hj
 have bZ:j/3<rs.length:=aa;obtain⟨c0,c1,c2⟩:=h (j/3) bZ;rw[bh];refine⟨?_,hf j rY⟩;rw[@get_flatK aL C4 aL.cells 3 rs.toArray j (by simpa using rY)];have e:(@getElem! (Array aL) Nat aL _ _ C4 rs.toArray (j/3))=rs[j/3]:=by
  rw[Ul _ _ (by simpa using bZ)];rfl
 rw[e];have hm:j%3=0\/j%3=1\/j%3=2:=aa;rcases hm with hm|hm|hm
 ·rw[show w.cell? ⟨b,j,none⟩=w.cell? ⟨b,j/3*3,none⟩ from congrArg (fun x=>w.cell? ⟨b,x,none⟩) aa,c0,hm];simp[aL.cells]
 ·rw[show w.cell? ⟨b,j,none⟩=w.cell? ⟨b,j/3*3+1,none⟩ from congrArg (fun x=>w.cell? ⟨b,x,none⟩) aa,c1,hm];simp[aL.cells]
 ·rw[show w.cell? ⟨b,j,none⟩=w.cell? ⟨b,j/3*3+2,none⟩ from congrArg (fun x=>w.cell? ⟨b,x,none⟩) aa,c2,hm];simp[aL.cells]
theorem KB(w:ae)(b:Nat)(d:Array aL)(h:@HoldsK aL C4 aL.cells 3 w b 0 d):dX w b d.toList:=by
 intro i hi;have lQ:i<d.size:=by simpa using hi
 have key:∀c,c<3->w.cell? ⟨b,i*3+c,none⟩=some ((d.toList[i]).cells[c]!):=fun c hc=>by
  have:=(h (i*3+c) eR).1;rw[bh] at this;rw[this,@get_flatK aL C4 aL.cells 3 d (i*3+c) aa];have e1:(i*3+c)/3=i:=aa;have e2:(i*3+c)%3=c:=aa;rw[e1,e2,Ul d i lQ];simp
 exact⟨key 0 aa,key 1 aa,key 2 aa⟩
structure H3(w w':ae)(blk:Nat)(rs b5:List aL):Prop where
 size:w.heap.size<=w'.heap.size
 old:∀b,b<w.heap.size->b≠blk->w'.heap[b]?=w.heap[b]?
 perm:b5.Perm rs
 sorted:∀i j (hi:i<b5.length) (hj:j<b5.length),i<j->¬qx b5[j] b5[i]<0
 at_:dX w' blk b5
theorem BG(blk cap:Nat)(rs:List aL)(w:ae)(hR:dX w blk rs)(hf:∀j,j<rs.length*3->w.frozen? ⟨blk,j,none⟩=false)(Nl:blk<w.heap.size)(oa:rs.length<=12):
  Calls ar 185 #[.slice (some ⟨blk,0,none⟩) rs.length cap,.func (.func 146) #[] #[]] w fun e w'=>∃v,e=.returned v/\v=.tuple #[]/\∃b5,H3 w w' blk rs b5:=by
 have eg:∀args w,(callFunc 146 args).run ar w=.ok (.enter 146 args) w:=enters_of func146 af rfl;have hH:=holds_of w blk rs hR hf;have hc:=@AnyQ.slices_SortFunc_small_sorted ar _ aL C4 Tryz.NA 3 isAgg42 sizeOf42 aL.cells (fun _=>rfl) (fun x v hv=>by simp[aL.cells] at hv;rcases hv with rfl|rfl|rfl<;>rfl) qx 146 #[] afo blk 0 cap rs.toArray w eg (KA blk 0 rs.toArray.size w) hH Nl (by simpa using oa) E7;refine Calls.mono hc ?_;rintro e w' ⟨rfl,d',n,os,hp,hs,rfl⟩;have hz:d'.size=rs.length:=by simpa using hp.1
 have pE:blk<(@putRowK aL C4 aL.cells 3 (Go.Sort.ahead w n) blk 0 d').heap.size:=by simp[putRowK,putRow,mapBlock,Go.Sort.ahead];exact Nl
 refine⟨_,rfl,rfl,d'.toList,?_,?_,?_,?_,?_⟩
 ·simp[sortWorldK,Go.Sort.grow,putRowK,putRow,mapBlock,Go.Sort.ahead]
 ·intro b hb cV;simp only[sortWorldK];rw[heap_grow_old _ _ (by simp[putRowK,putRow,mapBlock,Go.Sort.ahead];exact hb)];simp only[putRowK,putRow,mapBlock,Go.Sort.ahead];rw[er,if_neg (fun e=>cV e.symm)]
 ·have h2:=hp.2.2;rw[iA (by simp[hz]),iA an] at h2;simpa using h2
 ·intro i j hi hj DU;have h2:=hs i j (aQ _) DU (by simp at hj |-;omega);rw[Ul d' i (by simpa using hi),Ul d' j (by simpa using hj)] at h2;simp[ltOf] at h2;simp;exact h2
 ·refine KB _ blk d' ?_;refine holds_grow id _ os blk 0 _ pE ?_;exact holds_putRow id _ blk 0 _ _ hH (by simp[hz])
end
open Go.Ren Go.Conc Go.ConcN
section
variable {Fin:bH} {o:aM} {w:ae}
structure QY(o:aM)(w:ae)(rs:List aL)(v:Value)(o':aM)(w':ae):Prop where
 own:o'=grow o w w'
 ay:bE ar L0 o' w'
 size:w.heap.size<=w'.heap.size
 old:∀b,b<w.heap.size->w'.heap[b]?=w.heap[b]?
 row:w'.ownsRow w.heap.size 42 3 v rs.length (rs.flatMap aL.cells)
theorem NY(hF:bE ar L0 o w)(Sv Ru c:Nat)(p:Option Addr)(rs:List aL)(hn:rs.length<=8)(SS:o Sv)(hs:w.cell? ⟨Sv,0,none⟩=some (.slice p rs.length c))(hp:rs≠[]->p=some ⟨Ru,0,none⟩)(xz:o Ru)(xU:dX w Ru rs)(eY:∀r∈rs,Cl ar L0 o (.slice r.sa r.sl r.sc)):
  bp ar (XB ar Fin 0) 184 #[.func (.func 186) #[] #[.pointer (some ⟨Sv,0,none⟩)]] o w (QY o w rs):=by
 have W:=bJ (P:=ar) (Fin:=Fin) (d:=0);refine bA W func184 ai ?_;refine aA ?_;refine aF W rfl ai rfl func203 af rfl aC rfl ((H2 hF Sv Ru c p rs hn SS hs hp xz xU eY).mono fun v o' w' hp=>?_);refine aA ?_;obtain⟨h1,h2,h3,h4⟩:=hp;refine⟨.inr trivial,trivial,v,resultsC_tmp (t:=2) ai _,h1,h2,?_,h3,h4⟩;refine cL fun bZ=>?_;have:=h3 _ bZ;rw[cb (ag _),aG bZ] at this;cases this
theorem QZ(rs:List aL):∀i (h:i<rs.length) c,c<3->(rs.flatMap aL.cells)[i*3+c]?=(rs[i].cells)[c]?:=by
 induction rs with
 |nil=>intro i h;simp at h
 |cons r t ih =>
  intro i h c hc;have hl:r.cells.length=3:=rfl;rw[List.flatMap_cons];cases i with
  |zero=>rw[jd aa];simp
  |succ i =>
   rw[iN aa,hl,show(i+1)*3+c-3=i*3+c by omega,ih i (by simpa using h) c hc];simp
theorem H4{w:ae}{g cap n:Nat}{cur:Array Value}{rs:List aL}(hg:w.heap[g]?=some (.cells cur 42 (0,0)))(ht:cur.toList.take (rs.length*3)=rs.flatMap aL.cells):dX w g rs/\∀j,w.frozen? ⟨g,j,none⟩=false:=by
 have key:∀i (h:i<rs.length) c,c<3->w.cell? ⟨g,i*3+c,none⟩=(rs[i].cells)[c]?:=fun i h c hc=>by
  rw[<- QZ rs i h c hc,<- ht,eU aa];simp[World.cell?,hg]
 exact⟨fun i h=>⟨key i h 0 aa,key i h 1 aa,key i h 2 aa⟩,fun j=>by simp[World.frozen?,hg]⟩
theorem E8(w:ae):Calls ar 185 #[.slice none 0 0,.func (.func 146) #[] #[]] w fun e w'=>∃v,e=.returned v/\v=.tuple #[]/\w'.heap=w.heap:=by
 have hl:=E7 0 w aa;have h2:∀W,Calls ar 214 #[.slice none 0 0,.int .i64 0,.int .i64 0,.func (.func 146) #[] #[]] W fun e w'=>e=.returned (.tuple #[])/\w'.heap=W.heap:=fun W=>by
  go_enter func214,ntmps214;go_wp2;refine wp_loop_rounds 1 ?_;rw[rounds_succ];go_wp2
  go_end0
  exact⟨rfl,rfl⟩
 have h3:∀W lim,Calls ar 204 #[.slice none 0 0,.int .i64 0,.int .i64 0,.int .i64 lim,.func (.func 146) #[] #[]] W fun e w'=>e=.returned (.tuple #[])/\w'.heap=W.heap:=fun W lim=>by
  go_enter func204,ntmps204;go_wp2;refine wp_loop_rounds 1 ?_;rw[rounds_succ];go_wp2_with (go_at_call 214;refine(h2 _).mono ?_;rintro e w' ⟨rfl,hw⟩)
  (try simp only[Exit.inBlock,Exit.then])
  refine bodyPost_ret (results_none af _ _).1 rfl ?_;exact⟨rfl,hw⟩
 go_enter func185,ntmps185;go_wp2_with (first|(go_at_call 205;refine hl.mono ?_;rintro e w' ⟨⟨l,rfl⟩,rfl⟩)|(go_at_call 204;refine(h3 _ _).mono ?_;rintro e w' ⟨rfl,hw⟩))
 go_end0
 exact⟨_,rfl,rfl,hw⟩
structure tQ(o:aM)(w:ae)(rs:List aL)(v:Value)(o':aM)(w':ae):Prop where
 own:o'=grow o w w'
 ay:bE ar L0 o' w'
 size:w.heap.size<=w'.heap.size
 old:∀b,b<w.heap.size->w'.heap[b]?=w.heap[b]?
 row:(rs=[]/\v=.slice none 0 0)\/∃g cap b5,v=.slice (some ⟨g,0,none⟩) rs.length cap/\rs.length<=cap/\w.heap.size<=g/\g<w'.heap.size/\b5.Perm rs/\(∀i j (hi:i<b5.length) (hj:j<b5.length),i<j->¬qx b5[j] b5[i]<0)/\dX w' g b5
theorem Q0{o:aM}{w w1 w2:ae}(h1:w.heap.size<=w1.heap.size)(h2:w1.heap.size<=w2.heap.size):grow (grow o w w1) w1 w2=grow o w w2:=grow_grow h1 rfl h2
theorem X7{o1:aM}{w1:ae}{rs:List aL}{v:Value}(hn:rs.length<=8)(S:QY o w rs v o1 w1):
  bp ar (XB ar Fin 0) 185 #[v,.func (.func 146) #[] #[]] o1 w1 fun v' o2 w2=>v'=.tuple #[]/\tQ o w rs v o2 w2:=by
 obtain⟨hlen,fy⟩:=S.row;rcases fy with⟨rfl,h0⟩|⟨g,cap,cur,rfl,h1,h2,h3,h4,h5,h6⟩
 ·refine re aX af S.ay ?_ (R:=fun wl v aI=>v=.tuple #[]/\aI.heap=wl.heap) (fun wl v w τ d h=>h) (fun wl τ d v w' h=>h) (fun wl hz aE=>E8 wl) ?_
  ·intro f hf;have hb:f.h 146=146:=hf.fn _ (by show L0 146=true;kernel_rfl);simp[val,sk,hb]
  ·rintro wl v aI w' hz aE ⟨rfl,hh⟩ B;have ft:w'.heap.size=w1.heap.size:=by rw[B.size,hh,hz]
   have e:grow o1 w1 w'=o1:=by
    funext b;simp only[grow,eq_iff_iff,ft];exact⟨fun h=>h.elim id fun h=>aa,.inl⟩
   have hold:∀b,b<w1.heap.size->w'.heap[b]?=w1.heap[b]?:=fun b hb=>by
    by_cases ho:o1 b
    ·rw[B.same b (.inl ho),hh,aE b ho]
    ·exact B.rest b hb ho
   have hF:=B.ay;rw[e] at hF |-;have hs:=S.size;refine⟨rfl,by rw[S.own];unfold grow;rw[ft],hF,aa,fun b hb=>by rw[hold b aa];exact S.old b hb,.inl ⟨List.length_eq_zero_iff.1 h0,rfl⟩⟩
 ·have I3:g<w1.heap.size:=(Array.getElem?_eq_some_iff.1 h2).1;have SU:o1 g:=by rw[S.own];exact .inr ⟨h1,I3⟩
  refine re aX af S.ay ?_ (R:=fun wl v aI=>v=.tuple #[]/\∃b5,H3 wl aI g rs b5) (fun wl v w τ d h=>?_) (fun wl τ d v w' h=>?_) (fun wl hz aE=>?_) ?_
  ·intro f hf;have:=di (P:=ar) (L:=L0) (off:=0) (l:=rs.length) (c:=cap) SU f hf;have hb:f.h 146=146:=hf.fn _ (by show L0 146=true;kernel_rfl);simp[val,sk,hb] at this |-;exact this
  ·obtain⟨k1,b5,k2⟩:=h;exact⟨k1,b5,k2.size,k2.old,k2.perm,k2.sorted,k2.at_⟩
  ·obtain⟨k1,b5,k2⟩:=h;exact⟨k1,b5,k2.size,k2.old,k2.perm,k2.sorted,k2.at_⟩
  ·obtain⟨k1,k2⟩:=H4 (cap:=cap) (n:=rs.length) ((aE g SU).trans h2) h6;exact BG g cap rs wl k1 (fun j _=>k2 j) aa aa
  ·rintro wl v aI w' hz aE ⟨rfl,b5,T⟩ B;have ft:=B.gO;have hs:=S.size;have hold:∀b,b<w1.heap.size->b≠g->w'.heap[b]?=w1.heap[b]?:=fun b hb cV=>by
    by_cases ho:o1 b
    ·rw[B.same b (.inl ho),T.old b aa cV,aE b ho]
    ·exact B.rest b hb ho
   have hF:=B.ay;have e:grow o1 w1 w'=grow o w w':=by rw[S.own];exact Q0 hs ft
   have hsm:=B.same g (.inl SU);rw[e] at hF |-;refine⟨rfl,rfl,hF,aa,fun b hb=>by rw[hold b aa aa];exact S.old b hb,.inr ⟨g,cap,b5,rfl,h3,h1,aa,T.perm,T.sorted,fun i hi=>?_⟩⟩;obtain⟨c0,c1,c2⟩:=T.at_ i hi;exact⟨(cell_of hsm).trans c0,(cell_of hsm).trans c1,(cell_of hsm).trans c2⟩
theorem E9(hF:bE ar L0 o w)(Sv Ru c:Nat)(p:Option Addr)(rs:List aL)(hn:rs.length<=8)(SS:o Sv)(hs:w.cell? ⟨Sv,0,none⟩=some (.slice p rs.length c))(hp:rs≠[]->p=some ⟨Ru,0,none⟩)(xz:o Ru)(xU:dX w Ru rs)(eY:∀r∈rs,Cl ar L0 o (.slice r.sa r.sl r.sc)):
  bp ar (XB ar Fin 0) 144 #[.func (.func 186) #[] #[.pointer (some ⟨Sv,0,none⟩)],.func (.func 146) #[] #[]] o w (tQ o w rs):=by
 have W:=bJ (P:=ar) (Fin:=Fin) (d:=0);refine bA W func144 ai ?_;refine aA ?_;refine aF W rfl ai rfl func184 af rfl aC rfl ((NY hF Sv Ru c p rs hn SS hs hp xz xU eY).mono fun v o1 w1 S=>?_);refine aA ?_;refine aF W rfl ai rfl func185 af rfl (vs:=#[v,.func (.func 146) #[] #[]]) aC rfl ((X7 hn S).mono fun v' o2 w2 hq=>?_);obtain⟨rfl,hq⟩:=hq;refine aA ?_;exact⟨.inr trivial,trivial,v,resultsC_tmp (t:=4) ai _,hq⟩
end
section
open Go.RowKit
theorem dX.below{w w':ae}{b:Nat}{rs:List aL}(h:dX w b rs)(hb:b<w.heap.size)(hw:Below w.heap.size w w'):dX w' b rs:=fun k hk=>by
 obtain⟨hc,-⟩:=uM hw;rw[hc _ _ hb,hc _ _ hb,hc _ _ hb];exact h k hk
theorem KC(b c:Nat)(p:Option Addr)(rs:List aL)(w:ae)(hn:rs.length<=100000)(hp:rs≠[]->p=some ⟨b,0,none⟩/\b<w.heap.size)(hv:dX w b rs):
  Calls ar 147 #[.slice p rs.length c] w fun e w'=>e=.returned (.slice (some ⟨w.heap.size,0,none⟩) rs.length rs.length)/\Below w.heap.size w w'/\w.heap.size<w'.heap.size /\
   w'.rowIs w.heap.size 9 rs.length (fun j=>.string ((rs.map (·.out)).getD j aN)):=by
 have LV:=run_make_row' (P:=ar) 40 9 (.string aN) 16 underlying40 pq rfl .i64 .i64 rs.length aa aa;go_enter func147,ntmps147;go_wp2;go_loopw [11] (fun i w'=>∃k:Nat,k<=rs.length/\i=.int .i64 k/\Below w.heap.size w w'/\w.heap.size<w'.heap.size/\w'.rowIs w.heap.size 9 rs.length (fun j=>if j<k then .string ((rs.map (·.out)).getD j aN) else .string aN)) (fun i _=>rs.length-(intOf i).toNat)
 case atStart=>exact⟨0,aQ _,rfl,(Below.refl _ _).alloc (ag _) _,an,by simpa using World.rowIs_made w _ _ _⟩
 case round =>
  obtain⟨k,hk,rfl,gv,hz,b6⟩:=hrel;by_cases bZ:k<rs.length
  ·obtain⟨rfl,hb⟩:=hp (fun e=>by rw[e] at bZ;simp at bZ);obtain⟨h1,h2,h3⟩:=hv.below hb gv k bZ;have hc:=b6.cell bZ;have hf:=b6.frozen k;rw[if_neg aa] at hc;go_wp2;refine⟨⟨k+1,aa,by go_num,(gv.setCell (ag _) _).alloc (by simp[World.setCell];omega) _,by simp[World.setCell];omega,?_⟩,by simp[intOf];omega⟩;refine((b6.set k _).alloc _).congr fun j hj=>?_;by_cases e:j=k
   ·subst e;simp[List.getD,bZ]
   ·by_cases e':j<k
    ·rw[if_neg e,if_pos e',if_pos aa]
    ·rw[if_neg e,if_neg e',if_neg aa]
  ·go_wp2;go_ret;exact⟨rfl,gv,hz,b6.congr fun i hi=>by rw[if_pos aa]⟩
end
section
open Go.RowKit
def rS(w:ae)(b:Nat)(ins:List (Bool×Nat)):Prop:=∀j (h:j<ins.length),w.cell? ⟨b,j*2,none⟩=some (.bool ins[j].1)/\w.cell? ⟨b,j*2+1,none⟩=some (.int .i64 ins[j].2)
theorem rS.below{w w':ae}{b:Nat}{ins:List (Bool×Nat)}(h:rS w b ins)(hb:b<w.heap.size)(hw:Below w.heap.size w w'):rS w' b ins:=fun k hk=>by
 obtain⟨hc,-⟩:=uM hw;rw[hc _ _ hb,hc _ _ hb];exact h k hk
def yg(w:ae)(b:Nat)(zs:List Nat):Prop:=∀j (h:j<zs.length),w.cell? ⟨b,j,none⟩=some (.int .i64 zs[j])
theorem yg.below{w w':ae}{b:Nat}{zs:List Nat}(h:yg w b zs)(hb:b<w.heap.size)(hw:Below w.heap.size w w'):yg w' b zs:=fun k hk=>by
 obtain⟨hc,-⟩:=uM hw;rw[hc _ _ hb];exact h k hk
theorem wW(b c:Nat)(zs:List Nat)(x:Nat)(w:ae)(hn:zs.length<=100000)(h:yg w b zs):
  Calls ar 190 #[.slice (some ⟨b,0,none⟩) zs.length c,.int .i64 x] w fun e w'=>e=.returned (.bool (zs.contains x))/\w'=w:=by
 have:=Tryz.slices_Contains_int b 0 zs.length c (zs.map (fun n:Nat=>(n:Int))) x w an aa (fun j hj=>by
  have rY:j<zs.length:=by simpa using hj
  rw[bh,h j rY];simp[rY])
 refine this.mono fun e w' hq=>?_;obtain⟨rfl,rfl⟩:=hq;refine⟨?_,rfl⟩
 congr 2
 rw[cE an];rw[dD];simp only[List.contains_iff_mem,List.mem_map];exact⟨fun⟨a,h1,h2⟩=>(show a=x by omega)▸h1,fun h=>⟨x,h,rfl⟩⟩
def mg(order:List Nat)(i:Bool×Nat):Bool:=!i.1||order.contains i.2
theorem Fa(b c Ib ic:Nat)(order:List Nat)(ins:List (Bool×Nat))(w:ae)(hn:order.length<=100000)(hi:ins.length<=100000)(hb:b<w.heap.size)(hIb:Ib<w.heap.size)(ho:yg w b order)(hv:rS w Ib ins):
  Calls ar 191 #[.slice (some ⟨b,0,none⟩) order.length c,.slice (some ⟨Ib,0,none⟩) ins.length ic] w fun e w'=>e=.returned (.bool (ins.all (mg order)))/\Below w.heap.size w w'/\w.heap.size<=w'.heap.size:=by
 go_enter func191,ntmps191;go_wp2;go_loopw [9] (fun i w'=>∃k:Nat,k<=ins.length/\i=.int .i64 k/\Below w.heap.size w w'/\w.heap.size<=w'.heap.size/\(ins.take k).all (mg order)=true) (fun i _=>ins.length-(intOf i).toNat)
 case atStart=>exact⟨0,aQ _,rfl,Below.refl _ _,ag _,an⟩
 case round =>
  obtain⟨k,hk,rfl,gv,hz,gY⟩:=hrel;by_cases bZ:k<ins.length
  ·obtain⟨h1,h2⟩:=hv.below hIb gv k bZ;have ho2:=ho.below hb gv;have qJ:=take_succ ins k bZ;generalize hik:ins[k]=ik at *;obtain⟨io,inn⟩:=ik;cases io
   ·go_wp2;refine⟨⟨k+1,aa,by go_num,gv.alloc aa _,eR,?_⟩,by simp[intOf];omega⟩;rw[qJ,List.all_append,gY];simp[mg]
   ·have sd:=wW b c order inn (wr.alloc (.cells #[.bool true,.int .i64 inn] 280)) hn (ho.below hb (gv.alloc aa _));have sP:ins.all (mg order)=true->order.contains inn=true:=fun h=>by
     have:=List.all_eq_true.1 h (true,inn) (by rw[<- hik];exact aD bZ);simpa[mg] using this
    cases NZ:order.contains inn
    ·rw[NZ] at sd;go_wp2_with (go_at_call 190;refine sd.mono ?_;rintro e w' ⟨rfl,rfl⟩);go_ret;have:ins.all (mg order)=false:=by
      cases h:ins.all (mg order)
      ·rfl
      ·have:=sP h;rw[NZ] at this;cases this
     rw[this];exact⟨rfl,gv.alloc aa _,eR⟩
    ·rw[NZ] at sd;go_wp2_with (go_at_call 190;refine sd.mono ?_;rintro e w' ⟨rfl,rfl⟩);refine⟨⟨k+1,aa,by go_num,gv.alloc aa _,eR,?_⟩,by simp[intOf];omega⟩;rw[qJ,List.all_append,gY];simp[mg];simpa using NZ
  ·go_wp2;go_ret;rw[cE aa] at gY;rw[gY];exact⟨rfl,gv,hz⟩
end
section
open Go.RowKit
def pv(ins:Nat->List (Bool×Nat))(ord:List Nat)(s:Nat):List Nat:=if ord.contains s=false/\(ins s).all (mg ord)=true then ord++[s] else ord
def mh(ins:Nat->List (Bool×Nat))(ord:List Nat)(k:Nat):List Nat:=(List.range k).foldl (pv ins) ord
def dK(ins:Nat->List (Bool×Nat))(n:Nat):Nat->List Nat
 |0=>[]
 |r+1=>mh ins (dK ins n r) n
theorem pw(ins:Nat->List (Bool×Nat))(ord:List Nat)(k:Nat):mh ins ord (k+1)=pv ins (mh ins ord k) k:=by
 simp[mh,List.range_succ]
theorem tR:∀(n:Nat) (l:List Nat),l.Nodup->(∀x∈l,x<n)->l.length<=n
 |0,l,_,h=>by
  cases l with
  |nil=>simp
  |cons x r=>exact absurd (h x an) aa
 |n+1,l,hd,h=>by
  have h1:=tR n (l.erase n) (hd.erase n) (fun x hx=>by
   have h2:=(hd.mem_erase_iff).1 hx;have:=h x h2.2;have:=h2.1;omega)
  have h2:=List.length_erase (a:=n) (l:=l);split at h2<;>omega
def nF(n:Nat)(ord:List Nat):Prop:=ord.Nodup/\∀x∈ord,x<n
theorem nF.step{n:Nat}{ord:List Nat}(h:nF n ord)(ins:Nat->List (Bool×Nat)){s:Nat}(hs:s<n):nF n (pv ins ord s):=by
 unfold pv;split
 ·rename_i hc;have hm:s∉ord:=fun hm=>by have:=hc.1;rw[List.contains_iff_mem.2 hm] at this;cases this
  refine⟨?_,fun x hx=>?_⟩
  ·rw[List.nodup_append];refine⟨h.1,an,fun a ha b hb=>?_⟩;simp at hb;subst hb;exact fun e=>hm (e▸ha)
  ·simp at hx;rcases hx with hx|rfl
   ·exact h.2 x hx
   ·exact hs
 ·exact h
theorem nF.pass{n:Nat}{ord:List Nat}(h:nF n ord)(ins:Nat->List (Bool×Nat)):∀k,k<=n->nF n (mh ins ord k)
 |0,_=>by simpa[mh] using h
 |k+1,hk=>by rw[pw];exact(nF.pass h ins k aa).step ins aa
theorem nF.all(n:Nat)(ins:Nat->List (Bool×Nat)):∀r,nF n (dK ins n r)
 |0=>⟨by simp[dK],by simp[dK]⟩
 |r+1=>(nF.all n ins r).pass ins n (ag _)
theorem L8:(ar.info? 3).map (fun i=>(i.zero,i.size,i.bytes))=some (some (.int .i64 0),1,8):=af
structure oE(w:ae)(St n:Nat)(out:Nat->ah)(eD:Nat->Int)(ins:Nat->List (Bool×Nat))(cw:Nat->Nat):Prop where
 out:∀s,s<n->w.cell? ⟨St,s*3,none⟩=some (.string (out s))
 eD:∀s,s<n->w.cell? ⟨St,s*3+1,none⟩=some (.int .i64 (eD s))
 zJ:∀s,s<n->w.cell? ⟨St,s*3+2,none⟩=some (.slice (some ⟨cw s,0,none⟩) (ins s).length (ins s).length)
 Bw:∀s,s<n->rS w (cw s) (ins s)
 lt:∀s,s<n->cw s<w.heap.size
 short:∀s,s<n->(ins s).length<=100000
def kI(w:ae)(B n:Nat)(ord:List Nat):Prop:=w.rowIs B 3 n fun j=>.int .i64 ((ord.getD j 0:Nat):Int)
theorem kI.nums{w:ae}{B n:Nat}{ord:List Nat}(h:kI w B n ord)(hl:ord.length<=n):yg w B ord:=fun j hj=>by
 rw[h.cell aa];simp[hj]
theorem BH(W:ae)(B n x:Nat)(ord:List Nat)(A:Nat)(h:kI W B n ord)(bZ:ord.length<n)(ha:W.cell? ⟨A,0,none⟩=some (.int .i64 x)):
  (Builtin.append_ #[130,130] 130 #[.slice (some ⟨B,0,none⟩) ord.length n,.slice (some ⟨A,0,none⟩) 1 1]).run ar W=.ok (.slice (some ⟨B,0,none⟩) (ord.length+1) n) (W.setCell ⟨B,ord.length,none⟩ (.int .i64 x)):=by
 obtain⟨i,hi,oF⟩:=Option.map_eq_some_iff.1 L8;simp only[Prod.mk.injEq] at oF;have:=run_append_room_cells (P:=ar) W 130 130 3 i underlying130 hi B 0 ord.length n ⟨A,0,none⟩ 1 1 [.int .i64 x] (by simp[oF.2.1]) (fun j u hj=>by
  cases j with
  |zero=>simp at hj;subst hj;simpa[Addr.add] using ha
  |succ j=>simp at hj) (by simp;rfl) aa (fun j hj=>by
   simp at hj;subst hj;rw[oF.2.1];simp[h.cell bZ]) (fun j hj=>by
   simp at hj;subst hj;rw[oF.2.1];have:=h.frozen ord.length;simpa using this)
 rw[oF.2.1] at this;simpa[World.setCells] using this
theorem kI.put{w:ae}{B n:Nat}{ord:List Nat}(h:kI w B n ord)(bZ:ord.length<n)(x:Nat):kI (w.setCell ⟨B,ord.length,none⟩ (.int .i64 x)) B n (ord++[x]):=by
 refine(World.rowIs.set h ord.length (.int .i64 x)).congr fun j hj=>?_;by_cases e:j=ord.length
 ·subst e;simp
 ·rw[if_neg e];by_cases e':j<ord.length
  ·simp[List.getD,e',List.getElem?_append_left e']
  ·simp[List.getD,List.getElem?_eq_none (show ord.length<=j by omega),List.getElem?_eq_none (show(ord++[x]).length<=j by simp;omega)]
end
section
open Go.RowKit
theorem fM{P:Program}{w w':ae}{ops:Array Oper}{rest:List Oper}{o:Oper}{a:Act}{Q:Exit->Act->ae->Prop}{v xv v':Value}(hgd:o.guard=none)(s x:Operand)(t:TypeId)(ho:o.op=.call {callee:=.builtin .append,args:=#[s,x],argTypes:=#[t,t]})(hs:a.eval s=v)(hx:a.eval x=xv)(hr:(Builtin.append_ #[t,t] o.type #[v,xv]).run P w=.ok v' w')(h:wpList P ops Q rest (a.put o.dst v') w'):wpList P ops Q (o::rest) a w :=
 wpList_plain hgd fun _ hK=>by
  unfold Oper.wp execOp;simp only[ho,resolve,invoke,builtin,Sem.run_bind,Sem.run_pure,Result.andThen_ok,List.map_toArray,List.map_cons,List.map_nil,hs,hx,hr];exact hK _ _ h
theorem jR(w:ae)(x:Obj):(w.alloc x).heap[w.heap.size]?=some x:=by
 show(w.heap.push x)[w.heap.size]?=_;simp
theorem vw(w:ae)(cs:Array Value)(t:TypeId)(j:Nat):(w.alloc (.cells cs t)).cell? ⟨w.heap.size,j,none⟩=cs[j]?:=by
 simp only[World.cell?];rw[jR];rfl
theorem nF.room{n:Nat}{ord:List Nat}(h:nF n ord){s:Nat}(hs:s<n)(hc:ord.contains s=false):ord.length<n:=by
 have hm:s∉ord:=fun hm=>by rw[List.contains_iff_mem.2 hm] at hc;cases hc
 have:=tR n (ord++[s]) (by
  rw[List.nodup_append];refine⟨h.1,an,fun a ha b hb=>?_⟩;simp at hb;subst hb;exact fun e=>hm (e▸ha)) (fun x hx=>by
  simp at hx;rcases hx with hx|rfl
  ·exact h.2 x hx
  ·exact hs)
 simp at this;omega
theorem H5(St n sc:Nat)(out:Nat->ah)(eD:Nat->Int)(ins:Nat->List (Bool×Nat))(cw:Nat->Nat)(w:ae)(hn:n<=1000)(X8:St<w.heap.size)(dW:oE w St n out eD ins cw):
  Calls ar 150 #[.slice (some ⟨St,0,none⟩) n sc] w fun e w'=>e=.returned (.slice (some ⟨w.heap.size,0,none⟩) (dK ins n n).length n)/\Below w.heap.size w w'/\w.heap.size<w'.heap.size/\kI w' w.heap.size n (dK ins n n):=by
 have LV:=Go.run_make_room (P:=ar) 130 3 (.int .i64 0) 8 underlying130 L8 rfl .i64 .i64 n aa aa;go_enter func150,ntmps150;go_wp2;go_loopw [3,11] (fun v i w'=>∃r:Nat,r<=n/\i=.int .i64 r/\v=.slice (some ⟨w.heap.size,0,none⟩) (dK ins n r).length n/\Below w.heap.size w w'/\w.heap.size<w'.heap.size/\kI w' w.heap.size n (dK ins n r)) (fun v i _=>n-(intOf i).toNat)
 case atStart=>exact⟨0,aQ _,rfl,rfl,(Below.refl _ _).alloc (ag _) _,an,by simpa[kI,dK] using World.rowIs_made w _ _ _⟩
 case round =>
  obtain⟨r,hr,rfl,rfl,gv,hz,b6⟩:=hrel;by_cases bZ:r<n
  ·go_wp2;go_loopw [3,15] (fun v i w'=>∃k:Nat,k<=n/\i=.int .i64 k/\v=.slice (some ⟨w.heap.size,0,none⟩) (mh ins (dK ins n r) k).length n/\Below w.heap.size w w'/\w.heap.size<w'.heap.size/\kI w' w.heap.size n (mh ins (dK ins n r) k)) (fun v i _=>n-(intOf i).toNat)
   case atStart=>exact⟨0,aQ _,rfl,by simp[mh],gv,hz,by simpa[mh] using b6⟩
   case round =>
    clear gv hz b6;obtain⟨k,hk,rfl,rfl,gv,hz,b6⟩:=hrel;by_cases I4:k<n
    ·have ja:nF n (mh ins (dK ins n r) k):=(nF.all n ins r).pass ins k hk;have wX:=pw ins (dK ins n r) k;have hle:=tR n _ ja.1 ja.2;generalize abp:mh ins (dK ins n r) k=ord at *;have c0:=(gv.cell (p:=⟨St,k*3,none⟩) X8).trans (dW.out k I4);have c1:=(gv.cell (p:=⟨St,k*3+1,none⟩) X8).trans (dW.eD k I4);have c2:=(gv.cell (p:=⟨St,k*3+2,none⟩) X8).trans (dW.zJ k I4);have VZ:ord.length<=100000:=aa;generalize X9:wr.alloc (.cells #[.string (out k),.int .i64 (eD k),.slice (some ⟨cw k,0,none⟩) (ins k).length (ins k).length] 220)=wa;have ca:wa.cell? ⟨wr.heap.size,2,none⟩=some (.slice (some ⟨cw k,0,none⟩) (ins k).length (ins k).length):=by rw[<- X9];exact vw _ _ _ 2
     have hba:Below w.heap.size w wa:=X9▸gv.alloc aa _;have uj:wa.heap.size=wr.heap.size+1:=by rw[<- X9];simp
     have Um:kI wa w.heap.size n ord:=X9▸World.rowIs.alloc b6 _;have sd:=wW w.heap.size n ord k wa VZ (Um.nums hle);have SV:rS wa (cw k) (ins k):=(dW.Bw k I4).below (dW.lt k I4) hba;have VO:=dW.lt k I4;have gY:=Fa w.heap.size n (cw k) (ins k).length ord (ins k) wa VZ (dW.short k I4) aa aa (Um.nums hle) SV;cases NZ:ord.contains k
     ·rw[NZ] at sd;have hll:ord.length<n:=ja.room I4 NZ;cases qg:(ins k).all (mg ord)
      ·rw[qg] at gY;have GH:pv ins ord k=ord:=by simp only[pv];rw[if_neg];rw[qg];simp
       rw[GH] at wX;go_wp2_with (first|(go_at_call 190;(try rw[X9]);refine sd.mono ?_;rintro e w' ⟨rfl,rfl⟩)|(go_at_call 191;refine gY.mono ?_;rintro e w2 ⟨rfl,pE,Ya⟩));exact⟨⟨k+1,aa,by go_num,by rw[wX],hba.trans (pE.mono aa),aa,by rw[wX];exact World.rowIs.of_block Um (pE.block _ aa)⟩,by simp[intOf];omega⟩
      ·rw[qg] at gY;have GH:pv ins ord k=ord++[k]:=by simp only[pv];rw[if_pos ⟨NZ,qg⟩]
       rw[GH] at wX;have afq:∀w2:ae,kI w2 w.heap.size n ord->(Builtin.append_ #[130,130] 130 #[.slice (some ⟨w.heap.size,0,none⟩) ord.length n,.slice (some ⟨w2.heap.size,0,none⟩) 1 1]).run ar (w2.alloc (.cells #[.int .i64 k] 3))=.ok (.slice (some ⟨w.heap.size,0,none⟩) (ord.length+1) n) ((w2.alloc (.cells #[.int .i64 k] 3)).setCell ⟨w.heap.size,ord.length,none⟩ (.int .i64 k)):=fun w2 h2=>BH _ w.heap.size n k ord w2.heap.size (World.rowIs.alloc h2 _) hll (vw _ _ _ 0);go_wp2_with (first|(go_at_call 190;(try rw[X9]);refine sd.mono ?_;rintro e w' ⟨rfl,rfl⟩)|(go_at_call 191;refine gY.mono ?_;rintro e w2 ⟨rfl,pE,Ya⟩;have Kp:kI w2 w.heap.size n ord:=World.rowIs.of_block Um (pE.block _ aa);have hap:=afq w2 Kp)|(at_builtin;refine fM rfl _ _ 130 rfl rfl rfl hap ?_));refine⟨⟨k+1,aa,by go_num,by rw[wX];simp,?_,by simp[World.setCell];omega,?_⟩,by simp[intOf];omega⟩
       ·exact((hba.trans (pE.mono aa)).alloc aa _).setCell (ag _) _
       ·rw[wX];exact kI.put (World.rowIs.alloc Kp _) hll k
     ·rw[NZ] at sd;have GH:pv ins ord k=ord:=by simp only[pv];rw[if_neg];rw[NZ];simp
      rw[GH] at wX;go_wp2_with (go_at_call 190;(try rw[X9]);refine sd.mono ?_;rintro e w' ⟨rfl,rfl⟩);exact⟨⟨k+1,aa,by go_num,by rw[wX],hba,aa,by rw[wX];exact Um⟩,by simp[intOf];omega⟩
    ·have e:k=n:=aa;subst e;go_wp2;exact⟨⟨r+1,aa,by go_num,rfl,gv,hz,b6⟩,by simp[intOf];omega⟩
  ·go_wp2;go_ret;have e:r=n:=aa;subst e;exact⟨rfl,gv,hz,b6⟩
end
end Go.Proofs.Kz
