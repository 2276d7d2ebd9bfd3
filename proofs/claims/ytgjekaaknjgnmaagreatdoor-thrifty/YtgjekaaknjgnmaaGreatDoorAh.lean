import Derived.Test.YtgjekaaknjgnmaaGreatDoorAg
import Derived.Carry
import Derived.ChangeMaps5
import Derived.Conc.HoldsTime
import Derived.LaidLaws
import Derived.LaidMore
import Derived.Stop.Joined
import Derived.Test.YtgjekaaknjgnmaaGreatDoorCards
import Derived.Test.YtgjekaaknjgnmaaGreatDoorTie
set_option linter.all false
set_option maxHeartbeats 40000000
set_option maxRecDepth 200000
namespace Go.Proofs.Kz
open Go.Proofs.Tryz
open Go.Proofs.Tryz renaming prog → ax
open _root_.ByteArray renaming empty → aR
open _root_.Option renaming some → so,none → we
open Go.Ren Go.Conc Go.Proofs Go.ConcN
open Go.ConcR (Payload)
def iI(a:Int):af:=kj[ee a 6]'(nt a aa)
def KH(a:Int):iI a∈kj:=aG _
section
variable {Fin:bL}{o o' o1 o2:aM}{w w' w1 w2:ae}{S:Nat}{K:mK}{s s':fO}{lab lab' dD iH:Nat->Nat}{rv fv:Value}{fs:List (af×af)}{ed:Nat}
structure tj(o:aM)(w:ae)(S:Nat)(K:mK)(s:fO)(lab:Nat->Nat)(rv fv:Value)(fs:List (af×af))(ed:Nat):Prop where
 dv:bp o w K s 0 lab
 sound:Sound K s
 blk:w.heap[S]?=so (.cells #[.pointer (so ⟨K.kb,0,we⟩),rv,fv,.int .i64 ed] 39)
 own:o S
 KI:lab S=7
 files:px o w fv fs
 Vg:∀g,fv.ownBlock=so g->lab g=7/\g≠S
 yW:gf s fs
structure fU(S:Nat)(o:aM)(w:ae)(lab:Nat->Nat)(o':aM)(w':ae)(lab':Nat->Nat):Prop where
 br:bC (λb=>lab b<=6\/b=S) o w o' w'
 lab:∀b,b<w.heap.size->lab' b=lab b
def fU.refl(hF:bO ax L0 o w):fU S o w lab o w lab:=⟨bC.refl hF,λ_ _=>rfl⟩
def fU.trans(h:fU S o w lab o1 w1 dD)(k:fU S o1 w1 dD o2 w2 iH):fU S o w lab o2 w2 iH:=by
 have hz:=h.br.size;refine⟨⟨k.br.aH,λb hb=>k.br.more b (h.br.more b hb),λb hb=>(k.br.new b hb).elim (λq=>h.br.new b q) λq=>.inr aa,by have:=k.br.size;omega,λb hb hx=>?_⟩,λb hb=>(k.lab b aa).trans (h.lab b hb)⟩;rw[k.br.same b aa (by rw[h.lab b hb];exact hx),h.br.same b hb hx]
def fU.k(h:fU S o w lab o1 w1 dD)(k:cU o1 w1 dD o2 w2 iH):fU S o w lab o2 w2 iH:=h.trans ⟨k.br.mono λb hb=>.inl hb,k.lab⟩
def fU.wrote{A:Nat}(h:fU S o w lab o1 w1 dD)(hA:w.heap.size<=A\/A=S)(hF:bO ax L0 o1 w2)(on:eM A w1 w2):fU S o w lab o1 w2 dD:=by
 refine⟨⟨hF,h.br.more,h.br.new,by rw[on.1];exact h.br.size,λb hb hx=>?_⟩,h.lab⟩;rw[on.2 b (λe=>by rcases hA with q|q;omega;exact hx (.inr (e.trans q)))];exact h.br.same b hb hx
def bp.X3{lk:Int}(h:bp o1 w1 K s lk dD)(hl:dD S=7)(hSz:S<w1.heap.size)(W:bC (λb=>b=S) o1 w1 o2 w2):∃iH,bp o2 w2 K s lk iH/\fU S o1 w1 dD o2 w2 iH/\(∀b,b<w1.heap.size->iH b=dD b)/\∀b,w1.heap.size<=b->iH b=7:=by
 have hq:∀b,b<w1.heap.size->(if b<w1.heap.size then dD b else 7)=dD b:=λb hb=>if_pos hb;refine⟨λb=>if b<w1.heap.size then dD b else 7,(h.OC λb hb=>hq b (h.aH.lt hb)).aside W (λb hb=>?_),⟨W.mono λb hb=>.inr hb,hq⟩,hq,λb hb=>if_neg aa⟩;rw[hb,hq S hSz];exact hl
def bp.Hz{A:Nat}{lk:Int}(h:bp o1 w1 K s lk dD)(U:fU S o w lab o1 w1 dD)(hl:dD A=7)(hA:w.heap.size<=A\/A=S)(hF:bO ax L0 o1 w2)(on:eM A w1 w2):bp o1 w2 K s lk dD/\fU S o w lab o1 w2 dD :=
 ⟨h.aside (ex:=λb=>b=A) (bC.dM hF on rfl) λb hb=>by rw[hb];exact hl,U.wrote hA hF on⟩
def nW{w:ae}{b:Nat}{t:TypeId}{c0 c1 c2 c3:Value}(h:w.heap[b]?=so (.cells #[c0,c1,c2,c3] t)):w.cell? ⟨b,0,we⟩=so c0/\w.cell? ⟨b,1,we⟩=so c1/\w.cell? ⟨b,2,we⟩=so c2/\w.cell? ⟨b,3,we⟩=so c3:=by
 simp[World.cell?,h]
def px.step(h:px o w fv fs)(hl:∀g,fv.ownBlock=so g->lab g=7/\g≠S)(U:fU S o w lab o' w' lab')(hF:bO ax L0 o w):px o' w' fv fs/\∀g,fv.ownBlock=so g->lab' g=7/\g≠S:=by
 have cx:∀g,fv.ownBlock=so g->g<w.heap.size:=λg hg=>hF.lt (iC hF h.cl g hg);refine⟨h.keep U.br.more λg hg=>U.br.same g (cx g hg) (by rw[(hl g hg).1];intro q;rcases q with q|q;omega;exact(hl g hg).2 q),λg hg=>⟨(U.lab g (cx g hg)).trans (hl g hg).1,(hl g hg).2⟩⟩
def uX{d A:Nat}{fn:FuncId}{Q:Exit->Act->aM->ae->Prop}{x:Act}{ops:Array Oper}{i:Nat}{rest:List Nat}{e:Oper}{lk n0:Int}{y0:af}(n:Int)(y:af)(h:bp o1 w1 K s lk dD)(U:fU S o w lab o1 w1 dD)(hl:dD A=7)(hA:w.heap.size<=A\/A=S)(oA:o1 A)(kA:w1.heap[A]?=so (.cells #[.int .i64 n0,.string y0] 32))(k:∀w2,bp o1 w2 K s lk dD->fU S o w lab o1 w2 dD->eM A w1 w2->w2.heap[A]?=so (.cells #[.int .i64 n,.string y] 32)->eX (XB ax Fin d) fn ops rest Q (x.put we undef) o1 w2)(h5:ops[i]?=so e:=by rfl)(h6:Region.wanted e (yielded ops x.tmps)=true:=by rfl)(h7:∃p v,e.op=.store 32 p v/\x.eval p=.pointer (so ⟨A,0,we⟩)/\x.eval v=.agg #[.int .i64 n,.string y]:=by exact⟨_,_,rfl,rfl,rfl⟩)(h8:e.dst=we:=by rfl):eX (XB ax Fin d) fn ops (i::rest) Q x o1 w1:=by
 refine mA n y h.aH oA kA (λw2 rj on kA2=>?_) h5 h6 h7 h8;obtain⟨h2,U2⟩:=h.Hz U hl hA rj on;exact k w2 h2 U2 on kA2
def vH{A:Nat}{n:Int}{y:af}{tmps:Array Value}(kA:w.heap[A]?=so (.cells #[.int .i64 n,.string y] 32))(oA:o A)(h4:tmps[4]?=so (.pointer (so ⟨A,0,we⟩)):=by rfl)(h5:tmps[5]?=so (.bool true):=by rfl):uu ax (λ_=>AtRel) (GuO Fin) Tryz.f14 tmps o w (.tuple #[.agg #[.int .i64 n,.string y],.bool true]):=by
 refine xc (λm=>?_) (λm e he=>?_)
 ·obtain⟨c0,c1,-⟩:=dY (w:=w.at m) kA;simp[results,results14,go_sem,c0,c1,h4,h5]
 ·obtain⟨c0,c1,-⟩:=dY (w:=w.at m) kA;simp[results,results14,go_sem,c0,c1,h4,h5]at he;rcases he with rfl|rfl;all_goals exact⟨_,_,_,rfl,oA⟩
def DO(K:mK)(kd a b:Int)(s s':fO)(fs fs':List (af×af))(ed Zs:Nat)(n:Int)(y:af):Prop :=
 (kd=0/\n=0/\y=aR/\Zs=ed+1/\fs'=oW fs (iI a) (qD b) true/\∃rM,s'={s with th:=gi s.th (iI a) (qD b),st:=gi s.st (iI a) (IntKind.i64.wrap (cN s.st (iI a)+1)),qv:=rM,qn:=(iw s.qn s.lost (iI a)).1,lost:=(iw s.qn s.lost (iI a)).2}) \/
 (kd=1/\n=0/\y=aR/\fs'=oW fs (iI a) aR false/\((eR s.th (iI a)≠we/\Zs=ed+1/\∃rM,s'={s with th:=lZ s.th (iI a),st:=gi s.st (iI a) (IntKind.i64.wrap (cN s.st (iI a)+1)),qv:=rM,qn:=(iw s.qn s.lost (iI a)).1,lost:=(iw s.qn s.lost (iI a)).2})\/(eR s.th (iI a)=we/\Zs=ed/\s'=s))) \/
 (kd=2/\n=0/\y=aR/\fs'=fs/\Zs=ed/\((¬rN s.time (1+ee a 9)/\s'=s)\/(rN s.time (1+ee a 9)/\s'={s with time:=s.time+(1+(ee a 9:Int)).toNat}))) \/
 (kd≠0/\kd≠1/\kd≠2/\fs'=fs/\Zs=ed/\∃F,((s.phase=2\/s.phase=3)->∃lo,s.fd=so (lo,F))/\gL K s s' F (fileOf s.src (s.rd.map (·.1))) (did n y))
def abD[Payload](h:tj o w S K s lab rv fv fs ed)(kd a b:Int)(ha1:-9223372036854775808<=a)(ha2:a<=9223372036854775807)(BH:-9223372036854775808<=b)(pB:b<=9223372036854775807)(Vh:ed<4611686018427387904):
  bA ax (XB ax Fin 0) 14 #[.pointer (so ⟨S,0,we⟩),.agg #[.int .i64 kd,.int .i64 a,.int .i64 b]] o w λv o' w'=>∃n y s' lab' xC fs' Zs,v=.tuple #[.agg #[.int .i64 n,.string y],.bool true]/\tj o' w' S K s' lab' rv xC fs' Zs/\DO K kd a b s s' fs fs' ed Zs n y/\fU S o w lab o' w' lab'/\∀g,xC.ownBlock=so g->fv.ownBlock=so g\/w.heap.size<=g:=by
 have W:=bY (P:=ax) (Fin:=Fin) (d:=0);have hSl:=h.dv.aH.lt h.own;refine eD W func14 ak ?_;walk_nrmf Tryz.f14;refine ay ?_;refine dm bS h.dv.aH rfl ak ak ?_ rfl (R:=λwl v aX=>v=.pointer (so ⟨wl.heap.size,0,we⟩)/\aX=wl.alloc (Obj.cells #[.int .i64 kd,.int .i64 a,.int .i64 b] 30)) (λwl aW=>⟨_,_,by first|(simp[go_sem];done)|(simp[go_sem];rfl),rfl,rfl⟩) λwl v1 aX w1 aW hR bP=>?_
 ·refine mo ?_;refine fW (vs:=[_,_,_]) (λx hx=>?_);simp at hx;rcases hx with rfl|rfl|rfl;all_goals exact dV
 obtain⟨rfl,hR⟩:=hR;obtain⟨z1,k1,sV⟩:=bP.alloc h.dv.aH aW hR;obtain⟨W1,hX1⟩:=bC.rC bP.aH z1 k1;rw[aW.size];clear hR bP aW wl aX;generalize grow o w w1=o1 at *;have l1:w.heap.size<w1.heap.size:=aa;clear z1;refine ay ?_;refine dm bS W1.aH rfl ak ak nf rfl (R:=λwl v aX=>v=.pointer (so ⟨wl.heap.size,0,we⟩)/\aX=wl.alloc (Obj.cells #[.int .i64 0,.string aR] 32)) (λwl aW=>⟨_,_,by first|(simp[go_sem];done)|(simp[go_sem];rfl),rfl,rfl⟩) λwl v1 aX w2 aW hR bP=>?_;obtain⟨rfl,hR⟩:=hR;obtain⟨z2,k2,VZ⟩:=bP.alloc W1.aH aW hR;obtain⟨W2,I7⟩:=bC.rC bP.aH z2 k2;rw[aW.size];clear hR bP aW wl aX;generalize grow o1 w1 w2=o2 at *;have hX2:=(k2 _ aa).trans sV;have oX2:=W2.more _ hX1;have l2:w1.heap.size<w2.heap.size:=aa;clear z2;refine ay ?_;refine b5 func18 (Hs W2.aH) ?_;rintro v3 o3 w3 ⟨N3,rfl,z3,kn3⟩;have W3:bC (λ_=>False) o2 w2 o3 w3:=bC.dJ N3;have UQ:o3 w2.heap.size:=by rw[N3.own];exact .inr ⟨ah _,aa⟩
 have hX3:=(N3.old _ aa).trans hX2;have vu:=(N3.old w1.heap.size aa).trans VZ;have oX3:=W3.more _ oX2;have oA3:=W3.more _ I7;have hAX:w.heap.size<w1.heap.size/\w1.heap.size<w2.heap.size:=⟨aa,aa⟩;have W03:=(W1.trans W2).trans W3;have zz3:w2.heap.size<w3.heap.size:=aa;clear z3 l1 l2 k1 k2 sV VZ hX1 hX2 oX2 I7 N3 W1 W2 W3;obtain⟨mB,h3,T3,Bi,OE⟩:=h.dv.grown (cU.refl h.dv.aH) W03;have U3:=(fU.refl (S:=S) (lab:=lab) h.dv.aH).k T3;have hlX:=OE w.heap.size (ah _);have hlA:=OE w1.heap.size aa;have afG:mB S=7:=(Bi S hSl).trans h.KI;have hS3:=(W03.same S hSl id).trans h.blk;have Zt:=W03.more _ h.own;obtain⟨X4,afH⟩:=h.files.step h.Vg U3 h.dv.aH;clear OE Bi T3 W03;have hp:=nt a (n:=6) aa;have tQ:w3.cell? ⟨w2.heap.size,ee a 6,we⟩=so (.string (iI a)):=by
  have hc6:lH[ee a 6]?=so (.string (iI a)):=by
   rw[lH,iE,dO,bm hp];rfl
  simp[World.cell?,kn3,hc6]
 have hpI:((ee a 6:Nat):Int)<6:=aa;have vq:=KH a;have SL:=pX vq;have Yz:(iI a).size<=9223372036854775807:=by have:=SL.2.1;omega
 obtain⟨x0,x1,x2,-⟩:=fa hX3;generalize Xx:w2.heap.size=Nb at *;generalize hAe:w1.heap.size=A at *;generalize hXe:w.heap.size=X at *;have RS:w.heap.size<=A:=aa;have uY:A≠S:=aa;have anq:X≠S:=aa;clear Xx hAe;refine ay ?_;refine jJ h3.aH oX3 x1 λ_=>?_;refine ay ?_;refine b5 func19 (Aj h3.aH a 6 ha1 ha2 aa aa) ?_;rintro v4 o4 w4 ⟨rfl,N4⟩;have W4:bC (λ_=>False) o3 w3 o4 w4:=bC.dJ N4;obtain⟨sx,h4,T4,HQ,-⟩:=h3.grown (cU.refl h3.aH) W4;have U4:=U3.k T4;have zA3:=h3.aH.lt oA3;have zX3:=h3.aH.lt oX3;have zS3:=h3.aH.lt Zt;have hX4:=(N4.old X zX3).trans hX3;have tH:=(N4.old A zA3).trans vu;have RV:=(N4.old S zS3).trans hS3;have aks:=(cell_of (N4.old Nb zz3)).trans tQ;have akt:=W4.more _ UQ;have oX4:=W4.more _ oX3;have Na:=W4.more _ oA3;have Eb:=W4.more _ Zt;have arM:=(HQ X zX3).trans hlX;have Q8:=(HQ A zA3).trans hlA;have Q9:=(HQ S zS3).trans afG;obtain⟨X5,Vi⟩:=X4.step afH ((fU.refl (S:=S) h3.aH).k T4) h3.aH;obtain⟨x0,x1,x2,-⟩:=fa hX4;have d0:w4.cell? ⟨S,0,we⟩=so (.pointer (so ⟨K.kb,0,we⟩)):=by simp[World.cell?,RV]
 clear hX3 vu hS3 tQ UQ oX3 oA3 Zt hlX hlA afG X4 afH T4 HQ N4 W4 h3 U3 zz3 zA3 zX3 zS3 kn3;refine ay ?_;refine jJ h4.aH akt aks λ_=>?_;refine ay ?_;refine jJ h4.aH oX4 x0 λ_=>?_;walk_nrm;by_cases HY:kd=0
 ·subst HY;refine ay ?_;refine jJ h4.aH oX4 x2 λ_=>?_;refine ay ?_;refine b5 func20 (OJ h4.aH b BH pB) ?_;rintro v5 o5 w5 ⟨rfl,N5⟩;have W5:bC (λ_=>False) o4 w4 o5 w5:=bC.dJ N5;obtain⟨nV,h5,T5,R5,-⟩:=h4.grown (cU.refl h4.aH) W5;have U5:=U4.k T5;have xj:=(N5.old A (h4.aH.lt Na)).trans tH;have nA:=(N5.old S (h4.aH.lt Eb)).trans RV;have EV:=W5.more _ Na;have Ec:=W5.more _ Eb;have uQ:=(R5 A (h4.aH.lt Na)).trans Q8;have xq:=(R5 S (h4.aH.lt Eb)).trans Q9;obtain⟨UY,EW⟩:=X5.step Vi ((fU.refl (S:=S) h4.aH).k T5) h4.aH;have d05:w5.cell? ⟨S,0,we⟩=so (.pointer (so ⟨K.kb,0,we⟩)):=by simp[World.cell?,nA]
  refine ay ?_;refine jJ h5.aH Ec d05 λ_=>?_;refine ay ?_;refine b5 func21 (MT h5 (iI a) (qD b) Yz) ?_;rintro v6 o6 w6 ⟨Nc,T6,hq⟩;have wu:isName (iI a)/\(qD b).size<=12/\¬(eR s.th (iI a)=we/\12<=s.th.length):=⟨SL,xo b,λq=>by have:=h.yW.gF.1;omega⟩;rcases hq with⟨e,-,-,q,-⟩|⟨rfl,-,rM,h6⟩
  ·exact absurd wu q
  have u6:=h.sound.edit (x:=iI a) (t:=qD b) (xo b) (gi s.st (iI a) (IntKind.i64.wrap (cN s.st (iI a)+1))) rM;have X6:=(T6.br.same A (h5.aH.lt EV) (by rw[uQ];omega)).trans xj;have X7:=(T6.br.same S (h5.aH.lt Ec) (by rw[xq];omega)).trans nA;have FY:=T6.br.more _ EV;have HA:=T6.br.more _ Ec;have Nd:=(T6.lab A (h5.aH.lt EV)).trans uQ;have EX:=(T6.lab S (h5.aH.lt Ec)).trans xq;obtain⟨X8,DQ⟩:=UY.step EW ((fU.refl (S:=S) h5.aH).k T6) h5.aH;have U6:=U5.k T6;refine ay ?_;refine b5 func22 (OL h6.aH S _ rv fv ed fs (iI a) (qD b) true X7 HA X8 (by have:=h.yW.gF.2;omega) (λe=>(DQ S e).2 rfl)) ?_;rintro v7 o7 w7 ⟨rfl,W7,xC,Vj,hf7,OQ⟩;obtain⟨Ah,h7,T7,qG,hn7⟩:=h6.X3 EX (h6.aH.lt HA) W7;have U7:=U6.trans T7;have Mp:=(W7.same A (h6.aH.lt FY) uY).trans X6;have Zu:=W7.more _ FY;have Nf:=W7.more _ HA;have M0:=(qG A (h6.aH.lt FY)).trans Nd;have Ng:=(qG S (h6.aH.lt HA)).trans EX;have Ra:∀g,xC.ownBlock=so g->Ah g=7/\g≠S:=λg hg=>⟨hn7 g (OQ g hg),by have:=OQ g hg;have:=h6.aH.lt HA;omega⟩;have hwe:IntKind.i64.wrap ((ed:Int)+1)=((ed+1:Nat):Int):=by rw[IntKind.wrap_i64]<;>omega
  refine ay ?_;refine jJ h7.aH Nf (nW Vj).2.2.2 λ_=>?_;refine ay ?_;refine dA bS h7.aH rfl ak ak ?_ rfl (R:=λwl aX=>aX=wl.setCell ⟨S,3,we⟩ (.int .i64 ((ed+1:Nat):Int))) (λwl aW=>⟨_,?_,rfl⟩) λwl aX w8 aW hR bP=>?_
  ·exact jF (bX Nf) dV
  ·have e:=(aW.heap _ Nf).trans Vj;have e3:wl.cell? ⟨S,3,we⟩=so (.int .i64 ed):=by simp[World.cell?,e]
   have f3:wl.frozen? ⟨S,3,we⟩=false:=by simp[World.frozen?,e]
   simp[go_sem,e3,f3,hwe]
  have hO:eM S wl aX:=by rw[hR];exact iX _ _ _ _
  obtain⟨FQ,kSx,ey⟩:=bP.only aW Nf hO;have J3:=bP.aH;rw[ey]at J3 |-;have kS8:w8.heap[S]?=so (.cells #[.pointer (so ⟨K.kb,0,we⟩),rv,xC,.int .i64 ((ed+1:Nat):Int)] 39):=by
   rw[kSx,hR];have e:=(aW.heap _ Nf).trans Vj;simp[World.setCell,aS,e]
  obtain⟨h8,U8⟩:=h7.Hz U7 Ng (.inr rfl) J3 FQ;clear hR bP aW hO wl aX ey kSx;refine ay ?_;have QI:=(FQ.2 A uY).trans Mp;obtain⟨hf8,aku⟩:=hf7.step (lab:=Ah) Ra ((fU.refl (S:=S) h7.aH).wrote (.inr rfl) J3 FQ) h7.aH;refine uX 0 aR h8 U8 M0 (.inl RS) Zu QI λw9 h9 U9 lR X9=>?_;refine ay ?_;have Ya:=(lR.2 S (λe=>uY e.symm)).trans kS8;have Vk:∀g,xC.ownBlock=so g->g≠A:=λg hg=>by have:=OQ g hg;have:=h6.aH.lt FY;omega
  have Yb:=hf8.keep (o':=o7) (w':=w9) (λ_ q=>q) (λg hg=>lR.2 g (Vk g hg));refine⟨.inr trivial,trivial,.tuple #[.agg #[.int .i64 0,.string aR],.bool true],vH X9 Zu,_,_,_,_,_,_,_,rfl,⟨h9,u6,Ya,Nf,Ng,Yb,aku,h.yW.edit (qD b) vq rfl⟩,.inl ⟨rfl,rfl,rfl,rfl,rfl,rM,rfl⟩,U9,λg hg=>.inr (by have:=OQ g hg;have:=U6.br.size;omega)⟩
 by_cases YZ:kd=1
 ·subst YZ;clear HY;refine ay ?_;refine b5 func35 (afb h4.aH S _ rv fv ed fs (iI a) RV Eb X5 (by have:=h.yW.gF.2;omega)) ?_;rintro v5 o5 w5 ⟨rfl,N5⟩;have W5:bC (λ_=>False) o4 w4 o5 w5:=bC.dJ N5;obtain⟨nV,h5,T5,R5,-⟩:=h4.grown (cU.refl h4.aH) W5;have U5:=U4.k T5;have xj:=(N5.old A (h4.aH.lt Na)).trans tH;have nA:=(N5.old S (h4.aH.lt Eb)).trans RV;have EV:=W5.more _ Na;have Ec:=W5.more _ Eb;have uQ:=(R5 A (h4.aH.lt Na)).trans Q8;have xq:=(R5 S (h4.aH.lt Eb)).trans Q9;obtain⟨UY,EW⟩:=X5.step Vi ((fU.refl (S:=S) h4.aH).k T5) h4.aH;have d05:w5.cell? ⟨S,0,we⟩=so (.pointer (so ⟨K.kb,0,we⟩)):=by simp[World.cell?,nA]
  have hhi:=Ve fs (iI a);rw[<- h.yW.get]at hhi;cases CL:Hq fs (iI a)
  ·have Ha:eR s.th (iI a)=we:=aN λq=>by rw[hhi.2 q]at CL;cases CL
   clear hhi;refine ay ?_;refine jJ h5.aH Ec d05 λ_=>?_;refine ay ?_;refine b5 func36 (Kj h5 (iI a) Yz) ?_;rintro v6 o6 w6 ⟨Nc,T6,hq⟩;rcases hq with⟨e,rfl,-,q,h6⟩|⟨-,q,-⟩;rotate_left
   ·exact absurd Ha q.2
   have e7:=q.2 SL;subst e7;have U6:=U5.k T6;have X6:=(T6.br.same A (h5.aH.lt EV) (by rw[uQ];omega)).trans xj;have X7:=(T6.br.same S (h5.aH.lt Ec) (by rw[xq];omega)).trans nA;have FY:=T6.br.more _ EV;have HA:=T6.br.more _ Ec;have Nd:=(T6.lab A (h5.aH.lt EV)).trans uQ;have EX:=(T6.lab S (h5.aH.lt Ec)).trans xq;obtain⟨X8,DQ⟩:=UY.step EW ((fU.refl (S:=S) h5.aH).k T6) h5.aH;refine ay ?_;refine du W rfl ak rfl func22 ai rfl (by first|(simp[Act.eval];done)|(simp[Act.eval];rfl)) rfl ((OL h6.aH S _ rv fv ed fs (iI a) aR false X7 HA X8 (by have:=h.yW.gF.2;omega) (λe=>(DQ S e).2 rfl)).mono ?_);rintro v7 o7 w7 ⟨rfl,W7,xC,Vj,hf7,OQ⟩;obtain⟨Ah,h7,T7,qG,hn7⟩:=h6.X3 EX (h6.aH.lt HA) W7;have U7:=U6.trans T7;have Mp:=(W7.same A (h6.aH.lt FY) uY).trans X6;have Zu:=W7.more _ FY;have Nf:=W7.more _ HA;have M0:=(qG A (h6.aH.lt FY)).trans Nd;have Ng:=(qG S (h6.aH.lt HA)).trans EX;have Ra:∀g,xC.ownBlock=so g->Ah g=7/\g≠S:=λg hg=>⟨hn7 g (OQ g hg),by have:=OQ g hg;have:=h6.aH.lt HA;omega⟩;have Vk:∀g,xC.ownBlock=so g->g≠A:=λg hg=>by have:=OQ g hg;have:=h6.aH.lt FY;omega
   have hwe:IntKind.i64.wrap ((ed:Int)+1)=((ed+1:Nat):Int):=by rw[IntKind.wrap_i64]<;>omega
   refine ay ?_;refine uX 0 aR h7 U7 M0 (.inl RS) Zu Mp λw9 h9 U9 lR X9=>?_;refine ay ?_;have Ya:=(lR.2 S (λe=>uY e.symm)).trans Vj;have Yb:=hf7.keep (o':=o7) (w':=w9) (λ_ q=>q) (λg hg=>lR.2 g (Vk g hg));refine⟨.inr trivial,trivial,.tuple #[.agg #[.int .i64 0,.string aR],.bool true],vH X9 Zu,_,_,_,_,_,_,_,rfl,⟨h9,h.sound,Ya,Nf,Ng,Yb,Ra,h.yW.aai aR vq Ha⟩,.inr (.inl ⟨rfl,rfl,rfl,rfl,.inr ⟨Ha,rfl,rfl⟩⟩),U9,λg hg=>.inr (by have:=OQ g hg;have:=U6.br.size;omega)⟩
  ·have afL:eR s.th (iI a)≠we:=hhi.1 CL;clear hhi;refine ay ?_;refine jJ h5.aH Ec d05 λ_=>?_;refine ay ?_;refine b5 func36 (Kj h5 (iI a) Yz) ?_;rintro v6 o6 w6 ⟨Nc,T6,hq⟩;rcases hq with⟨e,rfl,-,q,-⟩|⟨rfl,-,rM,h6⟩
   ·exact absurd ⟨SL,afL⟩ q.1
   have u6:=h.sound.remove (x:=iI a) (gi s.st (iI a) (IntKind.i64.wrap (cN s.st (iI a)+1))) rM;have U6:=U5.k T6;have X6:=(T6.br.same A (h5.aH.lt EV) (by rw[uQ];omega)).trans xj;have X7:=(T6.br.same S (h5.aH.lt Ec) (by rw[xq];omega)).trans nA;have FY:=T6.br.more _ EV;have HA:=T6.br.more _ Ec;have Nd:=(T6.lab A (h5.aH.lt EV)).trans uQ;have EX:=(T6.lab S (h5.aH.lt Ec)).trans xq;obtain⟨X8,DQ⟩:=UY.step EW ((fU.refl (S:=S) h5.aH).k T6) h5.aH;refine ay ?_;refine du W rfl ak rfl func22 ai rfl (by first|(simp[Act.eval];done)|(simp[Act.eval];rfl)) rfl ((OL h6.aH S _ rv fv ed fs (iI a) aR false X7 HA X8 (by have:=h.yW.gF.2;omega) (λe=>(DQ S e).2 rfl)).mono ?_);rintro v7 o7 w7 ⟨rfl,W7,xC,Vj,hf7,OQ⟩;obtain⟨Ah,h7,T7,qG,hn7⟩:=h6.X3 EX (h6.aH.lt HA) W7;have U7:=U6.trans T7;have Mp:=(W7.same A (h6.aH.lt FY) uY).trans X6;have Zu:=W7.more _ FY;have Nf:=W7.more _ HA;have M0:=(qG A (h6.aH.lt FY)).trans Nd;have Ng:=(qG S (h6.aH.lt HA)).trans EX;have Ra:∀g,xC.ownBlock=so g->Ah g=7/\g≠S:=λg hg=>⟨hn7 g (OQ g hg),by have:=OQ g hg;have:=h6.aH.lt HA;omega⟩;have Vk:∀g,xC.ownBlock=so g->g≠A:=λg hg=>by have:=OQ g hg;have:=h6.aH.lt FY;omega
   have hwe:IntKind.i64.wrap ((ed:Int)+1)=((ed+1:Nat):Int):=by rw[IntKind.wrap_i64]<;>omega
   refine ay ?_;refine jJ h7.aH Nf (nW Vj).2.2.2 λ_=>?_;refine ay ?_;refine dA bS h7.aH rfl ak ak ?_ rfl (R:=λwl aX=>aX=wl.setCell ⟨S,3,we⟩ (.int .i64 ((ed+1:Nat):Int))) (λwl aW=>⟨_,?_,rfl⟩) λwl aX w8 aW hR bP=>?_
   ·exact jF (bX Nf) dV
   ·have e:=(aW.heap _ Nf).trans Vj;have e3:wl.cell? ⟨S,3,we⟩=so (.int .i64 ed):=by simp[World.cell?,e]
    have f3:wl.frozen? ⟨S,3,we⟩=false:=by simp[World.frozen?,e]
    simp[go_sem,e3,f3,hwe]
   have hO:eM S wl aX:=by rw[hR];exact iX _ _ _ _
   obtain⟨FQ,kSx,ey⟩:=bP.only aW Nf hO;have J3:=bP.aH;rw[ey]at J3 |-;have kS8:w8.heap[S]?=so (.cells #[.pointer (so ⟨K.kb,0,we⟩),rv,xC,.int .i64 ((ed+1:Nat):Int)] 39):=by
    rw[kSx,hR];have e:=(aW.heap _ Nf).trans Vj;simp[World.setCell,aS,e]
   obtain⟨h8,U8⟩:=h7.Hz U7 Ng (.inr rfl) J3 FQ;clear hR bP aW hO wl aX ey kSx;refine ay ?_;have QI:=(FQ.2 A uY).trans Mp;have hf8:=hf7.keep (o':=o7) (w':=w8) (λ_ q=>q) (λg hg=>FQ.2 g (Ra g hg).2);refine uX 0 aR h8 U8 M0 (.inl RS) Zu QI λw9 h9 U9 lR X9=>?_;refine ay ?_;have Ya:=(lR.2 S (λe=>uY e.symm)).trans kS8;have Yb:=hf8.keep (o':=o7) (w':=w9) (λ_ q=>q) (λg hg=>lR.2 g (Vk g hg));refine⟨.inr trivial,trivial,.tuple #[.agg #[.int .i64 0,.string aR],.bool true],vH X9 Zu,_,_,_,_,_,_,_,rfl,⟨h9,u6,Ya,Nf,Ng,Yb,Ra,h.yW.remove aR vq rfl⟩,.inr (.inl ⟨rfl,rfl,rfl,rfl,.inl ⟨afL,rfl,rM,rfl⟩⟩),U9,λg hg=>.inr (by have:=OQ g hg;have:=U6.br.size;omega)⟩
 by_cases Sx:kd=2
 ·subst Sx;clear HY YZ;have hp9:=nt a (n:=9) aa;have hw9:IntKind.i64.wrap (1+(ee a 9:Int))=1+(ee a 9:Int):=by rw[IntKind.wrap_i64]<;>omega
  refine ay ?_;refine dH mixed ai [so we,so we,so we,so (so (.pointer (so ⟨K.kb,0,we⟩))),so we,so (so (.int .i64 a)),so (so (.int .i64 (ee a 9:Nat))),so we,we,so we]
   (S:=λσ o' w'=>(σ 8=we/\fE o4 w4 o' w')\/∃y w5 nV,σ 8=so y/\fE o4 w4 o' w5/\bp o' w5 K s 0 nV/\(∀b,b<w4.heap.size->nV b=sx b)/\w'.heap.size=w5.heap.size/\(∀b,b≠K.kb->w'.heap[b]?=w5.heap[b]?)/\((y=.int .i64 8/\¬rN s.time (1+(ee a 9:Int))/\bp o' w' K s 0 nV)\/(y=.int .i64 0/\rN s.time (1+(ee a 9:Int))/\bp o' w' K {s with time:=s.time+(1+(ee a 9:Int)).toNat} 0 nV))) (.inl ⟨rfl,fE.refl h4.aH⟩) λv9=>?_
  refine dN ?_;refine cq ?_;refine dsP (λσ o' w' H hS=>?_) ?_
  ·rcases hS with⟨-,G⟩|⟨y,w5,nV,q,-⟩
   ·have hx:=G.br.more _ Eb;exact sR G.br.aH hx ((cell_of (G.br.same S (h4.aH.lt Eb) id)).trans d0)
   ·rw[H.xA 8 ai]at q;cases q
  refine cq ?_;refine dsP (λσ o' w' H hS=>?_) ?_
  ·rcases hS with⟨-,G⟩|⟨y,w5,nV,q,-⟩
   ·have hx:=G.br.more _ oX4;exact sR G.br.aH hx ((cell_of (G.br.same X (h4.aH.lt oX4) id)).trans x1)
   ·rw[H.qJ [7,6] 8 ai]at q;cases q
  refine cq ?_;refine jO rfl rfl ak rfl func19 ai rfl (av:=#[.int .i64 a,.int .i64 9]) aK (λσ o' w' H hS=>?_) ?_
  ·rcases hS with⟨h8,G⟩|⟨y,w5,nV,q,-⟩
   ·refine(Aj G.br.aH a 9 ha1 ha2 aa aa).mono ?_;rintro y o5 w5 ⟨rfl,N5⟩;exact⟨rfl,.inl ⟨h8,G.trans (fE.dJ N5)⟩⟩
   ·rw[H.qJ [7] 8 ai]at q;cases q
  walk_nrm;refine pL (y:=.int .i64 (1+(ee a 9:Int))) rfl rfl rfl ak (λw1=>by simp[go_sem,Act.eval,hw9]) (λw1=>by simp[go_sem,Act.eval]) ?_;walk_nrm;refine vt rfl rfl ak rfl func37 ai rfl (av:=#[.pointer (so ⟨K.kb,0,we⟩),.int .i64 (1+(ee a 9:Int))]) aK (λσ o' w' H h8 hS=>?_) ?_
  ·rcases hS with⟨-,G⟩|⟨y,w5,nV,q,-⟩
   ·obtain⟨nV,h5,-,R5,-⟩:=h4.grown (cU.refl h4.aH) G.br;refine(MS h5 (1+(ee a 9:Int))).mono ?_;rintro y o6 w6 ⟨rfl,t1,t2,t3⟩;exact .inr ⟨y,w',nV,by simp[fM],G,h5,R5,t1,t2,t3⟩
   ·rw[h8]at q;cases q
  refine cq ?_;refine cu λσ o5 w6 lP hS=>?_;rcases hS with⟨q,-⟩|⟨y,w5,nV,q,G5,h5,q2,q3,q4,q5⟩
  ·rw[lP 8 eB rfl]at q;cases q
  have hv:v9 8=y:=aT ((lP 8 eB rfl).symm.trans q);clear lP q;rcases q5 with⟨rfl,ht,h6⟩|⟨rfl,ht,h6⟩
  ·simp only[hv];have K5:=h6.aH;have T6:cU o5 w5 nV o5 w6 nV:=cU.of (bC.dM (ex:=(·=K.kb)) K5 ⟨q3,q4⟩ rfl) (λb hb=>by rw[hb,h5.l0];omega);have U6:=(U4.trans ⟨G5.br.mono (λb hb=>hb.elim),q2⟩).k T6;have xj:=(G5.br.same A (h4.aH.lt Na) id).trans tH;have nA:=(G5.br.same S (h4.aH.lt Eb) id).trans RV;have EV:=G5.br.more _ Na;have Ec:=G5.br.more _ Eb;have uQ:=(q2 A (h4.aH.lt Na)).trans Q8;have xq:=(q2 S (h4.aH.lt Eb)).trans Q9;obtain⟨UY,EW⟩:=X5.step Vi (S:=S) (lab':=nV) ⟨G5.br.mono (λb hb=>hb.elim),q2⟩ h4.aH;have X6:=(T6.br.same A (h5.aH.lt EV) (by rw[uQ];omega)).trans xj;have X7:=(T6.br.same S (h5.aH.lt Ec) (by rw[xq];omega)).trans nA;obtain⟨X8,DQ⟩:=UY.step EW ((fU.refl (S:=S) h5.aH).k T6) h5.aH;have Vk:∀g,fv.ownBlock=so g->g≠A:=λg hg=>by have:=h.dv.aH.lt (iC h.dv.aH h.files.cl g hg);omega
   simp only[ij,dz,if_true,if_false,reduceIte,Nat.reduceEqDiff];refine ay ?_;refine uX 0 aR h6 U6 uQ (.inl RS) EV X6 λw9 h9 U9 lR X9=>?_;refine ay ?_;have Ya:=(lR.2 S (λe=>uY e.symm)).trans X7;have Yb:=X8.keep (o':=o5) (w':=w9) (λ_ q=>q) (λg hg=>lR.2 g (Vk g hg));refine⟨.inr trivial,trivial,.tuple #[.agg #[.int .i64 0,.string aR],.bool true],vH X9 EV,_,_,_,_,_,_,_,rfl,⟨h9,h.sound,Ya,Ec,xq,Yb,DQ,h.yW⟩,.inr (.inr (.inl ⟨rfl,rfl,rfl,rfl,rfl,.inl ⟨ht,rfl⟩⟩)),U9,λg hg=>.inl hg⟩
  ·simp only[hv];have K5:=h6.aH;have T6:cU o5 w5 nV o5 w6 nV:=cU.of (bC.dM (ex:=(·=K.kb)) K5 ⟨q3,q4⟩ rfl) (λb hb=>by rw[hb,h5.l0];omega);have U6:=(U4.trans ⟨G5.br.mono (λb hb=>hb.elim),q2⟩).k T6;have xj:=(G5.br.same A (h4.aH.lt Na) id).trans tH;have nA:=(G5.br.same S (h4.aH.lt Eb) id).trans RV;have EV:=G5.br.more _ Na;have Ec:=G5.br.more _ Eb;have uQ:=(q2 A (h4.aH.lt Na)).trans Q8;have xq:=(q2 S (h4.aH.lt Eb)).trans Q9;obtain⟨UY,EW⟩:=X5.step Vi (S:=S) (lab':=nV) ⟨G5.br.mono (λb hb=>hb.elim),q2⟩ h4.aH;have X6:=(T6.br.same A (h5.aH.lt EV) (by rw[uQ];omega)).trans xj;have X7:=(T6.br.same S (h5.aH.lt Ec) (by rw[xq];omega)).trans nA;obtain⟨X8,DQ⟩:=UY.step EW ((fU.refl (S:=S) h5.aH).k T6) h5.aH;have Vk:∀g,fv.ownBlock=so g->g≠A:=λg hg=>by have:=h.dv.aH.lt (iC h.dv.aH h.files.cl g hg);omega
   simp only[ij,dz,if_true,if_false,reduceIte,Nat.reduceEqDiff];refine ay ?_;refine uX 0 aR h6 U6 uQ (.inl RS) EV X6 λw9 h9 U9 lR X9=>?_;refine ay ?_;have Ya:=(lR.2 S (λe=>uY e.symm)).trans X7;have Yb:=X8.keep (o':=o5) (w':=w9) (λ_ q=>q) (λg hg=>lR.2 g (Vk g hg));refine⟨.inr trivial,trivial,.tuple #[.agg #[.int .i64 0,.string aR],.bool true],vH X9 EV,_,_,_,_,_,_,_,rfl,⟨h9,h.sound.tick _,Ya,Ec,xq,Yb,DQ,h.yW.same rfl⟩,.inr (.inr (.inl ⟨rfl,rfl,rfl,rfl,rfl,.inr ⟨ht,rfl⟩⟩)),U9,λg hg=>.inl hg⟩
 refine ay ?_;refine je W (t:=false) (by simp[Act.eval,HY]) ?_;simp only[if_false,reduceIte,aQ];refine ay ?_;refine je W (t:=false) (by simp[Act.eval,YZ]) ?_;simp only[if_false,reduceIte,aQ];refine ay ?_;refine je W (t:=false) (by simp[Act.eval,Sx]) ?_;simp only[if_false,reduceIte,aQ];refine ay ?_;refine jJ h4.aH Eb d0 λ_=>?_;refine ay ?_;refine b5 func38 (uS h4 h.sound) ?_;rintro v5 o5 w5 ⟨s5,nV,F5,akv,hw5,u5,h5,T5⟩;have U5:=U4.k T5;have xj:=(T5.br.same A (h4.aH.lt Na) (by rw[Q8];omega)).trans tH;have nA:=(T5.br.same S (h4.aH.lt Eb) (by rw[Q9];omega)).trans RV;have EV:=T5.br.more _ Na;have Ec:=T5.br.more _ Eb;have uQ:=(T5.lab A (h4.aH.lt Na)).trans Q8;have xq:=(T5.lab S (h4.aH.lt Eb)).trans Q9;obtain⟨UY,EW⟩:=X5.step Vi ((fU.refl (S:=S) h4.aH).k T5) h4.aH;obtain⟨n,y,hv,En,hn6,-,Ze,-⟩:=hw5.kind;subst hv;have Vk:∀g,fv.ownBlock=so g->g≠A:=λg hg=>by have:=h.dv.aH.lt (iC h.dv.aH h.files.cl g hg);omega
 unfold did;refine ay ?_;refine uV n y h5 λD o6 w7 Nc hD hV=>?_;have zA5:=h5.aH.lt EV;have zS5:=h5.aH.lt Ec;have h7:=hV.dv;have U7:=U5.k hV.step;have Mp:=(hV.old A zA5).2.trans xj;have Vj:=(hV.old S zS5).2.trans nA;have FY:=hV.br.more _ EV;have HA:=hV.br.more _ Ec;have Nd:=(hV.old A zA5).1.trans uQ;have EX:=(hV.old S zS5).1.trans xq;obtain⟨hf7,DQ⟩:=UY.step EW ((fU.refl (S:=S) h5.aH).k hV.step) h5.aH;obtain⟨g0,g1,-⟩:=dY hV.blk;have oD6:=hV.own;have hF7:=h7.aH;have hDA:D≠A:=aa;refine ay ?_;refine dH mixed ai [so (so (.agg #[.int .i64 n,.string y])),so we,so (so (.int .i64 n)),so we,so we,so we,so (so (.int .i64 n)),so we,so we,we,so we]
  (S:=λσ o' w'=>o6=o'/\bO ax L0 o' w'/\eM A w7 w'/\w'.heap[A]?=so (.cells (if (σ 9).isSome then #[.int .i64 n,.string y] else #[.int .i64 0,.string aR]) 32)) ⟨rfl,hF7,eM.refl,Mp⟩ λv9=>?_
 refine dN ?_;refine dsP (λσ o' w' H hS=>?_) ?_
 ·obtain⟨rfl,hf,on,-⟩:=hS;have e:=on.2 D hDA;exact⟨hf,mo (bX oD6),λwl aW=>by simp[go_sem,(aW.cell oD6).trans ((cell_of e).trans g0),(aW.cell oD6).trans ((cell_of e).trans g1)]⟩
 refine cq ?_;refine dsP (λσ o' w' H hS=>?_) ?_
 ·obtain⟨rfl,hf,on,-⟩:=hS;exact sR hf oD6 ((cell_of (on.2 D hDA)).trans g0)
 walk_nrm;refine pL (y:=.bool true) rfl rfl rfl ak (λw1=>by simp[go_sem,Act.eval,En]) (λw1=>by simp[go_sem,Act.eval]) ?_;refine cq ?_;refine dsP (λσ o' w' H hS=>?_) ?_
 ·obtain⟨rfl,hf,on,-⟩:=hS;exact sR hf oD6 ((cell_of (on.2 D hDA)).trans g0)
 walk_nrm;refine pL (y:=.bool true) rfl rfl rfl ak (λw1=>by simp[go_sem,Act.eval,hn6]) (λw1=>by simp[go_sem,Act.eval]) ?_;refine cq ?_;refine pM bS rfl rfl rfl ak ak (λσ o' w' H h9 hS=>?_) ?_
 ·obtain⟨rfl,hf,on,kA⟩:=hS;simp only[h9,Option.isSome_none,aQ,if_false]at kA;refine⟨hf,λz hz=>?_,λwl aX=>aX=(wl.setCell ⟨A,0,we⟩ (.int .i64 n)).setCell ⟨A,1,we⟩ (.string y),λwl aW=>⟨_,?_,rfl⟩,λwl aX w8 aW hR bP=>?_⟩
  ·simp[Op.operands]at hz;rcases hz with rfl|rfl
   ·simp[Act.eval];exact bX FY
   ·simp[Act.eval];refine fW (vs:=[_,_]) (λx hx=>?_);simp at hx;rcases hx with rfl|rfl
    ·exact dV
    ·exact bQ
  ·obtain⟨e0,e1,f0,f1⟩:=dY ((aW.heap _ FY).trans kA);simp[go_sem,Act.eval,e0,e1,f0,f1]
  ·have hO:eM A wl aX:=by rw[hR];exact AQ _ _ _ _ _ _
   obtain⟨FQ,Zj,ey⟩:=bP.only aW FY hO;have J3:=bP.aH;rw[ey]at J3 |-;rw[hR,Uh ((aW.heap _ FY).trans kA)]at Zj;exact⟨rfl,J3,⟨FQ.1.trans on.1,λc hc=>(FQ.2 c hc).trans (on.2 c hc)⟩,by simp[fM,Zj]⟩
 refine cq ?_;refine cu λσ o8 w8 lP hS=>?_;obtain⟨rfl,J3,FQ,Zj⟩:=hS;simp only[lP 9 eB rfl,Option.isSome_some,if_true]at Zj;clear lP;obtain⟨h8,U8⟩:=h7.Hz U7 Nd (.inl RS) J3 FQ;have kS8:=(FQ.2 S (λe=>uY e.symm)).trans Vj;have hf8:=hf7.keep (o':=o6) (w':=w8) (λ_ q=>q) (λg hg=>FQ.2 g (Vk g hg));simp only[ij,dz,if_true,if_false,reduceIte,Nat.reduceEqDiff];refine ay ?_;refine⟨.inr trivial,trivial,.tuple #[.agg #[.int .i64 n,.string y],.bool true],vH Zj FY,_,_,_,_,_,_,_,rfl,⟨h8,u5,kS8,HA,EX,hf8,DQ,h.yW.same Ze⟩,.inr (.inr (.inr ⟨HY,YZ,Sx,rfl,rfl,F5,akv,hw5⟩)),U8,λg hg=>.inl hg⟩
end
section
variable {Fin:bL}{o o' o1 o2 o3:aM}{w w' w1 w2 w3:ae}{S Nb:Nat}{K:mK}{s s' s2:fO}{lab lab' dD iH mB:Nat->Nat}{rv fv V4 sv:Value}{fs Nh:List (af×af)}{ed Ni:Nat}{since:List af}
def BK{P:Program}{m:Bool}{R:aM->ae->ae->Prop}{Gu:aM->ae->ae->Array Event->Prop}{X:aM->aZ->ae->Prop}{fn:FuncId}{Q:Exit->Act->aM->ae->Prop}{a:Act}(W:fH P m R Gu X){x y:Code}(J:Act->aM->ae->Prop)(h1:wq X fn x (ij J Q) a o w)(h2:∀a' o' w',J a' o' w'->wq X fn y Q a' o' w'):wq X fn (.seq x y) Q a o w :=
 sM W (IP h1 λe a o w hq=>by
  cases e
  case normal=>exact h2 _ _ _ hq
  all_goals exact hq)
structure KJ(Fin:bL)(w:ae)(p:Option Addr)(b off:Nat)(xs:List (Int×Int×Int)):Prop where
 ptr:xs≠[]->p=so ⟨b,off,we⟩/\yi Fin b/\b<w.heap.size
 at_:∀i (h:i<xs.length),w.cell? ⟨b,off+i*3,we⟩=so (.int .i64 xs[i].1)/\w.cell? ⟨b,off+i*3+1,we⟩=so (.int .i64 xs[i].2.1)/\w.cell? ⟨b,off+i*3+2,we⟩=so (.int .i64 xs[i].2.2)
 Zn:∀x∈xs,(-9223372036854775808<=x.2.1/\x.2.1<=9223372036854775807)/\(-9223372036854775808<=x.2.2/\x.2.2<=9223372036854775807)
 Gc:xs.length*24<=140737488355328
def nu.texts{lo:Nat}{p:Option Addr}{c:Nat}{ts:List af}(h:nu o w lo 9 1 (.slice p ts.length c) ts.length (ts.map .string))(hF:bO ax L0 o w):∃b,(ts≠[]->p=so ⟨b,0,we⟩/\o b)/\eN w b 0 ts:=by
 have cp:=h.row;obtain⟨h0,hc⟩:=h.row;rcases hc with⟨e1,e2⟩|⟨g,cap,cur,e1,k1,k2,k3,k4,k5,k6⟩
 ·have hn:=aal.1 e2;exact⟨0,λq=>absurd hn q,λk hk=>by rw[hn]at hk;simp at hk⟩
 ·have lT:=cp.cells (g:=g) (by rw[e1];rfl);have og:=iC hF h.cl g (by rw[e1];rfl);injection e1 with e1;refine⟨g,λ_=>⟨e1,og⟩,λi hi=>?_⟩;have:=lT i (.string ts[i]) (by simp[hi]);have ha:(⟨g,0,we⟩:Addr).add i=⟨g,i,we⟩:=by simp[Addr.add];omega
  rw[ha]at this;rw[bt];exact this
def Nj{P:Program}(w1:ae)(es:Array Event)(t e:TypeId)(b k n ec:Nat)(ht:P.underlying t=so (.slice e))(hkc:k<=ec):(Instr.sliceAt t (.slice (so ⟨b,0,we⟩) n ec) we (so (.int .i64 k)) we).events P w1 es=es:=by
 have h:(k:Int)<=ec:=aa;have b1:∀w es c,(Instr.sliceBound (.int .i64 k) ec c).events P w es=es:=λw es c=>by
  simp[Instr.sliceBound,asIntOf,h]
 unfold Instr.sliceAt;simp[Instr.slice,Instr.sliceBounds,Instr.sureAddr,Sem.events_bind,run_underlying ht,run_sliceBound,b1,h,go_sem]
end
end Go.Proofs.Kz
namespace Go.Ren
open _root_.Option renaming some → so,none → we
open Go.Conc Go.ConcN
def FZ(P:Program)(X:aM->aZ->ae->Prop)(f:FuncId)(fc:Func)(vs:Array Value)(o:aM)(w:ae)(Post:Value->aM->ae->Prop):Prop :=
 ∃c,fc.body=so c/\wq X f c (λe a' o' w'=>(e=.normal\/e=.ret)/\a'.defers=[]/\∃v,ResultsC P fc a'.tmps v/\Post v o' w') {tmps:=vs++Array.replicate (fc.ntmps-vs.size) undef,defers:=[]} o w
section
variable {P:Program}{m:Bool}{R:aM->ae->ae->Prop}{Gu:aM->ae->ae->Array Event->Prop}{X:aM->aZ->ae->Prop}{o:aM}{w:ae}
def FZ.top(W:fH P m R Gu X){f:FuncId}{fc:Func}{vs:Array Value}{Post:Value->aM->ae->Prop}(hf:P.funcs[f]?=so fc)(h:FZ P X f fc vs o w Post)(hc:∀(a':Act) (o':aM) (w':ae) (todo:List Item) (v:Value),a'.defers=[]->ResultsC P fc a'.tmps v->Post v o' w'->X o' (G {(base f).at a' todo with mode:=.returning} []) w'):
  X o (G (Frame.enter P f vs .normal) []) w:=by
 obtain⟨c,fF,h⟩:=h;rw[iN hf fF];refine h (base f) [] [] rfl (by simp[base]) λe a' o' w' q=>?_;obtain⟨he,hd,v,hr,hx⟩:=q;rcases he with rfl|rfl
 ·exact W.go rfl (λ_=>ew) (hc a' o' w' [] v hd hr hx)
 ·exact λtodo=>hc a' o' w' todo v hd hr hx
def Bm{b:Frame}{a:Act}{fn:Func}{todo:List Item}{v:Value}(hi:P.inits.idxOf? b.fn=we)(hn:b.kind=.normal)(hd:a.defers=[])(hf:P.funcs[b.fn]?=so fn)(hr:(results fn a.tmps).run P w=.ok v w)(he:(results fn a.tmps).events P w #[]=#[]):
  stepG P true (G {b.at a todo with mode:=.returning} []) w=.ended (.done v) w #[]:=by
 simp[G,stepG,unwind,doReturn,Frame.at,hn,hd,hf,hr,he,hi,GStep.after,seen_none]
end
section
variable {P:Program}
def KL{S:Nat->Prop}{Post:Value->ae->Prop}{a:aZ}{W:ae}(hS:∀b,W.heap.size<=b->¬S b)(h:BX P (Td P Post) 0 S a W):
  ∃N last o w' t',runNT P (N+1) (solo a W) #[]=(.ended o w',t')/\runN P N (solo a W)=.next last/\step P last=.ended o w'/\Conc.Good P Post last o w' t':=by
 have VN:mE 0 S #[]:=⟨past_nil.clean,λi a ha=>by simp[touchAt,Trace.act?]at ha,past_nil.over,rfl⟩;obtain⟨N,gs,w,sl,t,q,S,g,k1,k2,k3,k4,_,k6⟩:=h #[a] we #[] (λ_=>0) rfl (leavers_one P a) VN hS;obtain⟨B,hB⟩:=k4.Sq;obtain⟨N2,last,o,w',t',l1,l2,l3,l4⟩:=beside_ends (P:=P) (Shun:=uf S) (B:=B+0) (D:=λ_ _ _=>False) (Post:=Post) (n:=0) (sl:=sl) (λ_ _ _ hf=>hf.elim) k2 k3 (hB 0) (λw1 hw=>by
  obtain⟨h1,v,h2,h3⟩:=k6 w1 hw;exact⟨h1,v,#[],h2,ar,h3⟩)
 refine⟨N+N2,last,o,w',t',?_,?_,l3,l4⟩
 ·rw[dS,runNT_add,solo_eq_crowd,k1];exact l1
 ·rw[runN_add,solo_eq_crowd,<- runNT_fst P _ _ #[],k1];exact l2
def HC{f:FuncId}{fc:Func}{vs:Array Value}{o:aM}{W:ae}{Q:Value->aM->ae->Prop}(A:Nat->Prop)(hA:∀b,A b->b<W.heap.size)(hf:P.funcs[f]?=so fc)(hi:P.inits.idxOf? f=we)(h:∀Fin,(∀b,A b->yi Fin b)->FZ P (XB P Fin 0) f fc vs o W Q):
  ∃N last o' w' t',runNT P (N+1) (solo (G (Frame.enter P f vs .normal) []) W) #[]=(.ended o' w',t')/\runN P N (solo (G (Frame.enter P f vs .normal) []) W)=.next last/\step P last=.ended o' w' /\
   Conc.Good P (λv w'=>(∃o1 w1,w'.heap=w1.heap/\Q v o1 w1)/\w'.os=W.os/\w'.output=W.output) last o' w' t':=by
 have pj:∀{w1 w2:ae},AtRel w1 w2->w2.heap=w1.heap/\w2.os=w1.os/\w2.output=w1.output:=λhx=>by obtain⟨d,rfl⟩:=hx;exact⟨rfl,rfl,rfl⟩
 let F:bL:=λS g w=>Td P (λv w'=>∃o1 w1,w'.heap=w1.heap/\Q v o1 w1) S g w/\(∀b,A b->¬S b)\/w.output≠W.output/\∀b,A b->¬S b;have hL:∀b,A b->yi F b:=λb hb S g w hx=>hx.elim (λk=>k.2 b hb) λk=>k.2 b hb;have hB:uw F W:=λb hb=>fA λhle=>hb (λx=>x=b) (G (Frame.enter P f vs .normal) []) {W with output:=W.output.push (0,ByteArray.empty)} (.inr ⟨λe=>by have:=congrArg (λx=>x.size) e;simp at this,λx hx e=>by have:=hA x hx;omega⟩) rfl;have hx:XB P F 0 o (G (Frame.enter P f vs .normal) []) W :=
  FZ.top bY hf (h _ hL) λa' o' w' todo v hd hr hq=>(λ_=>Bc.fin λw1 hw=>⟨.inl ⟨λw2 vh=>⟨rfl,v,Bm hi rfl hd hf (hr w2).1 (hr w2).2,o',w',(pj (atRel_trans _ _ _ hw vh)).1,hq⟩,λb hb hs=>hs.2.2 (hL b hb)⟩,(pj hw).2⟩)
 refine KL (S:=Fy F o W) (λb hb hx=>by have:=hx.1;omega) ((hx hB).bx.mono λS g w hw=>?_);intro w1 h1;obtain⟨k1,v,k2,k3⟩:=(hw.1.resolve_right λk=>k.1 hw.2.2).1 w1 h1;exact⟨k1,v,k2,k3,(pj h1).2.1.trans hw.2.1,(pj h1).2.2.trans hw.2.2⟩
end
end Go.Ren
namespace Go
open _root_.Option renaming some → so,none → we
open Go.Conc
section
open Go.ConcM
section
variable {H:Type}{enc:TypeId×Value->H}
def mL{a:Assume}{C:Checked}{os:Os}{f:FuncId}{fn:Func}{s:ChangeSpec}{F:Stop.Interp}{conds:List PathCond}{apart fresh handsOn:Bool}{laid:List (String×DataW Unit)}(own:ownKnob C.prog.godebug=we)(started:os.Started)(rG:C.prog.funcs[f]?=so fn)(witness:∃(w:ae) (tape:Tape) (i:Input),w.os=os/\(w.forCall tape i).Shaped C.prog/\i.vars=[]/\Input.okWide C.prog (w.forCall tape i) .any w.heap.size f i /\
   ((s.pre enc C.prog fn conds apart (w.forCall tape i).memory i.args/\laidMetH C.prog laid (w.forCall tape i).memory)/\sizedMet enc C.prog fn (OpenSpec.ofChange s) apart (w.forCall tape i).memory i.args)/\a.holds C.prog (lone (Frame.enter C.prog f i.args .normal) [] (w.forCall tape i)))(runs:∀(W:ae) (base:Nat) (args:Array Value) (ds gs:List (DataW H)) (before:List MemPlace),
   (∀(j:Nat) t v,fn.params[j]?=so t->args[j]?=so v->Value.okWide C.prog W .any base t v) ->
   DataW.Whole enc C.prog fn.params.toList s.vars apart W args.toList ds gs before ->
   (DataW.weightsEach C.prog (fn.params.toList++s.plain.varTypes C.prog) (ds++gs)).all (·<=reachBytes)=true ->
   laidMetH C.prog laid W->W.ShapedOpen C.prog ->
   ∃M last o w' t',runNT C.prog (M+1) (solo (G (Frame.enter C.prog f args .normal) []) W) #[]=(.ended o w',t')/\runN C.prog M (solo (G (Frame.enter C.prog f args .normal) []) W)=.next last /\
    step C.prog last=.ended o w'/\Conc.Good C.prog (λv W'=>s.post enc C.prog fn apart fresh handsOn false W args v {W' with os:=W.os}/\OsLater W.os W'.os) last o w' t'):
  ReturnsInLeavingWide a C os f .any (λw args=>(s.pre enc C.prog fn conds apart w args/\laidMetH C.prog laid w)/\sizedMet enc C.prog fn (OpenSpec.ofChange s) apart w args) ((OpenSpec.ofChange s).postWith enc C.prog fn F (outsideKept [.timePasses]) apart fresh handsOn):=by
 refine returnsInLeavingWide_of_good own started witness ?_;intro w tape i _ tJ _ jl Q2 akx;obtain⟨_,_,_,fn',aky,_,_,_,_,nK⟩:=jl;have e:fn'=fn:=aT (aky.symm.trans rG);subst e;obtain⟨⟨⟨ds,gs,before,hw,hc⟩,hl⟩,hz⟩:=Q2;have hw':=DataW.Whole.of_heap (w':=w.forCall tape i) ak hw;obtain⟨M,last,o,w',t',h1,h2,h3,h4⟩:=runs (w.forCall tape i) w.heap.size i.args ds gs before nK hw' (hz.weights hw) (laidMetH.of_heap ak hl) tJ;obtain⟨v,e,hp,r1,r2,r3,r4⟩:=h4;exact⟨M,last,o,w',t',h1,h2,h3,v,e,postWith_blind (postWith_of_post hp.1 hp.2),r1,r2,r3,r4⟩
def ChangeSpec.HD{C:Checked}{os:Os}{f:FuncId}{fn:Func}{s:ChangeSpec}{conds:List PathCond}{apart:Bool}{laid:List (String×DataW Unit)}(w0:ae)(args:Array Value)(fuel:Nat)(ZN:w0.os=os)(tJ:(w0.forCall (λ_ _=>0) ⟨#[],args,[]⟩).Shaped C.prog)(jl:Input.okWideB C.prog (w0.forCall (λ_ _=>0) ⟨#[],args,[]⟩) f ⟨#[],args,[]⟩=true)(Q2:s.preB enc C.prog fn conds apart (w0.forCall (λ_ _=>0) ⟨#[],args,[]⟩).memory args fuel=true)(fy:s.sizedB enc C.prog fn apart (w0.forCall (λ_ _=>0) ⟨#[],args,[]⟩).memory args fuel=true)(hx:laidMetH C.prog laid (w0.forCall (λ_ _=>0) ⟨#[],args,[]⟩).memory):
  ∃(w:ae) (tape:Tape) (i:Input),w.os=os/\(w.forCall tape i).Shaped C.prog/\i.vars=[]/\Input.okWide C.prog (w.forCall tape i) .any w.heap.size f i /\
   ((s.pre enc C.prog fn conds apart (w.forCall tape i).memory i.args/\laidMetH C.prog laid (w.forCall tape i).memory)/\sizedMet enc C.prog fn (OpenSpec.ofChange s) apart (w.forCall tape i).memory i.args)/\({calm:=true}:Assume).holds C.prog (lone (Frame.enter C.prog f i.args .normal) [] (w.forCall tape i)) :=
 ⟨w0,λ_ _=>0,⟨#[],args,[]⟩,ZN,tJ,(Input.okWide_of_okWideB (base:=0) jl).1,(Input.okWide_of_okWideB jl).2,⟨⟨ChangeSpec.pre_of_preB Q2,hx⟩,sizedMet_of_sizedB fy⟩,by
  simp only[Assume.holds];exact⟨ar,λ_ _ _ _=>rfl,ar,ar,ar⟩⟩
end
end
end Go
namespace Go.Proofs.Kz
open Go.Proofs.Tryz
open Go.Proofs.Tryz renaming prog → ax
open _root_.ByteArray renaming empty → aR
open _root_.Option renaming some → so,none → we
open Go.Ren Go.Conc Go.Proofs Go.ConcN
open Go.ConcR (Payload)
section
open Go.ChangeShapes Go.WideShapes Go.Deep Go.RowKit Go.ConcM
section
variable {Fin:bL}{W:ae}
def wK.of{p:Option Addr}{b off:Nat}{rw:List Hu}(hL:∀b,b<W.heap.size->yi Fin b)(h1:rw≠[]->p=so ⟨b,off,we⟩/\b<W.heap.size)(h2:∀i (h:i<rw.length),OM W ⟨b,off,we⟩ i rw[i])(h3:rw.length<=9223372036854775807):wK Fin W p b off rw:=by
 have hm:∀r∈rw,∃i,OM W ⟨b,off,we⟩ i r:=λr hr=>by
  obtain⟨i,hi,rfl⟩:=a8 hr;exact⟨i,h2 i hi⟩
 refine⟨λq=>⟨(h1 q).1,hL _ (h1 q).2,(h1 q).2⟩,λi hi=>?_,λr hr=>?_,λr hr=>?_,h3,λr hr=>?_⟩
 ·have c0:=(h2 i hi).c0;have c1:=(h2 i hi).c1;rw[DL]at c0 c1;exact⟨c0,by rw[dS];exact c1⟩
 ·obtain⟨i,h⟩:=hm r hr;exact⟨λq=>⟨(h.ptr q).1,hL _ (h.ptr q).2,(h.ptr q).2⟩,h.ins⟩
 ·obtain⟨i,h⟩:=hm r hr;exact h.Zn
 ·obtain⟨i,h⟩:=hm r hr;exact h.Gc
def KJ.of{p:Option Addr}{b off:Nat}{xs:List (Int×Int×Int)}(hL:∀b,b<W.heap.size->yi Fin b)(h1:xs≠[]->p=so ⟨b,off,we⟩/\b<W.heap.size)(h2:∀i (h:i<xs.length),M8 W ⟨b,off,we⟩ i xs[i])(h3:xs.length*24<=140737488355328):KJ Fin W p b off xs:=by
 refine⟨λq=>⟨(h1 q).1,hL _ (h1 q).2,(h1 q).2⟩,λi hi=>?_,λx hx=>?_,h3⟩
 ·have c0:=(h2 i hi).c0;have c1:=(h2 i hi).c1;have c2:=(h2 i hi).c2;rw[DL]at c0 c1 c2;exact⟨c0,by rw[dS];exact c1,by rw[dS];exact c2⟩
 ·obtain⟨i,hi,rfl⟩:=a8 hx;exact(h2 i hi).Zn
end
def Vl:List (String×DataW Unit):=[("math/bits.deBruijn32tab",YtgjekaaknjgnmaaGreatDoor.Rows.laid_math_bits_deBruijn32tab),("math/bits.deBruijn64tab",YtgjekaaknjgnmaaGreatDoor.Rows.laid_math_bits_deBruijn64tab),("internal/strconv.uint64pow10",YtgjekaaknjgnmaaGreatDoor.Rows.laid_internal_strconv_uint64pow10)]
def Vm:ownKnob ax.godebug=we:=ai
def uZ:laidOutB ax=true:=ai
def Vn(os:Os)(args:Array Value):laidMetH ax Vl ((World.doorLaid ax 400 os).forCall (λ_ _=>0) ⟨#[],args,[]⟩).memory :=
 laidMetH_of_parts3 (fuel:=8) (laidMet_of_run' 8 ai ai) ai ai
section
variable {H:Type}{enc:TypeId×Value->H}
end
def Rc(Lk:Looks){p:Pinned}{s:OpenSpec}{c:OpenClaim}(kinds:List LaidKind)(Vo:Bool)(har:Bool×String)(lk:Bool)(hc:c.holds p s)(hw:c.wfByText s=true)(akz:c.laidByTextAt Lk p kinds Vo)(eH:c.start=.entering)(Gv:c.noBlocks=false/\c.again=false)(hm:p.checked.prog.mainIs=so (har.1,har.2.toList))(hn:(!har.1&&har.2.isEmpty&&!lk)=false)(hl:∀f fn,p.checked.prog.funcNamed c.func=so f->p.checked.prog.funcs[f]?=so fn->lk=p.checked.prog.looks []/\∀(j:Nat) t,fn.params[j]?=so t->p.checked.prog.wantsStandIn t=false)(hg:true=c.goesBy p.checked.prog):
  Claim7.holds p (.plain s) {stood:={row:=c,standIns:=[],harness:=har,looks:=lk},kinds:=[],alts:=[],goes:=true,laidByText:=true,laidKinds:=kinds,laidTests:=Vo,laidLooks:=Lk}:=by
 have h6:∀r:OpenClaim,Claim7.isSixth {stood:={row:=r,standIns:=[],harness:=har,looks:=lk},kinds:=[]}=false:=λr=>by simpa[Claim7.isSixth] using hn
 exact⟨Claim7.tied_new_at Lk kinds Vo (Claim7.new_of_sixth hc har lk eH Gv hm (h6 c) hl) hw,(λD hD=>by cases hD),akz,(λh=>by cases h),hg⟩
end
section
open Go.ChangeShapes Go.WideShapes Go.Deep Go.RowKit Go.ConcM
def vc(f:FuncId)(fc:Func):Prop :=
 ∀(Fin:bL) (o:aM) (w:ae),bO ax L0 o w->jh w->∀(p:Option Addr) (b off c:Nat) (rw:List Hu),wK Fin w p b off rw->∀(q:Option Addr) (qb Vp d:Nat) (xs:List (Int×Int×Int)),KJ Fin w q qb Vp xs->∀(nm ct:Int) (ag:Bool),-9223372036854775808<=nm/\nm<=9223372036854775807->-9223372036854775808<=ct/\ct<=9223372036854775807 ->
  FZ ax (XB ax Fin 0) f fc #[.slice p rw.length c,.slice q xs.length d,.int .i64 nm,.int .i64 ct,.bool ag] o w λv o' w'=>v=.bool true/\bC (λ_=>False) o w o' w'
section
variable {H:Type}{enc:TypeId×Value->H}
def HE{w:ae}{base:Nat}{spare:Nat->Bool}{held:Bool}{t0 t1 t2 t3 t4:TypeId}{args:Array Value}{ds:List (DataW H)}{ps:List MemPlace}(h:DataW.TrodAll enc ax w base spare held [t0,t1,t2,t3,t4] args.toList ds ps):
  ∃v0 v1 v2 v3 v4 d0 d1 d2 d3 d4 p0 p1 p2 p3 p4,args=#[v0,v1,v2,v3,v4]/\ds=[d0,d1,d2,d3,d4]/\ps=p0++(p1++(p2++(p3++p4)))/\DataW.Trod enc ax w base spare held t0 v0 d0 p0/\DataW.Trod enc ax w base spare held t1 v1 d1 p1/\DataW.Trod enc ax w base spare held t2 v2 d2 p2/\DataW.Trod enc ax w base spare held t3 v3 d3 p3/\DataW.Trod enc ax w base spare held t4 v4 d4 p4:=by
 obtain⟨v0,l0,d0,m0,p0,q0,e,rfl,rfl,h0,k0⟩:=trodAll_cons h;obtain⟨v1,l1,d1,m1,p1,q1,rfl,rfl,rfl,h1,k1⟩:=trodAll_cons k0;obtain⟨v2,v3,v4,d2,d3,d4,p2,p3,p4,e2,rfl,rfl,h2,h3,h4⟩:=trodAll_three (args:=l1.toArray) k1;exact⟨v0,v1,v2,v3,v4,d0,d1,d2,d3,d4,p0,p1,p2,p3,p4,by cases args;cases e2;simp_all,rfl,ar,h0,h1,h2,h3,h4⟩
def Re{f:FuncId}{fc:Func}{s:ChangeSpec}(hf:ax.funcs[f]?=so fc)(hi:ax.inits.idxOf? f=we)(hp:fc.params=#[25,26,3,3,4])(hr:fc.resultTypes=#[4])(hv:s.vars=[])(hs:∀(H:Type) (d1 d2 d3 d4 d5:DataW H),s.fn H [d1,d2,d3,d4,d5]={results:=[.lit (.bool true)],args:=[d1,d2,d3,d4,d5]})(hb:vc f fc)(W:ae)(base:Nat)(args:Array Value)(ds gs:List (DataW H))(before:List MemPlace)(nK:∀(j:Nat) t v,fc.params[j]?=so t->args[j]?=so v->Value.okWide ax W .any base t v)(hW:DataW.Whole enc ax fc.params.toList s.vars false W args.toList ds gs before)(hwt:(DataW.weightsEach ax (fc.params.toList++s.plain.varTypes ax) (ds++gs)).all (·<=reachBytes)=true)(afN:laidMetH ax Vl W)(tJ:W.ShapedOpen ax):
  ∃M last o w' t',runNT ax (M+1) (solo (G (Frame.enter ax f args .normal) []) W) #[]=(.ended o w',t')/\runN ax M (solo (G (Frame.enter ax f args .normal) []) W)=.next last /\
   step ax last=.ended o w'/\Conc.Good ax (λv W'=>s.post enc ax fc false true false false W args v {W' with os:=W.os}/\OsLater W.os W'.os) last o w' t':=by
 have hW':=hW;obtain⟨p,q,hA,hV,rfl,hfz,vp⟩:=hW;rw[hp]at hA nK;rw[hv]at hV;obtain⟨v0,v1,v2,v3,v4,d0,d1,d2,d3,d4,p0,p1,p2,p3,p4,rfl,rfl,rfl,h0,h1,h2,h3,h4⟩:=HE hA;obtain⟨rfl,rfl⟩:=trodVars_none hV;have hvt:s.plain.varTypes ax=[]:=by simp[ChangeSpec.plain,DataSpec.varTypes,hv]
 rw[hp,hvt]at hwt;have qY:∀x∈d1.weights ax 26,x<=reachBytes:=λx hx=>by
  have:=aaA.1 hwt x (by simp[DataW.weightsEach,hx]);simpa using this
 obtain⟨rp,rb,akA,akB,rw,e0,r1,r2,r3⟩:=UR (nK 0 _ v0 rfl rfl) h0;obtain⟨sp,sb,akC,akD,xs,e1,s1,s2,s3⟩:=UT (nK 1 _ v1 rfl rfl) h1 qY;obtain⟨nm,e2,-,-,vq⟩:=open_int underlying3 (nK 2 _ v2 rfl rfl) h2;obtain⟨ct,e3,-,-,hct⟩:=open_int underlying3 (nK 3 _ v3 rfl rfl) h3;obtain⟨ag,e4⟩:=okWide_bool underlying4 (nK 4 _ v4 rfl rfl);obtain⟨M,last,o,w',t',k1,k2,k3,v,ev,⟨⟨o1,w1,eh,rfl,Zv⟩,eos,akE⟩,g1,g2,g3,g4⟩:=HC (P:=ax) (vs:=#[v0,v1,v2,v3,v4]) (o:=λb=>b<4) (W:=W) (Q:=λv o' w'=>v=.bool true/\bC (λ_=>False) (λb=>b<4) W o' w') (λb=>b<W.heap.size) (λb hb=>hb) hf hi (λFin hL=>by
  rw[e0,e1,e2,e3,e4];exact hb Fin _ W (QQ tJ) (MN rfl afN) rp rb akA akB rw (wK.of hL r1 r2 r3) sp sb akC akD xs (KJ.of hL s1 s2 s3) nm ct ag (DK vq) (DK hct))
 refine⟨M,last,o,w',t',k1,k2,k3,_,ev,⟨?_,0,by rw[eos];rfl⟩,g1,g2,g3,g4⟩;have Rf:Below W.heap.size W {W with heap:=w'.heap}:=⟨rfl,rfl,rfl,by show W.heap.size<=w'.heap.size;rw[eh];exact Zv.size,λk hk=>by show w'.heap[k]?=_;rw[eh];exact Zv.same k hk id⟩;have cx:∀x∈p0++(p1++(p2++(p3++p4))),x.block<W.heap.size:=hA.lt;have uo:DataW.TrodAll enc ax {W with heap:=w'.heap} 0 (λb=>decide (b<W.heap.size)) true [25,26,3,3,4] [v0,v1,v2,v3,v4] [d0,d1,d2,d3,d4] (p0++(p1++(p2++(p3++p4)))) :=
  ⟨_,_,Below.trod uZ ai (dP ai) h0 Rf λx hx=>cx x (by simp[hx]),⟨_,_,Below.trod uZ ai (dP ai) h1 Rf λx hx=>cx x (by simp[hx]),trodAll_mk3 (Below.trod uZ ai (dP ai) h2 Rf λx hx=>cx x (by simp[hx])) (Below.trod uZ ai (dP ai) h3 Rf λx hx=>cx x (by simp[hx])) (Below.trod uZ ai (dP ai) h4 Rf λx hx=>cx x (by simp[hx])),rfl⟩,rfl⟩
 have hk:=Rf.frame (λp=>p∈p0++(p1++(p2++(p3++p4)))++[]/\(p∈([]:List MemPlace)\/p∈p0++(p1++(p2++(p3++p4)))\/p∈([]:List MemPlace)));refine⟨_,_,_,[],p0++(p1++(p2++(p3++p4))),[],hW',?_,?_,?_,⟨rfl,akE,hk.2.2⟩,λh=>by cases h⟩
 ·rw[show([d0,d1,d2,d3,d4]++[]:List (DataW H))=[d0,d1,d2,d3,d4] from rfl,hs,hr];exact trodAll_mk1 (shut_bool underlying4 _)
 ·rw[show([d0,d1,d2,d3,d4]++[]:List (DataW H))=[d0,d1,d2,d3,d4] from rfl,hs,hp];exact uo.of_heap ak
 ·rw[show([d0,d1,d2,d3,d4]++[]:List (DataW H))=[d0,d1,d2,d3,d4] from rfl,hs,hv];rfl
end
end
end Go.Proofs.Kz
