import Derived.Test.YtgjekaaknjgnmaaGreatDoorAf
import Derived.BigQuiet
import Derived.Maps.AppendAt
set_option linter.all false
set_option maxHeartbeats 40000000
set_option maxRecDepth 200000
namespace Go.Proofs.Kz
open Go.Proofs.Tryz
open Go.Proofs.Tryz renaming prog → ax
open _root_.ByteArray renaming empty → aR
open _root_.Option renaming some → so,none → we
open Go.Ren Go.Conc Go.Proofs Go.ConcN
section
variable {Fin:bL}{o o':aM}{w w':ae}{K:mK}{s:fO}{lk:Int}{lab:Nat->Nat}
def abn(lo:Nat)(rs:List (af×V))(v:Value)(w':ae):Prop:=(v=.slice we 0 0/\rs=[])\/∃g cap,v=.slice (so ⟨g,0,we⟩) rs.length cap/\lo<=g/\g<w'.heap.size/\oT w' g rs
def gu(rs:List (af×V)):List Value:=(rs.map λr=>[Value.string r.1,.string r.2.2,.bool (!r.2.1)]).flatten
def yS(rs:List (af×V)):(gu rs).length=rs.length*3:=by
 induction rs with
 |nil=>rfl
 |cons r rs ih =>
  have e:gu (r::rs)=.string r.1 :: .string r.2.2 :: .bool (!r.2.1)::gu rs:=by simp[gu]
  rw[e];simp[ih];omega
def sY:∀(rs:List (af×V)) (i:Nat) (h:i<rs.length),(gu rs)[i*3]?=so (.string rs[i].1)/\(gu rs)[i*3+1]?=so (.string rs[i].2.2)/\(gu rs)[i*3+2]?=so (.bool (!rs[i].2.1))
 |r::rs,0,h=>by simp[gu]
 |r::rs,i+1,h=>by
  have ih:=sY rs i (by simpa using h);have e:gu (r::rs)=.string r.1 :: .string r.2.2 :: .bool (!r.2.1)::gu rs:=by simp[gu]
  have e2:(i+1)*3=i*3+1+1+1:=aa;rw[e,e2];simpa using ih
def Ho(rs:List (af×V)):∀u∈gu rs,u.oneCell'=true:=λu hu=>by
 simp only[gu,List.mem_flatten,List.mem_map]at hu;obtain⟨l,⟨r,-,rfl⟩,hu⟩:=hu;simp at hu;rcases hu with rfl|rfl|rfl<;>rfl
def Kp{b:Nat}{rs:List (af×V)}(h:oT w b rs):∀j u,(gu rs)[j]?=so u->w.cell? ⟨b,j,we⟩=so u:=λj u hu=>by
 have hj:j<rs.length*3:=by
  rw[<- yS];exact(aao.1 hu).1
 have hi:j/3<rs.length:=aa;obtain⟨c0,c1,c2⟩:=sY rs (j/3) hi;obtain⟨d0,d1,d2⟩:=h (j/3) hi;have h3:j=j/3*3\/j=j/3*3+1\/j=j/3*3+2:=aa;generalize j/3=i at *;rcases h3 with rfl|rfl|rfl
 ·rw[c0]at hu;rw[d0];exact hu
 ·rw[c1]at hu;rw[d1];exact hu
 ·rw[c2]at hu;rw[d2];exact hu
def jj{w w':ae}{b:Nat}{rs:List (af×V)}(h:oT w b rs)(e:w'.heap[b]?=w.heap[b]?):oT w' b rs:=λi hi=>⟨(cell_of e).trans (h i hi).1,(cell_of e).trans (h i hi).2.1,(cell_of e).trans (h i hi).2.2⟩
def MY(hF:bO ax L0 o w)(v0:Value)(b c:Nat)(p:Option Addr)(rs:List (af×V))(O4:v0=.slice p rs.length c)(hn:rs.length<=1000)(hp:p=we->rs=[])(hq:rs≠[]->p=so ⟨b,0,we⟩/\o b)(ht:oT w b rs)(hc:Cl ax L0 o v0):
  bA ax (XB ax Fin 0) 50 #[v0] o w λv o' w'=>fT o w v o' w'/\abn w.heap.size rs v w':=by
 refine bA.mono (ek ai hF (λx hx=>by simp at hx;subst hx;exact hc) (Q:=λwl v w'=>w'.ownsRow wl.heap.size 65 3 v rs.length (gu rs)) (λwl AP v w1 w2 e1 e2 h=>?_) (λwl hz aW=>?_)) (λv o' w' hq=>?_)
 ·rw[e1];exact dC h λg _ _=>by rw[e2]
 ·subst O4;refine(Hn b c rs.length p (gu rs) wl (yS rs) hn (λe=>by rw[hp e];rfl) (λdE=>(hq (λe=>dE (by rw[e];rfl))).1) ?_ (Ho rs)).mono λe w' hq=>?_
  ·by_cases dE:rs=[]
   ·subst dE;intro j u hu;simp[gu]at hu
   ·exact Kp (jj ht (aW b (hq dE).2))
  ·obtain⟨v,rfl,h1,h2,h3⟩:=hq;exact⟨_,rfl,h3,λb hb=>h2.block b hb,h1⟩
 ·obtain⟨hN,wl,aX,z1,z2,hs,h3⟩:=hq;rw[z1]at h3;refine⟨hN,?_⟩;obtain⟨h4,h5⟩:=h3;rcases h5 with⟨e1,e2⟩|⟨g,cap,cur,rfl,q1,q2,q3,q4,q5,q6⟩
  ·refine .inl ⟨e1,?_⟩;cases rs with
   |nil=>rfl
   |cons r rs=>simp at e2
  ·have hg:g<aX.heap.size:=aN λq=>by
    rw[cH (de q)]at q2;cases q2
   refine .inr ⟨g,cap,rfl,q1,aa,λi hi=>?_⟩;have hb:=hs g q1 aa;have own:aX.ownsRow w.heap.size 65 3 (.slice (so ⟨g,0,we⟩) rs.length cap) rs.length (gu rs):=⟨h4,.inr ⟨g,cap,cur,rfl,q1,q2,q3,q4,q5,q6⟩⟩;have hc:∀j u,(gu rs)[j]?=so u->aX.cell? ⟨g,j,we⟩=so u:=λj u hu=>by
    have:=own.cells (g:=g) rfl j u hu;have ha:(⟨g,0,we⟩:Addr).add j=⟨g,j,we⟩:=by simp[Addr.add];omega
    rw[ha]at this;exact this
   obtain⟨c0,c1,c2⟩:=sY rs i hi;refine⟨(cell_of hb).trans ?_,(cell_of hb).trans ?_,(cell_of hb).trans ?_⟩
   ·exact hc _ _ c0
   ·exact hc _ _ c1
   ·exact hc _ _ c2
structure XN(s:fO)(v:Value)(o':aM)(w':ae):Prop where
 ex:∃rv tv,v=.agg #[.int .i64 s.num,rv,tv]/\(∃p b c,rv=.slice p s.res.length c/\(s.res≠[]->p=so ⟨b,0,we⟩/\o' b)/\oT w' b s.res)/\Cl ax L0 o' rv/\R3 o' w' tv s.gD
def MZ(h:bp o w K s lk lab):
  bA ax (XB ax Fin 0) 24 #[.pointer (so ⟨K.kb,0,we⟩)] o w λv o' w'=>XN s v o' w'/\∃lab',bp o' w' K s lk lab'/\cU o w lab o' w' lab'/\∀n rv tv g,v=.agg #[n,rv,tv]->rv.ownBlock=so g->w.heap.size<=g/\lab' g=7:=by
 have W:=bY (P:=ax) (Fin:=Fin) (d:=0);refine eD W func24 ak ?_;walk_nrmf Tryz.f24;refine ay ?_;refine dm bS h.aH rfl ak ak nf rfl (R:=λwl v aX=>v=.pointer (so ⟨wl.heap.size,0,we⟩)/\aX=wl.alloc (Obj.cells #[.int .i64 0,.slice we 0 0,.slice we 0 0] 59)) (λwl aW=>⟨_,_,by first|(simp[go_sem];done)|(simp[go_sem];rfl),rfl,rfl⟩) λwl v1 aX w1 aW hR bP=>?_;obtain⟨rfl,hR⟩:=hR;obtain⟨z1,k1,sV⟩:=bP.alloc h.aH aW hR;obtain⟨W1,xa⟩:=bC.rC bP.aH z1 k1;rw[aW.size];clear hR bP aW wl aX;obtain⟨dD,h1,S1,yR,hn1⟩:=h.grown (cU.refl h.aH) W1;have hlA:=hn1 w.heap.size (ah _);generalize grow o w w1=o1 at *;have hAl:w.heap.size<w1.heap.size:=aa;generalize hAe:w.heap.size=A at *;refine ay ?_;refine b5 func49 (FJ K.kb 12 s.pb _ _ _ (by rw[h1.row.cell aa];rfl) h1.set.blk) ?_;rintro v0 o2 w2 ⟨rfl,rfl,rfl⟩;refine ay ?_;obtain⟨p0,p1,p2,-,-,-⟩:=fa h1.set.blk;refine dK bS h1.aH rfl ak ak ?_ rfl (v:=.agg #[.int .i64 s.num,s.lv,s.kD]) (λwl aW=>by
  have e:=aW.heap _ h1.set.own;simp[go_sem,(cell_of e).trans p0,(cell_of e).trans p1,(cell_of e).trans p2]) λ_=>?_
 ·exact mo (bX h1.set.own)
 refine ay ?_;refine dm bS h1.aH rfl ak ak nf rfl (R:=λwl v aX=>v=.pointer (so ⟨wl.heap.size,0,we⟩)/\aX=wl.alloc (Obj.cells #[.int .i64 0,.slice we 0 0,.slice we 0 0] 59)) (λwl aW=>⟨_,_,by first|(simp[go_sem];done)|(simp[go_sem];rfl),rfl,rfl⟩) λwl v1 aX w3 aW hR bP=>?_;obtain⟨rfl,hR⟩:=hR;obtain⟨z3,k3,sF⟩:=bP.alloc h1.aH aW hR;obtain⟨W3,Qw⟩:=bC.rC bP.aH z3 k3;rw[aW.size];clear hR bP aW wl aX;obtain⟨mB,h3,S3,Bi,OE⟩:=h1.grown S1 W3;have vu:=W3.more _ xa;have kA3:=(k3 A hAl).trans sV;have ajz:=(Bi A hAl).trans hlA;have aeZ:=OE _ (ah _);generalize grow o2 w2 w3=o3 at *;have hBl:w2.heap.size<w3.heap.size:=aa;have hAB:A<w2.heap.size:=hAl;clear z1;generalize w2.heap.size=B at *;obtain⟨rp,rb,rc,r1,r2,r3,r4⟩:=h3.set.res;obtain⟨tp,tb,tc,t1,t2,t3,t4⟩:=h3.set.gD.row;have Sw:=h3.set.cl;have ajA:=h3.set.gD.cl;have ae0:=h3.set.gF;have ae1:=h3.set.gD.gF;walk_nrm;refine dA bS h3.aH rfl ak ak ?_ rfl (R:=λwl aX=>aX=((wl.setCell ⟨B,0,we⟩ (.int .i64 s.num)).setCell ⟨B,1,we⟩ s.lv).setCell ⟨B,2,we⟩ s.kD) (λwl aW=>⟨_,?_,rfl⟩) λwl aX w4 aW hR bP=>?_
 ·refine jF ?_ ?_
  ·exact bX Qw
  ·exact fW (vs:=[_,_,_]) (λx hx=>by
    simp at hx;rcases hx with rfl|rfl|rfl
    ·exact dV
    ·exact Sw
    ·exact ajA)
 ·obtain⟨e0,e1,e2,f0,f1,f2⟩:=fa ((aW.heap _ Qw).trans sF);rw[r1,t1];simp[go_sem,e0,e1,e2,f0,f1,f2]
 have hO:eM B wl aX:=by rw[hR];exact wC _ _ _ _ _ _ _ _
 obtain⟨vC,sX,e4⟩:=bP.only aW Qw hO;have rn:=bP.aH;rw[e4]at rn |-;rw[hR,MF ((aW.heap _ Qw).trans sF)]at sX;obtain⟨h4,S4⟩:=h3.wrote S3 aeZ aa rn vC;have kA4:=(vC.2 A aa).trans kA3;clear hR bP aW hO wl aX e4;refine ay ?_;refine dK bS h4.aH rfl ak ak ?_ rfl (v:=s.lv) (λwl aW=>by
  have e:=(aW.cell Qw).trans (fa sX).2.1;rw[r1]at e |-;simp[go_sem,e]) λ_=>?_
 ·exact mo (bX Qw)
 refine ay ?_;obtain⟨rp,rb,rc,r1,r2,r3,r4⟩:=h4.set.res;refine b5 func50 (MY h4.aH s.lv rb rc rp s.res r1 ae0 r2 r3 r4 h4.set.cl) ?_;rintro v5 o5 w5 ⟨N5,q5⟩;obtain⟨nV,h5,S5,R5,hn5⟩:=h4.grown S4 (bC.dJ N5);have xj:=bC.more (bC.dJ (ex:=λ_=>False) N5) _ vu;have XO:=bC.more (bC.dJ (ex:=λ_=>False) N5) _ Qw;have z4:=vC.1;have kA5:=(N5.old A aa).trans kA4;have kB5:=(N5.old B aa).trans sX;have uQ:=(R5 A aa).trans ajz;have ae2:=(R5 B aa).trans aeZ;have z5:=N5.size;have cl5:=N5.cl;obtain⟨rp5,rb5,rc5,rfl⟩:∃p l c,v5=.slice p l c:=by
  rcases q5 with⟨rfl,-⟩|⟨g,cap,rfl,-⟩
  ·exact⟨_,_,_,rfl⟩
  ·exact⟨_,_,_,rfl⟩
 refine ay ?_;refine dA bS h5.aH rfl ak ak ?_ rfl (R:=λwl aX=>aX=wl.setCell ⟨B,1,we⟩ (.slice rp5 rb5 rc5)) (λwl aW=>⟨_,?_,rfl⟩) λwl aX w6 aW hR bP=>?_
 ·refine jF ?_ ?_
  ·exact bX XO
  ·exact cl5
 ·obtain⟨e0,e1,e2,f0,f1,f2⟩:=fa ((aW.heap _ XO).trans kB5);simp[go_sem,e1,f1]
 have hO:eM B wl aX:=by rw[hR];exact iX _ _ _ _
 obtain⟨UC,kb6,e6⟩:=bP.only aW XO hO;have EF:=bP.aH;rw[e6]at EF |-;have kB6:w6.heap[B]?=so (.cells #[.int .i64 s.num,.slice rp5 rb5 rc5,s.kD] 59):=by
  rw[kb6,hR];have e:=(aW.heap _ XO).trans kB5;simp[World.setCell,aS,e]
 obtain⟨h6,S6⟩:=h5.wrote S5 ae2 aa EF UC;have kA6:=(UC.2 A aa).trans kA5;have z6:=UC.1;clear hR bP aW hO wl aX e6 kb6;refine ay ?_;refine dK bS h6.aH rfl ak ak ?_ rfl (v:=s.kD) (λwl aW=>by
  have e:=(aW.cell XO).trans (fa kB6).2.2.1;rw[t1]at e |-;simp[go_sem,e]) λ_=>?_
 ·exact mo (bX XO)
 refine ay ?_;obtain⟨tp,tb,tc,t1,t2,t3,t4⟩:=h6.set.gD.row;refine b5 func51 (Dr h6.aH s.kD tb tc tp s.gD t1 aa t2 t3 t4 h6.set.gD.cl) ?_;rintro v7 o7 w7 ⟨N7,q7⟩;obtain⟨Ah,h7,S7,qG,hn7⟩:=h6.grown S6 (bC.dJ N7);have W7:=bC.dJ (ex:=λ_=>False) N7;have Mp:=W7.more _ xj;have hB7:=W7.more _ XO;have kA7:=(N7.old A aa).trans kA6;have kB7:=(N7.old B aa).trans kB6;have M0:=(qG A aa).trans uQ;have ajC:=(qG B aa).trans ae2;have z7:=N7.size;have cl7:=N7.cl;have ae3:=cl5.up W7.more;have ajD:R3 o7 w7 v7 s.gD:=q7.tat cl7 (λg l c e=>iC N7.aH cl7 g (by rw[e];rfl)) ae1;have ajE:∀g,v7.ownBlock=so g->w6.heap.size<=g:=λg hg=>by
  rcases q7 with⟨e,-⟩|⟨g',cap,e,-,e2,-⟩
  ·rw[e]at hg;cases hg
  ·rw[e]at hg;have:=aT hg;simp at this;omega
 obtain⟨tp7,tb7,tc7,rfl⟩:∃p l c,v7=.slice p l c:=by
  rcases q7 with⟨rfl,-⟩|⟨g,cap,rfl,-⟩
  ·exact⟨_,_,_,rfl⟩
  ·exact⟨_,_,_,rfl⟩
 refine ay ?_;refine dA bS h7.aH rfl ak ak ?_ rfl (R:=λwl aX=>aX=wl.setCell ⟨B,2,we⟩ (.slice tp7 tb7 tc7)) (λwl aW=>⟨_,?_,rfl⟩) λwl aX w8 aW hR bP=>?_
 ·refine jF ?_ ?_
  ·exact bX hB7
  ·exact cl7
 ·obtain⟨e0,e1,e2,f0,f1,f2⟩:=fa ((aW.heap _ hB7).trans kB7);rw[t1]at e2;simp[go_sem,e2,f2]
 have hO:eM B wl aX:=by rw[hR];exact iX _ _ _ _
 obtain⟨FQ,kb8,e8⟩:=bP.only aW hB7 hO;have J3:=bP.aH;rw[e8]at J3 |-;have kB8:w8.heap[B]?=so (.cells #[.int .i64 s.num,.slice rp5 rb5 rc5,.slice tp7 tb7 tc7] 59):=by
  rw[kb8,hR];have e:=(aW.heap _ hB7).trans kB7;simp[World.setCell,aS,e]
 obtain⟨h8,S8⟩:=h7.wrote S7 ajC aa J3 FQ;have Zj:=(FQ.2 A aa).trans kA7;have z8:=FQ.1;clear hR bP aW hO wl aX e8 kb8;refine ay ?_;refine dK bS h8.aH rfl ak ak ?_ rfl (v:=.agg #[.int .i64 s.num,.slice rp5 rb5 rc5,.slice tp7 tb7 tc7]) (λwl aW=>by
  obtain⟨e0,e1,e2,-⟩:=fa ((aW.heap _ hB7).trans kB8);simp[go_sem,e0,e1,e2]) λ_=>?_
 ·exact mo (bX hB7)
 walk_nrm;refine dA bS h8.aH rfl ak ak ?_ rfl (R:=λwl aX=>aX=((wl.setCell ⟨A,0,we⟩ (.int .i64 s.num)).setCell ⟨A,1,we⟩ (.slice rp5 rb5 rc5)).setCell ⟨A,2,we⟩ (.slice tp7 tb7 tc7)) (λwl aW=>⟨_,?_,rfl⟩) λwl aX w9 aW hR bP=>?_
 ·refine jF ?_ ?_
  ·exact bX Mp
  ·exact fW (vs:=[_,_,_]) (λx hx=>by
    simp at hx;rcases hx with rfl|rfl|rfl
    ·exact dV
    ·exact ae3
    ·exact cl7)
 ·obtain⟨e0,e1,e2,f0,f1,f2⟩:=fa ((aW.heap _ Mp).trans Zj);simp[go_sem,e0,e1,e2,f0,f1,f2]
 have hO:eM A wl aX:=by rw[hR];exact wC _ _ _ _ _ _ _ _
 obtain⟨lR,oh,e9⟩:=bP.only aW Mp hO;have nT:=bP.aH;rw[e9]at nT |-;rw[hR,MF ((aW.heap _ Mp).trans Zj)]at oh;obtain⟨h9,S9⟩:=h8.wrote S8 M0 aa nT lR;clear hR bP aW hO wl aX e9;refine ay ?_;refine⟨.inr trivial,trivial,.agg #[.int .i64 s.num,.slice rp5 rb5 rc5,.slice tp7 tb7 tc7],xc (λn=>?_) (λn e he=>?_),⟨⟨_,_,rfl,?_,ae3,ajD.keep (λ_ q=>q) λg hg=>?_⟩⟩,Ah,h9,S9,λn rv tv g e hg=>?_⟩
 ·obtain⟨c0,c1,c2,-⟩:=fa (w:=w9.at n) oh;simp[results,results24,go_sem,c0,c1,c2]
 ·obtain⟨c0,c1,c2,-⟩:=fa (w:=w9.at n) oh;simp[results,results24,go_sem,c0,c1,c2]at he;rcases he with rfl|rfl|rfl;all_goals exact⟨_,_,_,rfl,Mp⟩
 ·rcases q5 with⟨e,e2⟩|⟨g,cap,e,g1,g2,g3⟩
  ·exact⟨we,0,0,by rw[e2];exact e,λq=>absurd e2 q,λi hi=>by rw[e2]at hi;simp at hi⟩
  ·refine⟨_,g,cap,e,λ_=>⟨rfl,W7.more _ (iC N5.aH cl5 g (by rw[e];rfl))⟩,jj g3 ?_⟩;rw[lR.2 g aa,FQ.2 g aa,N7.old g aa,UC.2 g aa]
 ·have:=ajE g hg;rw[lR.2 g aa,FQ.2 g aa]
 ·have e1:Value.slice rp5 rb5 rc5=rv:=by
   injection e with e;have:=congrArg (λa=>a[1]?) e;simpa using this
  subst e1;rcases q5 with⟨e,-⟩|⟨g',cap,e,g1,g2,-⟩
  ·rw[e]at hg;cases hg
  ·rw[e]at hg;have:g'=g:=aT hg;subst this;exact⟨aa,(qG _ aa).trans (hn5 _ aa)⟩
end
section
open Go.RowKit
def sA{x y:af}(h:¬x=y):(x.toList==y.toList)=false:=by
 rw[beq_eq_false_iff_ne];intro e;rw[ByteArray.toList_eq,ByteArray.toList_eq]at e;exact h (ByteArray.ext (Array.toList_inj.1 e))
def ee(c:Int)(n:Nat):Nat:=(if c<0 then -(c+1)else c).toNat%n
def nt(c:Int){n:Nat}(h:0<n):ee c n<n:=Nat.mod_lt _ h
def Kq(c:Int)(n:Nat)(w:ae)(h1:-9223372036854775808<=c)(h2:c<=9223372036854775807)(hn:0<n)(VT:n<=1000):
  Calls ax 19 #[.int .i64 c,.int .i64 n] w λe w'=>e=.returned (.int .i64 (ee c n:Nat))/\w'=w:=by
 have En:¬(n:Int)=0:=aa;go_enter func19,ntmps19;by_cases hc:c<0
 ·have e1:IntKind.i64.wrap (c+1)=c+1:=by rw[IntKind.wrap_i64]<;>omega
  have e2:IntKind.i64.wrap (-(c+1))=-(c+1):=by rw[IntKind.wrap_i64]<;>omega
  have e3:-((c+1).tmod n)=((ee c n:Nat):Int):=by
   rw[<- Int.neg_tmod,Int.tmod_eq_emod_of_nonneg aa];unfold ee;rw[if_pos hc,Int.natCast_emod,gC aa]
  go_wp2;go_ret;exact⟨rfl,rfl⟩
 ·have e3:c%n=((ee c n:Nat):Int):=by
   unfold ee;rw[if_neg hc,Int.natCast_emod,gC aa]
  go_wp2;go_ret;exact⟨rfl,rfl⟩
def kj:List af:=[⟨#[97]⟩,⟨#[98]⟩,⟨#[99]⟩,⟨#[100]⟩,⟨#[101]⟩,⟨#[102]⟩]
def QY(w:ae):Calls ax 18 #[] w λe w'=>e=.returned (.slice (so ⟨w.heap.size,0,we⟩) 6 6)/\w'=w.alloc (.cells (kj.map Value.string).toArray 9):=by
 go_enter func18,ntmps18;go_wp2;go_ret;exact⟨rfl,rfl⟩
def iD(i:Nat):af:=(⟨#[111]⟩:af)++⟨#[97+UInt8.ofNat i]⟩
def oU(w:ae)(cs:Array Value)(t:TypeId)(j:Nat):(w.alloc (.cells cs t)).cell? ⟨w.heap.size,j,we⟩=cs[j]?:=by
 simp only[World.cell?];rw[show(w.alloc (.cells cs t)).heap[w.heap.size]?=so (.cells cs t) from by show(w.heap.push _)[w.heap.size]?=_;simp];rfl
def XP(i:Nat)(hi:i<8)(w:ae):Calls ax 15 #[.int .i64 i] w λe w'=>e=.returned (.string (iD i))/\Below w.heap.size w w'/\w.heap.size<=w'.heap.size:=by
 have e1:IntKind.i64.wrap (97+(i:Int))=97+(i:Int):=by rw[IntKind.wrap_i64]<;>omega
 have e2:IntKind.u8.wrap (97+(i:Int))=97+(i:Int):=by simp[IntKind.wrap,IntKind.signed,IntKind.bits];omega
 have hu:(UInt8.ofNat (97+i)).toNat=97+i:=by rw[UInt8.toNat_ofNat'];omega
 have hcv:(convert 90 9 (.slice (so ⟨w.heap.size,0,we⟩) 1 1)).run ax (w.alloc (.cells #[.int .u8 (97+(i:Int))] 5))=.ok (.string ⟨#[UInt8.ofNat (97+i)]⟩) (w.alloc (.cells #[.int .u8 (97+(i:Int))] 5)):=by
  refine run_convert_bytes_back (P:=ax) (w.alloc (.cells #[.int .u8 (97+(i:Int))] 5)) 90 9 5 ⟨w.heap.size,0,we⟩ 1 [UInt8.ofNat (97+i)] underlying90 underlying5 underlying9 (λj hj=>?_);have hj0:j=0:=Nat.lt_one_iff.1 hj;subst hj0;refine(oU w _ _ 0).trans ?_;show so (Value.int .u8 (97+(i:Int)))=so (Value.int .u8 ((UInt8.ofNat (97+i)).toNat:Int));rw[hu];rfl
 have hz:=(Below.refl w.heap.size w).alloc (ah _) (.cells #[.int .u8 (97+(i:Int))] 5);go_enter func15,ntmps15;go_wp2;go_ret;exact⟨rfl,hz,ar⟩
def qD(c:Int):af:=(⟨#[116,104,114,101,101,32,119,111,114,100,115,32,33]⟩:af).extract 0 (ee c 13)
def xo(c:Int):(qD c).size<=12:=by
 have:=nt c (n:=13) aa;unfold qD;rw[ByteArray.size_extract];omega
def QZ(c:Int)(w:ae)(h1:-9223372036854775808<=c)(h2:c<=9223372036854775807):
  Calls ax 20 #[.int .i64 c] w λe w'=>e=.returned (.string (qD c))/\w'=w:=by
 have hp:=Kq c 13 w h1 h2 aa aa;have cx:=nt c (n:=13) aa;have aaV:qD c=(⟨#[116,104,114,101,101,32,119,111,114,100,115,32,33]⟩:af).extract 0 (ee c 13):=rfl;rw[aaV];generalize ee c 13=n at *;go_enter func20,ntmps20;go_wp2_with (go_at_call 19;refine hp.mono ?_;rintro e w' ⟨rfl,rfl⟩);go_ret;exact⟨rfl,rfl⟩
def D9:List af->af->Bool
 | [],_=>false
 |y::l,x=>if y=x then true else D9 l x
def mf(x:af):∀l:List af,D9 l x=true↔x∈l
 | []=>by simp[D9]
 |y::l=>by
  unfold D9;by_cases h:y=x
  ·simp[h]
  ·rw[if_neg h,mf x l,bM];exact⟨.inr,λq=>q.elim (λe=>absurd e.symm h) id⟩
def Q0(b off c:Nat)(p:Option Addr)(ts:List af)(x:af)(w:ae)(hn:ts.length<9000000000000000000)(hp:ts≠[]->p=so ⟨b,off,we⟩)(ht:eN w b off ts):
  Calls ax 27 #[.slice p ts.length c,.string x] w λe w'=>e=.returned (.bool (D9 ts x))/\w'=w:=by
 go_enter func27,ntmps27;go_wp2;go_loop [5] (λi=>∃k:Nat,k<=ts.length/\i=.int .i64 k/\x∉ts.take k) (λi=>ts.length-(intOf i).toNat)
 case atStart=>exact⟨0,aV _,rfl,ar⟩
 case round =>
  obtain⟨k,hk,rfl,hs⟩:=hrel;by_cases cx:k<ts.length
  ·have e:=hp (nlt cx);subst e;have h1:=ht k cx;have hm:ts[k]∈ts:=aG cx;have sD:ts.take (k+1)=ts.take k++[ts[k]]:=take_succ ts k cx;generalize ts[k]=y at *;by_cases hx:y=x
   ·have pg:=(mf x ts).2 (hx▸hm);clear sD hm hs;subst hx;go_wp2;go_ret;exact⟨rfl,rfl⟩
   ·have hxl:=sA hx;go_wp2
    go_round
    case rel=>exact⟨k+1,aa,by go_num,by rw[sD];simp[hs];exact λe=>hx e.symm⟩
    case measure=>simp[intOf];omega
  ·rw[bV aa]at hs;have pg:D9 ts x=false:=by
    cases h:D9 ts x
    ·rfl
    ·exact absurd ((mf x ts).1 h) hs
   go_wp2;go_ret;exact⟨rfl,rfl⟩
def Dy{j:Nat}(h:j<8):j=0\/j=1\/j=2\/j=3\/j=4\/j=5\/j=6\/j=7:=aa
def vD(i:Nat)(h:i<8):(iD i).data=#[111,97+UInt8.ofNat i]:=by
 rcases Dy h with rfl|rfl|rfl|rfl|rfl|rfl|rfl|rfl<;>decide
def Kr{i j:Nat}(hi:i<8)(hj:j<8)(h:iD i=iD j):i=j:=by
 have h:=congrArg ByteArray.data h;rw[vD i hi,vD j hj]at h;revert h;rcases Dy hi with rfl|rfl|rfl|rfl|rfl|rfl|rfl|rfl<;>rcases Dy hj with rfl|rfl|rfl|rfl|rfl|rfl|rfl|rfl<;>decide
def FR(i:Nat)(h:i<8):iD i∉kj:=λq=>by
 have hs:(iD i).data.size=2:=by rw[vD i h];rfl
 simp only[kj,bM,dh,or_false]at q;rcases q with q|q|q|q|q|q<;>(rw[q]at hs;cases hs)
end
section
open Go.RowKit
open Go.Ren (iX eM)
structure IxR(rs:List aI)(x:af)(r:Int):Prop where
 ex:(r=-1/\∀q∈rs,q.out≠x)\/∃i,∃h:i<rs.length,r=(i:Nat)/\rs[i].out=x
def Dz:List aI->af->Nat->Int
 | [],_,_=>-1
 |r::l,x,k=>if r.out=x then(k:Nat)else Dz l x (k+1)
def FT(x:af):∀(l:List aI) (k:Nat),(Dz l x k=-1/\∀q∈l,q.out≠x)\/∃i,∃h:i<l.length,Dz l x k=((k+i:Nat):Int)/\l[i].out=x
 | [],k=>.inl ⟨rfl,ar⟩
 |r::l,k=>by
  unfold Dz;by_cases h:r.out=x
  ·rw[if_pos h];exact .inr ⟨0,ar,ar,by simpa using h⟩
  ·rw[if_neg h];rcases FT x l (k+1) with⟨h1,h2⟩|⟨i,hi,h1,h2⟩
   ·refine .inl ⟨h1,λq hq=>?_⟩;rcases bM.1 hq with rfl|hq
    ·exact h
    ·exact h2 q hq
   ·exact .inr ⟨i+1,eP,by rw[h1];congr 1;omega,by simpa using h2⟩
def Ks(rs:List aI)(x:af):IxR rs x (Dz rs x 0):=by
 rcases FT x rs 0 with h|⟨i,hi,h1,h2⟩
 ·exact⟨.inl h⟩
 ·exact⟨.inr ⟨i,hi,by simpa using h1,h2⟩⟩
def DC(b c:Nat)(p:Option Addr)(rs:List aI)(x:af)(w:ae)(hn:rs.length<=100000)(hp:rs≠[]->p=so ⟨b,0,we⟩)(hv:eT w b rs):
  Calls ax 107 #[.slice p rs.length c,.string x] w λe w'=>e=.returned (.int .i64 (Dz rs x 0))/\w'=w:=by
 go_enter func107,ntmps107;go_wp2;go_loop [8] (λi=>∃k:Nat,k<=rs.length/\i=.int .i64 k/\Dz rs x 0=Dz (rs.drop k) x k) (λi=>rs.length-(intOf i).toNat)
 case atStart=>exact⟨0,aV _,rfl,rfl⟩
 case round =>
  obtain⟨k,hk,rfl,hs⟩:=hrel;by_cases cx:k<rs.length
  ·have e:=hp (nlt cx);subst e;obtain⟨h1,-,-⟩:=hv k cx;rw[List.drop_eq_getElem_cons cx,Dz]at hs;generalize rs[k].out=y at *;by_cases hx:y=x
   ·rw[if_pos hx]at hs;subst hx;go_wp2;go_ret;exact⟨rfl,rfl⟩
   ·rw[if_neg hx]at hs;have hxl:=sA hx;go_wp2
    go_round
    case rel=>exact⟨k+1,aa,by go_num,hs⟩
    case measure=>simp[intOf];omega
  ·rw[List.drop_of_length_le aa,Dz]at hs;go_wp2;go_ret;exact⟨rfl,rfl⟩
def Kt(x:af)(h:isName x)(w:ae):Calls ax 68 #[.string x] w λe w'=>e=.returned (.bool true)/\w'=w:=by
 refine(Kh x w (by have:=h.2.1;omega)).mono λe w' hq=>?_;obtain⟨⟨b,rfl,hb⟩,rfl⟩:=hq;rw[hb.2 h];exact⟨rfl,rfl⟩
def Hp(b c:Nat)(p:Option Addr)(ts:List af)(w:ae)(hn:ts.length<=100000)(hp:ts≠[]->p=so ⟨b,0,we⟩)(ht:eN w b 0 ts)(ha:∀x∈ts,isName x):
  Calls ax 105 #[.slice p ts.length c] w λe w'=>e=.returned (.bool true)/\w'=w:=by
 go_enter func105,ntmps105;go_wp2;go_loop [7] (λi=>∃k:Nat,k<=ts.length/\i=.int .i64 k) (λi=>ts.length-(intOf i).toNat)
 case atStart=>exact⟨0,aV _,rfl⟩
 case round =>
  obtain⟨k,hk,rfl⟩:=hrel;by_cases cx:k<ts.length
  ·have e:=hp (nlt cx);subst e;have h1:=ht k cx;rw[bt]at h1;have vq:=Kt ts[k] (ha _ (aG cx)) w;go_wp2_with (go_at_call 68;refine vq.mono ?_;rintro e w' ⟨rfl,rfl⟩)
   go_round
   case rel=>exact⟨k+1,aa,by go_num⟩
   case measure=>simp[intOf];omega
  ·go_wp2;go_ret;exact⟨rfl,rfl⟩
def Q1(n:Int)(w:ae)(h1:1<=n)(h5:n<=5):Calls ax 106 #[.int .i64 n] w λe w'=>e=.returned (.bool true)/\w'=w:=by
 go_enter func106,ntmps106;go_wp2;go_ret;exact⟨rfl,rfl⟩
structure pT(w:ae)(p:Option Addr)(b:Nat)(rs:List aI)(NM:aI->List af)(NB:aI->Nat):Prop where
 gF:rs.length<=8
 ptr:rs≠[]->p=so ⟨b,0,we⟩/\b<w.heap.size
 at_:eT w b rs
 nm:∀r∈rs,r.sl=(NM r).length/\(NM r≠[]->r.sa=so ⟨NB r,0,we⟩/\NB r<w.heap.size)/\eN w (NB r) 0 (NM r)/\(NM r).length<=4
def pT.below{w w':ae}{p:Option Addr}{b:Nat}{rs:List aI}{NM:aI->List af}{NB:aI->Nat}(h:pT w p b rs NM NB)(hw:Below w.heap.size w w'):pT w' p b rs NM NB:=by
 refine⟨h.gF,λq=>⟨(h.ptr q).1,bz (h.ptr q).2 hw.size⟩,λi hi=>?_,λr hr=>⟨(h.nm r hr).1,λq=>⟨((h.nm r hr).2.1 q).1,bz ((h.nm r hr).2.1 q).2 hw.size⟩,λk hk=>?_,(h.nm r hr).2.2.2⟩⟩
 ·exact h.at_.below (h.ptr (nlt hi)).2 hw i hi
 ·exact(h.nm r hr).2.2.1.below ((h.nm r hr).2.1 (nlt hk)).2 hw k hk
structure Ai(rs:List aI)(NM:aI->List af)(RK:af->Nat):Prop where
 outs:∀r∈rs,isName r.out
 ins:∀r∈rs,∀x∈NM r,isName x
 eO:∀r∈rs,1<=r.eO/\r.eO<=5
 nodup:(rs.map (·.out)).Nodup
 Bl:∀r∈rs,∀x∈NM r,x∈rs.map (·.out)->RK x<RK r.out
def OF(rk:Nat->Nat)(g:Nat->Bool):Prop:=∀i j,i<8->j<8->g (i*8+j)=true->rk j<rk i
structure rO(rk:Nat->Nat)(cs:Array Value):Prop where
 size:cs.size=64
 ex:∃g:Nat->Bool,(∀k,k<64->cs[k]?=so (.bool (g k)))/\OF rk g
def rO.one{rk:Nat->Nat}{cs:Array Value}(h:rO rk cs):cs.all (·.oneCell')=true:=by
 obtain⟨g,hg,-⟩:=h.ex;rw[Array.all_eq_true_iff_forall_mem];intro v hv;obtain⟨k,hk,rfl⟩:=Array.getElem_of_mem hv;have:=hg k (by rw[<- h.size];exact hk);rw[aO hk]at this;rw[aT this];rfl
def xp:(ax.info? 201).map (·.size)=so 64:=ai
structure mg(w:ae)(b:Nat)(rk:Nat->Nat):Prop where
 ex:∃g:Nat->Bool,w.rowIs b 201 64 (λj=>.bool (g j))/\OF rk g
def mg.blk{w:ae}{b:Nat}{rk:Nat->Nat}(h:mg w b rk):∃cs,w.heap[b]?=so (.cells cs 201 (0,0))/\rO rk cs:=by
 obtain⟨g,⟨cs,h1,h2,h3⟩,hg⟩:=h.ex;exact⟨cs,h1,h2,g,λk hk=>h3 k hk,hg⟩
def rO.at{w:ae}{b:Nat}{rk:Nat->Nat}{cs:Array Value}(h:rO rk cs)(hb:w.heap[b]?=so (.cells cs 201 (0,0))):mg w b rk:=by
 obtain⟨g,h1,hg⟩:=h.ex;exact⟨g,⟨cs,hb,h.size,λk hk=>h1 k hk⟩,hg⟩
def mg.of_block{w w':ae}{b:Nat}{rk:Nat->Nat}(h:mg w b rk)(e:w'.heap[b]?=w.heap[b]?):mg w' b rk:=by
 obtain⟨g,h1,hg⟩:=h.ex;exact⟨g,h1.of_block e,hg⟩
def mg.set{w:ae}{b:Nat}{rk:Nat->Nat}(h:mg w b rk){i j:Nat}(hi:i<8)(hj:j<8)(hr:rk j<rk i):mg (w.setCell ⟨b,i*8+j,we⟩ (.bool true)) b rk:=by
 obtain⟨g,h1,hg⟩:=h.ex;refine⟨λk=>if k=i*8+j then true else g k,(h1.set (i*8+j) _).congr λk hk=>?_,λi' j' ml sg hq=>?_⟩
 ·by_cases e:k=i*8+j
  ·simp[e]
  ·simp[e]
 ·by_cases e:i'*8+j'=i*8+j
  ·have e1:i'=i:=aa;have e2:j'=j:=aa;rw[e1,e2];exact hr
  ·simp only[if_neg e]at hq;exact hg i' j' ml sg hq
structure NS(w:ae)(rk:Nat->Nat)(w':ae):Prop where
 M1:Below w.heap.size w w'
 size:w'.heap.size=w.heap.size+2
 vK:mg w' w.heap.size rk
 res:∃z:Array Value,w'.heap[w.heap.size+1]?=so (.cells z 201 (0,0))/\z.size=64
def NS.set{w w':ae}{rk:Nat->Nat}(h:NS w rk w'){i j:Nat}(hi:i<8)(hj:j<8)(hr:rk j<rk i):NS w rk (w'.setCell ⟨w.heap.size,i*8+j,we⟩ (.bool true)):=by
 obtain⟨z,h1,h2⟩:=h.res;have on:=iX w' w.heap.size (i*8+j) (.bool true);exact⟨h.M1.setCell (ah _) _,on.1.trans h.size,h.vK.set hi hj hr,z,(on.2 _ aa).trans h1,h2⟩
def alloc_old(w:ae)(x:Obj)(b:Nat)(h:b<w.heap.size):(w.alloc x).heap[b]?=w.heap[b]?:=by
 show(w.heap.push x)[b]?=_;rw[dt h,aO h]
def sZ{B g:Nat}{a w:ae}(h:Below B a w)(hg:B<=g)(cs:Array Value):Below B a (w.setRow g cs) :=
 ⟨h.os,h.tape,h.output,by rw[setRow_size];exact h.size,λb hb=>(setRow_other w g b cs aa).trans (h.block b hb)⟩
end
section
open Go.RowKit
open Go.Ren (iX eM)
def Ku(rk:Nat->Nat)(cs:Array Value)(Pr:rO rk cs)(w:ae):
  Calls ax 108 #[.agg cs] w λe w'=>∃D4,e=.returned (.agg D4)/\rO rk D4/\Below w.heap.size w w'/\w.heap.size<=w'.heap.size:=by
 have fy:=Pr.size;go_enter func108,ntmps108;go_wp2;go_loopw [6] (λi w'=>∃m:Nat,m<=8/\i=.int .i64 m/\NS w rk w') (λi _=>8-(intOf i).toNat)
 case atStart =>
  refine⟨0,aa,rfl,((Below.refl _ _).alloc (ah _) _).alloc ar _,ar,Pr.at (heap_alloc2_old w _ _),Array.replicate 64 (.bool false),heap_alloc2_new w _ _,ar⟩
 case round =>
  obtain⟨m,hm,rfl,hS⟩:=hrel;by_cases cx:m<8
  ·have hmI:(m:Int)<8:=aa;go_wp2;go_loopw [9] (λi w'=>∃f:Nat,f<=8/\i=.int .i64 f/\NS w rk w') (λi _=>8-(intOf i).toNat)
   case atStart=>exact⟨0,aa,rfl,hS⟩
   case round =>
    clear hS;obtain⟨f,hf,rfl,hS⟩:=hrel;by_cases K1:f<8
    ·have hfI:(f:Int)<8:=aa;go_wp2;go_loopw [12] (λi w'=>∃t:Nat,t<=8/\i=.int .i64 t/\NS w rk w') (λi _=>8-(intOf i).toNat)
     case atStart=>exact⟨0,aa,rfl,hS⟩
     case round =>
      clear hS;obtain⟨t,ht,rfl,hS⟩:=hrel;by_cases zh:t<8
      ·have htI:(t:Int)<8:=aa;obtain⟨g,cp,jl⟩:=hS.vK.ex;have c1:=cp.cell (show f*8+m<64 by omega);have c2:=cp.cell (show m*8+t<64 by omega);have c3:=cp.cell (show f*8+t<64 by omega);have f3:=cp.frozen (f*8+t);cases h1:g (f*8+m)
       ·rw[h1]at c1;go_wp2;exact⟨⟨t+1,aa,by go_num,hS⟩,by simp[intOf];omega⟩
       ·rw[h1]at c1;cases h2:g (m*8+t)
        ·rw[h2]at c2;go_wp2;exact⟨⟨t+1,aa,by go_num,hS⟩,by simp[intOf];omega⟩
        ·rw[h2]at c2;have hr:rk t<rk f:=kE (jl m t cx zh h2) (jl f m K1 cx h1);go_wp2;exact⟨⟨t+1,aa,by go_num,hS.set K1 zh hr⟩,by simp[intOf];omega⟩
      ·go_wp2;exact⟨⟨f+1,aa,by go_num,hS⟩,by simp[intOf];omega⟩
    ·go_wp2;exact⟨⟨m+1,aa,by go_num,hS⟩,by simp[intOf];omega⟩
  ·obtain⟨D4,nz,XQ⟩:=hS.vK.blk;obtain⟨z,hz,Z0⟩:=hS.res;have hi:(ax.info? 201).map (·.size)=so D4.size:=by rw[XQ.size];exact xp
   go_wp2_with (first
    | (refine wpList_load_row rfl 201 _ rfl w.heap.size rfl 201 D4 (0,0) _ nz underlying201 rfl hi ?_)
    | (refine wpList_plain rfl λ_ hK=>wp_store_row 201 _ _ rfl (w.heap.size+1) D4 rfl rfl 201 z hz hi (Z0.trans XQ.size.symm) XQ.one (hK _ _ ?_)))
   refine bodyPost_ret (results_cell_row ak _ _ (w.heap.size+1) 201 D4 (0,0) _ rfl (setRow_heap _ _ _ _ _ _ hz) underlying201 rfl hi) rfl ⟨D4,rfl,XQ,?_,?_⟩
   ·exact sZ hS.M1 aa _
   ·rw[setRow_size,hS.size];omega
structure DS(w:ae)(rk:Nat->Nat)(w':ae):Prop where
 M1:Below w.heap.size w w'
 size:w.heap.size+2<=w'.heap.size
 vK:mg w' (w.heap.size+1) rk
 res:∃z:Array Value,w'.heap[w.heap.size]?=so (.cells z 201 (0,0))/\z.size=64
def DS.set{w w':ae}{rk:Nat->Nat}(h:DS w rk w'){i j:Nat}(hi:i<8)(hj:j<8)(hr:rk j<rk i):DS w rk (w'.setCell ⟨w.heap.size+1,i*8+j,we⟩ (.bool true)):=by
 obtain⟨z,h1,h2⟩:=h.res;have on:=iX w' (w.heap.size+1) (i*8+j) (.bool true);exact⟨h.M1.setCell ar _,by rw[on.1];exact h.size,h.vK.set hi hj hr,z,(on.2 _ aa).trans h1,h2⟩
def DS.alloc{w w':ae}{rk:Nat->Nat}(h:DS w rk w')(x:Obj):DS w rk (w'.alloc x):=by
 obtain⟨z,h1,h2⟩:=h.res;have:=h.size;exact⟨h.M1.alloc aa _,eP,h.vK.of_block (alloc_old _ _ _ aa),z,(alloc_old _ _ _ aa).trans h1,h2⟩
def M3(rk:Nat->Nat)(p:Option Addr)(b c:Nat)(rs:List aI)(NM:aI->List af)(NB:aI->Nat)(w:ae)(hR:pT w p b rs NM NB)(VY:∀i (hi:i<rs.length),∀x∈NM rs[i],∀j (hj:j<rs.length),rs[j].out=x->rk j<rk i):
  Calls ax 109 #[.slice p rs.length c] w λe w'=>∃D4,e=.returned (.agg D4)/\rO rk D4/\Below w.heap.size w w'/\w.heap.size<=w'.heap.size:=by
 have vU:=hR.gF;go_enter func109,ntmps109;go_wp2;go_loopw [11] (λi w'=>∃m:Nat,m<=rs.length/\i=.int .i64 m/\DS w rk w') (λi _=>rs.length-(intOf i).toNat)
 case atStart =>
  refine⟨0,aa,rfl,((Below.refl _ _).alloc (ah _) _).alloc ar _,ar,⟨λ_=>false,⟨Array.replicate 64 (.bool false),heap_alloc2_new w _ _,ar,λk hk=>by simp[hk]⟩,λi j _ _ q=>by cases q⟩,Array.replicate 64 (.bool false),heap_alloc2_old w _ _,ar⟩
 case round =>
  obtain⟨m,hm,rfl,hS⟩:=hrel;by_cases cx:m<rs.length
  ·obtain⟨ep,hb⟩:=hR.ptr (nlt cx);subst ep;have EK:=hR.below hS.M1;obtain⟨c0,c1,c2⟩:=EK.at_ m cx;obtain⟨n1,n2,n3,n4⟩:=hR.nm rs[m] (aG cx);rw[n1]at c2;have hrm:=VY m cx;generalize aqL:NM rs[m]=ts at *;generalize rs[m].sa=sa at *;generalize NB rs[m]=nb at *;generalize rs[m].sc=sc at *;have hSa:=hS.alloc (.cells #[.string rs[m].out,.int .i64 rs[m].eO,.slice sa ts.length sc] 42);go_wp2;go_loopw [19] (λi w'=>∃t:Nat,t<=ts.length/\i=.int .i64 t/\DS w rk w') (λi _=>ts.length-(intOf i).toNat)
   case atStart=>exact⟨0,aa,rfl,hSa⟩
   case round =>
    clear hSa hS EK;obtain⟨t,ht,rfl,hS⟩:=hrel;by_cases zh:t<ts.length
    ·obtain⟨e1,e2⟩:=n2 (nlt zh);subst e1;have h1:=n3.below e2 hS.M1 t zh;rw[bt]at h1;have EK:=hR.below hS.M1;have FD:=DC b c _ rs ts[t] _ aa (λq=>rfl) EK.at_;obtain⟨g,cp,jl⟩:=hS.vK.ex;have hx:=Ks rs ts[t];generalize Dz rs ts[t] 0=r at *;rcases hx.ex with⟨rfl,-⟩|⟨j,hj,rfl,hj2⟩
     ·go_wp2_with (go_at_call 107;refine FD.mono ?_;rintro e w' ⟨rfl,rfl⟩);exact⟨⟨t+1,aa,by go_num,hS⟩,by simp[intOf];omega⟩
     ·have hj8:j<8:=aa;have hjI:(j:Int)<8:=aa;have hmI:(m:Int)<8:=aa;have c3:=cp.cell (show m*8+j<64 by omega);have f3:=cp.frozen (m*8+j);go_wp2_with (go_at_call 107;refine FD.mono ?_;rintro e w' ⟨rfl,rfl⟩);exact⟨⟨t+1,aa,by go_num,hS.set aa hj8 (hrm _ (aG zh) j hj hj2)⟩,by simp[intOf];omega⟩
    ·go_wp2;exact⟨⟨m+1,aa,by go_num,hS⟩,by simp[intOf];omega⟩
  ·obtain⟨D4,nz,XQ⟩:=hS.vK.blk;obtain⟨z,hz,Z0⟩:=hS.res;have hi:(ax.info? 201).map (·.size)=so D4.size:=by rw[XQ.size];exact xp
   go_wp2_with (first
    | (refine wpList_load_row rfl 201 _ rfl (w.heap.size+1) rfl 201 D4 (0,0) _ nz underlying201 rfl hi ?_)
    | (refine wpList_plain rfl λ_ hK=>wp_store_row 201 _ _ rfl w.heap.size D4 rfl rfl 201 z hz hi (Z0.trans XQ.size.symm) XQ.one (hK _ _ ?_)))
   refine bodyPost_ret (results_cell_row ak _ _ w.heap.size 201 D4 (0,0) _ rfl (setRow_heap _ _ _ _ _ _ hz) underlying201 rfl hi) rfl ⟨D4,rfl,XQ,?_,?_⟩
   ·exact sZ hS.M1 (ah _) _
   ·rw[setRow_size];have:=hS.size;omega
end
section
open Go.RowKit
def rO.info{rk:Nat->Nat}{cs:Array Value}(h:rO rk cs):(ax.info? 201).map (·.size)=so cs.size:=by rw[h.size];exact xp
def DD(rk:Nat->Nat)(p:Option Addr)(b c:Nat)(rs:List aI)(NM:aI->List af)(NB:aI->Nat)(w:ae)(hR:pT w p b rs NM NB)(VY:∀i (hi:i<rs.length),∀x∈NM rs[i],∀j (hj:j<rs.length),rs[j].out=x->rk j<rk i):
  Calls ax 67 #[.slice p rs.length c] w λe w'=>e=.returned (.int .i64 (-1))/\Below w.heap.size w w'/\w.heap.size<=w'.heap.size:=by
 have vU:=hR.gF;go_enter func67,ntmps67;go_wp2_with (first
  | (go_at_call 109;refine(M3 rk p b c rs NM NB w hR VY).mono ?_;rintro e w1 ⟨tE,rfl,hN1,BH,WY⟩)
  | (go_at_call 108;refine(Ku rk tE hN1 w1).mono ?_;rintro e w2 ⟨cs2,rfl,hN2,pB,TZ⟩;have hi:=hN2.info)
  | (refine wpList_plain rfl λ_ hK=>wp_store_row 201 _ _ rfl w2.heap.size cs2 rfl rfl 201 _ (jQ _ _) hi hN2.size.symm hN2.one (hK _ _ ?_)))
 have ajF:Below w.heap.size w w2:=BH.trans (pB.mono WY);generalize hzc:(Obj.cells _ 201 (0,0))=zc;have xB:Below w.heap.size w ((w2.alloc zc).setRow w2.heap.size cs2)/\w.heap.size<=((w2.alloc zc).setRow w2.heap.size cs2).heap.size :=
  ⟨sZ (ajF.alloc aa _) aa _,by rw[setRow_size];simp;omega⟩
 have OE:mg ((w2.alloc zc).setRow w2.heap.size cs2) w2.heap.size rk:=by
  rw[<- hzc];exact hN2.at (setRow_heap _ _ _ _ _ _ (jQ _ _))
 generalize (w2.alloc zc).setRow w2.heap.size cs2=w3 at *;obtain⟨g,cp,jl⟩:=OE.ex;go_loop [10] (λi=>∃k:Nat,k<=rs.length/\i=.int .i64 k) (λi=>rs.length-(intOf i).toNat)
 case atStart=>exact⟨0,aV _,rfl⟩
 case round =>
  obtain⟨k,hk,rfl⟩:=hrel;by_cases cx:k<rs.length
  ·have R1:(k:Int)<8:=aa;have c1:=cp.cell (show k*8+k<64 by omega);have hg:g (k*8+k)=false:=by
    cases h:g (k*8+k)
    ·rfl
    ·have:=jl k k aa aa h;omega
   rw[hg]at c1;go_wp2
   go_round
   case rel=>exact⟨k+1,aa,by go_num⟩
   case measure=>simp[intOf];omega
  ·go_wp2;go_ret;exact⟨rfl,xB⟩
def Kv(b c:Nat)(p:Option Addr)(rs:List aI)(x:af)(w:ae)(hn:rs.length<=100000)(hp:rs≠[]->p=so ⟨b,0,we⟩)(hv:eT w b rs)(hx:∀q∈rs,q.out≠x):
  Calls ax 107 #[.slice p rs.length c,.string x] w λe w'=>e=.returned (.int .i64 (-1))/\w'=w:=by
 have:=DC b c p rs x w hn hp hv;rcases(Ks rs x).ex with⟨e,-⟩|⟨i,hi,e,q⟩
 ·rw[e]at this;exact this
 ·exact absurd q (hx _ (aG hi))
def Kw(p:Option Addr)(b c:Nat)(rs:List aI)(NM:aI->List af)(NB:aI->Nat)(RK:af->Nat)(w:ae)(hR:pT w p b rs NM NB)(hY:Ai rs NM RK)(k:Nat)(hk:k<rs.length)(hc:rs.length<=c):
  Calls ax 66 #[.slice p rs.length c,.int .i64 k] w λe w'=>e=.returned (.int .i64 0)/\Below w.heap.size w w'/\w.heap.size<=w'.heap.size:=by
 have vU:=hR.gF;obtain⟨ep,hb⟩:=hR.ptr (nlt hk);subst ep;obtain⟨c0,c1,c2⟩:=hR.at_ k hk;obtain⟨n1,n2,n3,n4⟩:=hR.nm rs[k] (aG hk);have y1:=hY.outs rs[k] (aG hk);have y2:=hY.ins rs[k] (aG hk);obtain⟨y3,y4⟩:=hY.eO rs[k] (aG hk);rw[n1]at c2;have Q2:∀q∈rs.take k,q.out≠rs[k].out:=λq hq e=>by
  obtain⟨j,hj,rfl⟩:=a8 hq;have sg:j<k:=by simp at hj;omega
  rw[gb]at e;have:=aaj.1 hY.nodup j k eP eP sg;simp at this;exact this e
 have gx:∀x:Obj,Below w.heap.size w (w.alloc x):=λx=>(Below.refl _ _).alloc (ah _) _;have pj:∀x:Obj,eT (w.alloc x) b (rs.take k):=λx i hi=>by
  have ml:i<rs.length:=by simp at hi;omega
  have:=(hR.at_.below hb (gx x)) i ml;simpa using this
 have iJ:=λx=>Hp (NB rs[k]) rs[k].sc rs[k].sa (NM rs[k]) (w.alloc x) aa (λq=>(n2 q).1) (λj hj=>n3.below (n2 (nlt hj)).2 (gx x) j hj) y2;have vq:=λx=>Kt rs[k].out y1 (w.alloc x);have Fi:=λx=>Q1 rs[k].eO (w.alloc x) y3 y4;have tu:=λx n=>Kv b c (so ⟨b,0,we⟩) (rs.take k) rs[k].out ((w.alloc x).drewN n) eP (λ_=>rfl) (λi hi=>pj x i hi) Q2;have LY:(rs.take k).length=k:=eP;simp only[LY]at tu;have n4I:¬(4:Int)<((NM rs[k]).length:Int):=aa;have hkc:k<=c:=aa;have ajH:(k:Int)<=(c:Int):=aa;clear pj gx n2 n3 Q2;generalize rs[k].out=y at *;generalize rs[k].eO=rc at *;generalize rs[k].sa=sa at *;generalize rs[k].sc=sc at *;generalize (NM rs[k]).length=nl at *;go_enter func66,ntmps66;go_wp2_with (first
  | (go_at_call 68;refine(vq _).mono ?_;rintro e w' ⟨rfl,rfl⟩)
  | (go_at_call 105;refine(iJ _).mono ?_;rintro e w' ⟨rfl,rfl⟩)
  | (go_at_call 106;refine(Fi _).mono ?_;rintro e w' ⟨rfl,rfl⟩))
 go_quiet (first|(go_at_call 107;refine Calls.quiet_of_same (tu _ _)))
 go_wp2;go_ret;have hB:=(Below.refl w.heap.size w).alloc (ah _) (.cells #[.string y,.int .i64 rc,.slice sa nl sc] 42);exact⟨rfl,⟨hB.os,hB.tape,hB.output,hB.size,hB.block⟩,hB.size⟩
def Q3(p:Option Addr)(b c:Nat)(rs:List aI)(NM:aI->List af)(NB:aI->Nat)(RK:af->Nat)(w:ae)(hR:pT w p b rs NM NB)(hY:Ai rs NM RK)(hc:rs.length<=c):
  Calls ax 39 #[.slice p rs.length c] w λe w'=>e=.returned (.tuple #[.int .i64 0,.int .i64 0])/\Below w.heap.size w w'/\w.heap.size<=w'.heap.size:=by
 have vU:=hR.gF;have h8:¬(8:Int)<(rs.length:Int):=aa;go_enter func39,ntmps39;go_wp2;go_loopw [12] (λi w'=>∃k:Nat,k<=rs.length/\i=.int .i64 k/\Below w.heap.size w w'/\w.heap.size<=w'.heap.size) (λi _=>rs.length-(intOf i).toNat)
 case atStart=>exact⟨0,aV _,rfl,Below.refl _ _,ah _⟩
 case round =>
  obtain⟨k,hk,rfl,gx,hz⟩:=hrel;by_cases cx:k<rs.length
  ·have ajI:=Kw p b c rs NM NB RK _ (hR.below gx) hY k cx hc;go_wp2_with (go_at_call 66;refine ajI.mono ?_;rintro e w2 ⟨rfl,pB,TZ⟩);exact⟨⟨k+1,aa,by go_num,gx.trans (pB.mono hz),aa⟩,by simp[intOf];omega⟩
  ·have Yy:=DD (λi=>((rs[i]?).map λr=>RK r.out).getD 0) p b c rs NM NB _ (hR.below gx) (λi hi x hx j hj e=>by
    simp only[bm hi,bm hj,aJ,bu];rw[e];exact hY.Bl _ (aG hi) x hx (by rw[<- e];exact aag.2 ⟨_,aG hj,rfl⟩))
   go_wp2_with (go_at_call 67;refine Yy.mono ?_;rintro e w2 ⟨rfl,pB,TZ⟩)
   go_ret2
   exact⟨rfl,gx.trans (pB.mono hz),aa⟩
end
section
open Go.RowKit
def UD:(ax.info? 44).map (λi=>(i.zero,i.size,i.bytes))=so (so (.agg #[.string aR,.string aR]),2,32):=ai
def fP(fs:List (af×af)):List Value:=(fs.map λf=>[Value.string f.1,.string f.2]).flatten
def EP(fs:List (af×af))(f:af×af):fP (fs++[f])=fP fs++[.string f.1,.string f.2]:=by simp[fP]
def wJ:∀(fs:List (af×af)) (i:Nat) (h:i<fs.length),(fP fs)[i*2]?=so (.string fs[i].1)/\(fP fs)[i*2+1]?=so (.string fs[i].2)
 |f::fs,0,h=>by simp[fP]
 |f::fs,i+1,h=>by
  have ih:=wJ fs i (by simpa using h);have e:fP (f::fs)=.string f.1 :: .string f.2::fP fs:=by simp[fP]
  have e2:(i+1)*2=i*2+1+1:=aa;rw[e,e2];simpa using ih
def lQ(w:ae)(b:Nat)(fs:List (af×af)):Prop:=∀i (h:i<fs.length),w.cell? ⟨b,i*2,we⟩=so (.string fs[i].1)/\w.cell? ⟨b,i*2+1,we⟩=so (.string fs[i].2)
def lQ.below{w w':ae}{b:Nat}{fs:List (af×af)}(h:lQ w b fs)(hb:b<w.heap.size)(hw:Below w.heap.size w w'):lQ w' b fs:=λk hk=>by
 obtain⟨hc,-⟩:=wv hw;rw[hc _ _ hb,hc _ _ hb];exact h k hk
def tB(W:ae)(lo:Nat)(v:Value)(fs:List (af×af))(x t:af)(A:Nat)(h:W.ownsRow lo 44 2 v fs.length (fP fs))(hn:fs.length<=100000)(zb:lo<=W.heap.size)(c0:W.cell? ⟨A,0,we⟩=so (.string x))(c1:W.cell? ⟨A,1,we⟩=so (.string t)):
  ∃v' W',(Builtin.append_ #[37,37] 37 #[v,.slice (so ⟨A,0,we⟩) 1 1]).run ax W=.ok v' W'/\W'.ownsRow lo 44 2 v' (fs++[(x,t)]).length (fP (fs++[(x,t)]))/\W.grownBy W' v.ownBlock:=by
 obtain⟨i,hi,pP⟩:=aaf.1 UD;simp only[bB]at pP;obtain⟨v',W',e1,e2,e3,_⟩:=run_append_own (P:=ax) W lo 37 37 44 i _ 2 32 underlying37 hi pP.1 pP.2.1 pP.2.2 rfl aa v fs.length (fP fs) h ⟨A,0,we⟩ 1 1 [.string x,.string t] rfl (λj u hj=>by
  match j,hj with
  |0,hj=>simp at hj;subst hj;simpa[Addr.add] using c0
  |1,hj=>simp at hj;subst hj;simpa[Addr.add] using c1) (by simp;exact⟨rfl,rfl⟩) (by simp[maxLen];omega) aa zb
 exact⟨v',W',e1,by rw[EP];simpa using e2,e3⟩
def kK{w:ae}{lo e sz n:Nat}{v:Value}{xs:List Value}(h:w.ownsRow lo e sz v n xs):∃p l c,v=.slice p l c:=by
 obtain⟨_,hc⟩:=h;rcases hc with⟨rfl,_⟩|⟨g,cap,cur,rfl,h1,_⟩
 ·exact⟨_,_,_,rfl⟩
 ·exact⟨_,_,_,rfl⟩
def Hq(fs:List (af×af))(x:af):Bool:=D9 (fs.map (·.1)) x
def s9(fs:List (af×af))(x:af):List (af×af):=fs.filter λf=>decide (f.1≠x)
def oW(fs:List (af×af))(x t:af)(there:Bool):List (af×af):=s9 fs x++(if there then[(x,t)] else[])
def Kx(fs:List (af×af))(x:af):(s9 fs x).length<=fs.length:=fi _ _
def Q4(fs:List (af×af))(x:af)(k:Nat)(h:k<fs.length):s9 (fs.take (k+1)) x=s9 (fs.take k) x++(if fs[k].1=x then[] else[fs[k]]):=by
 rw[take_succ fs k h,s9,List.filter_append];by_cases e:fs[k].1=x
 ·simp[s9,e]
 ·simp[s9,e]
def XR(S b c:Nat)(kv rv:Value)(ed:Int)(p:Option Addr)(fs:List (af×af))(x:af)(w:ae)(hS:w.cell? ⟨S,2,we⟩=so (.slice p fs.length c))(hn:fs.length<=1000)(hp:fs≠[]->p=so ⟨b,0,we⟩)(hf:lQ w b fs):
  Calls ax 35 #[.pointer (so ⟨S,0,we⟩),.string x] w λe w'=>e=.returned (.bool (Hq fs x))/\w'=w:=by
 go_enter func35,ntmps35;go_wp2;go_loop [5] (λi=>∃k:Nat,k<=fs.length/\i=.int .i64 k/\x∉(fs.take k).map (·.1)) (λi=>fs.length-(intOf i).toNat)
 case atStart=>exact⟨0,aV _,rfl,ar⟩
 case round =>
  obtain⟨k,hk,rfl,hs⟩:=hrel;by_cases cx:k<fs.length
  ·have e:=hp (nlt cx);subst e;obtain⟨h1,-⟩:=hf k cx;have hm:fs[k].1∈fs.map (·.1):=aag.2 ⟨_,aG cx,rfl⟩;have sD:(fs.take (k+1)).map (·.1)=(fs.take k).map (·.1)++[fs[k].1]:=by rw[take_succ fs k cx,eY];rfl
   generalize fs[k].1=y at *;by_cases hx:y=x
   ·have pg:Hq fs x=true:=(mf x _).2 (hx▸hm);clear sD hm hs;subst hx;go_wp2;go_ret;exact⟨rfl,rfl⟩
   ·have hxl:=sA hx;go_wp2
    go_round
    case rel=>exact⟨k+1,aa,by go_num,by rw[sD];simp only[List.mem_append,List.mem_singleton];exact λq=>q.elim hs λe=>hx e.symm⟩
    case measure=>simp[intOf];omega
  ·rw[bV aa]at hs;have pg:Hq fs x=false:=by
    cases h:Hq fs x
    ·rfl
    ·exact absurd ((mf x _).1 h) hs
   go_wp2;go_ret;exact⟨rfl,rfl⟩
def XS(S b c:Nat)(p:Option Addr)(fs:List (af×af))(x t:af)(there:Bool)(w:ae)(hS:w.cell? ⟨S,2,we⟩=so (.slice p fs.length c))(hSf:w.frozen? ⟨S,2,we⟩=false)(hSz:S<w.heap.size)(hn:fs.length<=1000)(hp:fs≠[]->p=so ⟨b,0,we⟩/\b<w.heap.size)(hf:lQ w b fs):
  Calls ax 22 #[.pointer (so ⟨S,0,we⟩),.string x,.string t,.bool there] w λe w'=>e=.returned (.tuple #[])/\∃v w2,Below w.heap.size w w2/\w.heap.size<=w2.heap.size/\w2.ownsRow w.heap.size 44 2 v (oW fs x t there).length (fP (oW fs x t there))/\w'=w2.setCell ⟨S,2,we⟩ v:=by
 go_enter func22,ntmps22;go_wp2;go_loopw [8,9] (λv i w'=>∃k:Nat,k<=fs.length/\i=.int .i64 k/\Below w.heap.size w w'/\w.heap.size<=w'.heap.size/\w'.ownsRow w.heap.size 44 2 v (s9 (fs.take k) x).length (fP (s9 (fs.take k) x))) (λv i _=>fs.length-(intOf i).toNat)
 case atStart=>exact⟨0,aV _,rfl,Below.refl _ _,ah _,by simp[s9,fP],.inl ⟨rfl,rfl⟩⟩
 case round =>
  obtain⟨k,hk,rfl,gx,hz,cp⟩:=hrel;have Yv:=(gx.cell (p:=⟨S,2,we⟩) hSz).trans hS;have aqO:=(gx.frozen (p:=⟨S,2,we⟩) hSz).trans hSf;by_cases cx:k<fs.length
  ·obtain⟨e,hb⟩:=hp (nlt cx);subst e;obtain⟨h1,h2⟩:=hf.below hb gx k cx;have EH:=Q4 fs x k cx;have hl:=Kx (fs.take k) x;have Ny:(fs.take k).length<=k:=eP;generalize s9 (fs.take k) x=raw at *;generalize fs[k]=f at *;obtain⟨y,ty⟩:=f;simp only at h1 h2 EH;by_cases hx:y=x
   ·rw[if_pos hx,List.append_nil]at EH;subst hx;go_wp2;exact⟨⟨k+1,aa,by go_num,gx,hz,by rw[EH];exact cp⟩,by simp[intOf];omega⟩
   ·rw[if_neg hx]at EH;have hxl:=sA hx;obtain⟨v',W',e1,e2,e3⟩:=tB (wr.alloc (.cells #[.string y,.string ty] 44)) w.heap.size _ _ y ty wr.heap.size (p6 cp _) aa eP (oU _ _ _ 0) (oU _ _ _ 1);have xB:=Below.grown (gx.alloc aa _) e3 eP (zR cp);go_wp2_with (at_builtin;refine gp rfl _ _ 37 rfl rfl rfl e1 ?_);exact⟨⟨k+1,aa,by go_num,xB,xB.size,by rw[EH];exact e2⟩,by simp[intOf];omega⟩
  ·rw[bV aa]at cp;have hl:=Kx fs x;have Ba:oW fs x t there=s9 fs x++(if there then[(x,t)] else[]):=rfl;generalize s9 fs x=raw at *;cases there
   ·have UE:oW fs x t false=raw:=by rw[Ba];simp
    clear Ba;obtain⟨sp,sl,sc,rfl⟩:=kK cp;go_wp2
    go_end0
    exact⟨rfl,_,_,gx,hz,by rw[UE];exact cp,rfl⟩
   ·have UE:oW fs x t true=raw++[(x,t)]:=by rw[Ba];simp
    clear Ba;obtain⟨v',W',e1,e2,e3⟩:=tB (wr.alloc (.cells #[.string x,.string t] 44)) w.heap.size _ _ x t wr.heap.size (p6 cp _) aa eP (oU _ _ _ 0) (oU _ _ _ 1);have xB:=Below.grown (gx.alloc aa _) e3 eP (zR cp);obtain⟨sp,sl,sc,rfl⟩:=kK e2;have hc3:=(xB.cell (p:=⟨S,2,we⟩) hSz).trans hS;have aqP:=(xB.frozen (p:=⟨S,2,we⟩) hSz).trans hSf;go_wp2_with (at_builtin;refine gp rfl _ _ 37 rfl rfl rfl e1 ?_)
    go_end0
    exact⟨rfl,_,_,xB,xB.size,by rw[UE];exact e2,rfl⟩
end
section
open Go.RowKit
def M4(b c:Nat)(p:Option Addr)(ts:List af)(w:ae)(hn:ts.length<=100000)(hp:p=we->ts=[])(hq:ts≠[]->p=so ⟨b,0,we⟩)(ht:eN w b 0 ts):
  Calls ax 51 #[.slice p ts.length c] w λe w'=>∃v,e=.returned v/\w'.ownsRow w.heap.size 9 1 v ts.length (ts.map .string)/\Below w.heap.size w w'/\w.heap.size<=w'.heap.size:=by
 cases p with
 |none =>
  obtain rfl:=hp rfl;refine(Tryz.slices_Clone_string_nil _ _ w).mono λe w' hq=>?_;obtain⟨rfl,rfl⟩:=hq;exact⟨_,rfl,⟨ar,.inl ⟨rfl,rfl⟩⟩,Below.refl _ _,ah _⟩
 |some a =>
  by_cases dE:ts=[]
  ·subst dE;refine(Tryz.slices_Clone_string_zero a _ w).mono λe w' hq=>?_;obtain⟨v',rfl,h1,-,h2⟩:=hq;exact⟨_,rfl,h1,h2,h2.size⟩
  ·have e:=hq dE;cases e;refine(Tryz.slices_Clone_string b 0 ts.length c ts w (ah _) aa (λj hj=>?_)).mono λe w' hq=>?_
   ·rw[ht j hj];simp[hj]
   ·obtain⟨v',rfl,h1,h2⟩:=hq;rw[cC]at h1;exact⟨_,rfl,h1,h2.2,h2.2.size⟩
def eK(rs:List aI):List Value:=(rs.map aI.cells).flatten
def qE(r:aI)(rs:List aI):eK (r::rs)=.string r.out :: .int .i64 r.eO :: .slice r.sa r.sl r.sc::eK rs:=by simp[eK,aI.cells]
def rP(rs:List aI):(eK rs).length=rs.length*3:=by
 induction rs with
 |nil=>rfl
 |cons r rs ih =>
  rw[qE];simp[ih];omega
def om:∀(rs:List aI) (i:Nat) (h:i<rs.length),(eK rs)[i*3]?=so (.string rs[i].out)/\(eK rs)[i*3+1]?=so (.int .i64 rs[i].eO)/\(eK rs)[i*3+2]?=so (.slice rs[i].sa rs[i].sl rs[i].sc)
 |r::rs,0,h=>by simp[qE]
 |r::rs,i+1,h=>by
  have ih:=om rs i (by simpa using h);have e2:(i+1)*3=i*3+1+1+1:=aa;rw[qE,e2];simpa using ih
def ER(rs:List aI):∀u∈eK rs,u.oneCell'=true:=λu hu=>by
 simp only[eK,List.mem_flatten,List.mem_map]at hu;obtain⟨l,⟨r,-,rfl⟩,hu⟩:=hu;simp[aI.cells]at hu;rcases hu with rfl|rfl|rfl<;>rfl
def ES{w:ae}{b:Nat}{rs:List aI}(h:eT w b rs):∀j u,(eK rs)[j]?=so u->w.cell? ⟨b,j,we⟩=so u:=λj u hu=>by
 have hj:j<rs.length*3:=by
  rw[<- rP];exact(aao.1 hu).1
 have hi:j/3<rs.length:=aa;obtain⟨c0,c1,c2⟩:=om rs (j/3) hi;obtain⟨d0,d1,d2⟩:=h (j/3) hi;have h3:j=j/3*3\/j=j/3*3+1\/j=j/3*3+2:=aa;generalize j/3=i at *;rcases h3 with rfl|rfl|rfl
 ·rw[c0]at hu;rw[d0];exact hu
 ·rw[c1]at hu;rw[d1];exact hu
 ·rw[c2]at hu;rw[d2];exact hu
def UF:(ax.info? 222).map (λi=>(i.zero,i.size,i.bytes))=so (so (.agg #[.bool false,.slice we 0 0,.bool false,.string aR]),4,56):=ai
def ET(w:ae)(n:Nat)(hn:n<=100000):(Instr.makeSlice 148 (.int .i64 (n:Int)) (.int .i64 (n:Int))).run ax w=.ok (.slice (so ⟨w.heap.size,0,we⟩) n n) (w.alloc (.cells (madeCells #[.bool false,.slice we 0 0,.bool false,.string aR] (n*4)) 222)):=by
 obtain⟨i,hi,hz⟩:=aaf.1 UF;simp only[bB]at hz;obtain⟨hz,hs,hb⟩:=hz;have:=run_make (P:=ax) w 148 222 i _ underlying148 hi hz .i64 .i64 n n aa (fK _) (by rw[hb];omega) aa;rw[this,hs];simp[Value.cells]
def yT{w:ae}{lo e sz n:Nat}{v:Value}{xs:List Value}(h:w.ownsRow lo e sz v n xs){p:Option Addr}{l c:Nat}(hv:v=.slice p l c):l=n:=by
 obtain⟨h0,hc⟩:=h;rcases hc with⟨rfl,h2⟩|⟨g,cap,cur,rfl,h1,_⟩
 ·cases hv;exact h2.symm
 ·cases hv;rfl
def te(j:Nat):Value:=match j%4 with
 |0=>.bool false
 |1=>.slice we 0 0
 |2=>.bool false
 |_=>.string aR
def uR(lo hi:Nat)(v:Value)(ts:List af)(w':ae):Prop:=(v=.slice we 0 0/\ts=[])\/∃g cap,v=.slice (so ⟨g,0,we⟩) ts.length cap/\lo<g/\g<hi/\eN w' g 0 ts
def uR.keep{lo hi ml:Nat}{v:Value}{ts:List af}{w w':ae}(h:uR lo hi v ts w)(hz:hi<=ml)(e:∀g,lo<g->g<hi->w'.heap[g]?=w.heap[g]?):uR lo ml v ts w':=by
 rcases h with h|⟨g,cap,h1,h2,h3,h4⟩
 ·exact .inl h
 ·exact .inr ⟨g,cap,h1,h2,aa,λk hk=>(World.cell?_of_block (w:=w) (w':=w') (a:=⟨g,0+k,we⟩) (e g h2 h3)).trans (h4 k hk)⟩
def Q5{lo:Nat}{v:Value}{ts:List af}{w1 w2:ae}(h:w2.ownsRow w1.heap.size 9 1 v ts.length (ts.map .string))(zb:lo<w1.heap.size):uR lo w2.heap.size v ts w2:=by
 have h0:=h;obtain⟨h4,h5⟩:=h;rcases h5 with⟨e1,e2⟩|⟨g,cap,cur,rfl,q1,q2,q3,q4,q5,q6⟩
 ·refine .inl ⟨e1,?_⟩;cases ts with
  |nil=>rfl
  |cons r rs=>simp at e2
 ·have hg:g<w2.heap.size:=aN λq=>by
   rw[cH (de q)]at q2;cases q2
  refine .inr ⟨g,cap,rfl,aa,hg,λi hi=>?_⟩;have hc:=h0.cells (g:=g) rfl i (.string ts[i]) (by simp[hi]);have ha:(⟨g,0,we⟩:Addr).add i=⟨g,i,we⟩:=by simp[Addr.add];omega
  rw[ha]at hc;rw[bt];exact hc
structure BI(w:ae)(rs:List aI)(NM:aI->List af)(Ru k:Nat)(w':ae):Prop where
 M1:Below w.heap.size w w'
 ru:rs≠[]->w.heap.size<=Ru/\Ru<w'.heap.size
 row:rs≠[]->∃N f,w'.rowIs Ru 42 N f/\rs.length*3<=N/\∀i (h:i<rs.length),f (i*3)=.string rs[i].out/\f (i*3+1)=.int .i64 rs[i].eO/\(k<=i->f (i*3+2)=.slice rs[i].sa rs[i].sl rs[i].sc)/\(i<k->uR Ru w'.heap.size (f (i*3+2)) (NM rs[i]) w')
structure M5(lo:Nat)(rs:List aI)(NM:aI->List af)(v:Value)(w':ae):Prop where
 ex:∃(bb Rb Ru c:Nat) (p':Option Addr) (f:Nat->Value),v=.pointer (so ⟨bb,0,we⟩)/\lo<=Rb/\Rb<bb/\bb<w'.heap.size/\((p'=we/\rs=[])\/(p'=so ⟨Ru,0,we⟩/\lo<=Ru/\Ru<Rb)) /\
  (∀i (h:i<rs.length),w'.cell? ⟨Ru,i*3,we⟩=so (.string rs[i].out)/\w'.cell? ⟨Ru,i*3+1,we⟩=so (.int .i64 rs[i].eO)/\w'.cell? ⟨Ru,i*3+2,we⟩=so (f i)/\uR Ru Rb (f i) (NM rs[i]) w') /\
  w'.heap[bb]?=so (K7 (.slice p' rs.length c) (.int .u32 0) (.int .i32 0) (.int .u32 0) (.slice we 0 0) (.slice we 0 0) (.slice we 0 0) (.slice (so ⟨Rb,0,we⟩) rs.length rs.length)) /\
  w'.rowIs Rb 222 (rs.length*4) te
def UG(p:Option Addr)(b c:Nat)(rs:List aI)(NM:aI->List af)(NB:aI->Nat)(w:ae)(hR:pT w p b rs NM NB)(hp:p=we->rs=[])(hpi:∀r∈rs,r.sa=we->NM r=[]):
  Calls ax 41 #[.slice p rs.length c] w λe w'=>∃v,e=.returned v/\Below w.heap.size w w'/\w.heap.size<=w'.heap.size/\M5 w.heap.size rs NM v w':=by
 have vU:=hR.gF;have fw:=EO b c rs.length p (eK rs) w (rP rs) aa (λe=>by rw[hp e];rfl) (λdE=>(hR.ptr (λe=>dE (by rw[e];rfl))).1) (ES hR.at_) (ER rs);have HO:=λw=>ET w rs.length aa;go_enter func41,ntmps41;go_wp2_with (go_at_call 71;refine fw.mono ?_;rintro e w1 ⟨v1,rfl,Ky,BH,WY⟩;obtain⟨p',sl,c',HZ⟩:=kK Ky;have hsl:=yT Ky HZ;subst hsl;subst HZ);obtain⟨Ru,ga,hB0⟩:∃Ru,((p'=we/\rs=[])\/(p'=so ⟨Ru,0,we⟩/\w.heap.size<=Ru/\Ru<w1.heap.size))/\BI w rs NM Ru 0 w1:=by
  rcases Ky.2 with⟨e1,e2⟩|⟨g,cap,cur,e1,q1,q2,q3,q4,q5,q6⟩
  ·have CH:rs=[]:=aal.1 e2;injection e1 with e1 _ _;exact⟨0,.inl ⟨e1,CH⟩,BH,λq=>absurd CH q,λq=>absurd CH q⟩
  ·have hg:g<w1.heap.size:=aN λq=>by
    rw[cH (de q)]at q2;cases q2
   have hc:=Ky.cells (g:=g) (by rw[e1];rfl);cases e1;refine⟨g,.inr ⟨rfl,q1,hg⟩,BH,λ_=>⟨q1,hg⟩,λ_=>⟨cur.size,λj=>cur.getD j undef,⟨cur,q2,rfl,λj hj=>by simp[hj]⟩,by rw[q5];exact iQ _ q3,λi hi=>?_⟩⟩;obtain⟨c0,c1,c2⟩:=om rs i hi;have cc:∀j u,(eK rs)[j]?=so u->cur.getD j undef=u:=λj u hu=>by
    have:=hc j u hu;have hj:j<rs.length*3:=by
     rw[<- rP];exact(aao.1 hu).1
    have hj2:j<cur.size:=by rw[q5];exact bz hj (iQ _ q3)
    have ha:(⟨g,0,we⟩:Addr).add j=⟨g,j,we⟩:=by simp[Addr.add];omega
    rw[ha]at this;simp[World.cell?,q2,hj2]at this;simp[hj2,this]
   exact⟨cc _ _ c0,cc _ _ c1,λ_=>cc _ _ c2,λq=>aa⟩
 clear Ky BH;go_loopw [9] (λi w'=>∃k:Nat,k<=rs.length/\i=.int .i64 k/\BI w rs NM Ru k w'/\w1.heap.size<=w'.heap.size) (λi _=>rs.length-(intOf i).toNat)
 case atStart=>exact⟨0,aV _,rfl,hB0,ah _⟩
 case round =>
  clear hB0;obtain⟨k,hk,rfl,hB,pP⟩:=hrel;by_cases cx:k<rs.length
  ·have dE:rs≠[]:=λe=>by rw[e]at cx;simp at cx
   rcases ga with⟨-,e⟩|⟨rfl,lA,GP⟩
   ·exact absurd e dE
   obtain⟨N,f,cp,hN,hf⟩:=hB.row dE;obtain⟨-,zd⟩:=hB.ru dE;obtain⟨f0,f1,f2,-⟩:=hf k cx;have c2:=cp.cell (show k*3+2<N by omega);have z2:=cp.frozen (k*3+2);rw[f2 (ah _)]at c2;obtain⟨n1,n2,n3,n4⟩:=hR.nm rs[k] (aG cx);rw[n1]at c2;have Pr:=M4 (NB rs[k]) rs[k].sc rs[k].sa (NM rs[k]) wr aa (hpi _ (aG cx)) (λq=>(n2 q).1) (λj hj=>n3.below (n2 (nlt hj)).2 hB.M1 j hj);go_wp2_with (go_at_call 51;refine Pr.mono ?_;rintro e w2 ⟨v2,rfl,Zk,pB,TZ⟩;have pg:=Q5 Zk zd;have KT:=kK Zk;obtain⟨sp,sl,sc2,KT⟩:=KT;subst KT;have cc2:=(pB.cell (p:=⟨Ru,k*3+2,we⟩) zd).trans c2;have zz2:=(pB.frozen (p:=⟨Ru,k*3+2,we⟩) zd).trans z2);have ae7:=World.rowIs.of_block cp (pB.block Ru zd);have on:=Go.Ren.iX w2 Ru (k*3+2) (.slice sp sl sc2);refine⟨⟨k+1,aa,by go_num,⟨?_,λ_=>⟨lA,by rw[on.1];omega⟩,λ_=>⟨N,λj=>if j=k*3+2 then .slice sp sl sc2 else f j,(ae7.set (k*3+2) _).congr λj hj=>rfl,hN,λi hi=>?_⟩⟩,by rw[on.1];omega⟩,by simp[intOf];omega⟩
   ·exact(hB.M1.trans (pB.mono (by have:=hB.M1.size;omega))).setCell (by simpa using lA) _
   ·obtain⟨g0,g1,g2,g3⟩:=hf i hi;have e0:¬i*3=k*3+2:=aa;have e1:¬i*3+1=k*3+2:=aa;simp only[if_neg e0,if_neg e1];refine⟨g0,g1,λq=>?_,λq=>?_⟩
    ·have e2:¬i*3+2=k*3+2:=aa;rw[if_neg e2];exact g2 aa
    ·by_cases e:i=k
     ·subst e;rw[if_pos rfl];exact pg.keep (bI on.1.symm) λg hg _=>on.2 g aa
     ·have e2:¬i*3+2=k*3+2:=aa;rw[if_neg e2];exact(g3 aa).keep (by rw[on.1];exact TZ) λg hg za=>(on.2 g aa).trans (pB.block g za)
  ·have lD:k=rs.length:=aa;subst lD;go_wp2;go_ret;generalize hm:madeCells #[.bool false,.slice we 0 0,.bool false,.string aR] (rs.length*4)=mc;have hms:mc.size=rs.length*4:=by rw[<- hm];simp[size_madeCells]
   have hzw:=hB.M1.size;refine⟨_,rfl,(hB.M1.alloc aa _).alloc eP _,eP,⟨wr.heap.size+1,wr.heap.size,Ru,c',p',λi=>((wr.cell? ⟨Ru,i*3+2,we⟩).getD undef),rfl,hzw,aa,ar,?_,λi hi=>?_,heap_alloc2_new wr _ _,mc,heap_alloc2_old wr _ _,hms,λj hj=>?_⟩⟩
   ·exact ga.imp id λq=>⟨q.1,q.2.1,aa⟩
   ·have dE:rs≠[]:=λe=>by rw[e]at hi;simp at hi
    obtain⟨N,f,cp,hN,hf⟩:=hB.row dE;obtain⟨-,zd⟩:=hB.ru dE;obtain⟨g0,g1,-,g3⟩:=hf i hi;have uL:((wr.alloc (.cells mc 222)).alloc (K7 (.slice p' rs.length c') (.int .u32 0) (.int .i32 0) (.int .u32 0) (.slice we 0 0) (.slice we 0 0) (.slice we 0 0) (.slice (so ⟨wr.heap.size,0,we⟩) rs.length rs.length))).heap[Ru]?=wr.heap[Ru]?:=(alloc_old _ _ _ eP).trans (alloc_old _ _ _ zd);have UH:=World.rowIs.of_block cp uL;have d0:=UH.cell (show i*3<N by omega);have d1:=UH.cell (show i*3+1<N by omega);have d2:=UH.cell (show i*3+2<N by omega);have d3:=cp.cell (show i*3+2<N by omega);rw[g0]at d0;rw[g1]at d1;refine⟨d0,d1,?_,?_⟩
    ·show _=so ((wr.cell? ⟨Ru,i*3+2,we⟩).getD undef);rw[d3];exact d2
    show uR _ _ ((wr.cell? ⟨Ru,i*3+2,we⟩).getD undef) _ _;rw[d3];exact(g3 hi).keep (ah _) λg _ hg=>(alloc_old _ _ _ eP).trans (alloc_old _ _ _ hg)
   ·rw[<- hm];simp only[madeCells,aL,Array.getElem?_range,hj,if_true,aJ];have h4:j%4=0\/j%4=1\/j%4=2\/j%4=3:=aa;rcases h4 with e|e|e|e<;>simp[e,te]
end
open Go.ConcR (Payload)
def fileOf:List af->List V->af->V
 |k::ks,v::vs,x=>if x=k then v else fileOf ks vs x
 |_,_,_=>V0
def yU:∀(ks:List af) (vs:List V),(∀v∈vs,v.2.size<=12)->∀x,(fileOf ks vs x).2.size<=12
 | [],_,_,_=>by simp[fileOf,V0]
 |_::_,[],_,_=>by simp[fileOf,V0]
 |k::ks,v::vs,h,x=>by
  unfold fileOf;split
  ·exact h v ar
  ·exact yU ks vs (λu hu=>h u (by simp[hu])) x
def DF:∀(ks:List af) (vs:List V),ks.Nodup->vs.length=ks.length->vs=ks.map (fileOf ks vs)
 | [],[],_,_=>rfl
 | [],_::_,_,h=>by simp at h
 |_::_,[],_,h=>by simp at h
 |k::ks,v::vs,hn,h=>by
  have hn':=db.1 hn;have ih:=DF ks vs hn'.2 (by simpa using h);have e1:fileOf (k::ks) (v::vs) k=v:=by simp[fileOf]
  have e2:ks.map (fileOf (k::ks) (v::vs))=ks.map (fileOf ks vs):=bG λx hx=>by
   have:x≠k:=λe=>hn'.1 (e▸hx);simp[fileOf,this]
  rw[aC,e1,e2,<- ih]
def lO.nodup{xs:List af}(h:lO xs):xs.Nodup:=aaj.2 λi j hi hj Fv e=>by
 have:=h i j hi hj Fv;rw[e,pZ]at this;exact absurd this eB
def DG{α:Type}{x:af}{v:α}:∀{l:List (af×α)},eR l x=so v->(x,v)∈l
 | [],h=>by cases h
 | (k,u)::l,h=>by
  unfold eR at h;split at h
  ·rename_i e;cases h;subst e;simp
  ·exact bE _ (DG h)
def KA{α:Type}{x:af}{v:α}{y:af×α}:∀{l:List (af×α)},y∈gi l x v->y=(x,v)\/y∈l
 | [],h=>by simpa[gi] using h
 | (k,u)::l,h=>by
  unfold gi at h;split at h
  ·rcases bM.1 h with h|h
   ·exact .inl h
   ·exact .inr (bE _ h)
  ·rcases bM.1 h with h|h
   ·exact .inr (h▸jB)
   ·exact(KA h).imp id (bE _)
def KB{α:Type}{x:af}{y:af×α}:∀{l:List (af×α)},y∈lZ l x->y∈l
 | [],h=>by cases h
 | (k,u)::l,h=>by
  unfold lZ at h;split at h
  ·exact bE _ h
  ·rcases bM.1 h with h|h
   ·exact h▸jB
   ·exact bE _ (KB h)
structure Sound(K:mK)(s:fO):Prop where
 ph:s.phase<=3
 fd:s.phase=2\/s.phase=3->∃lo F,s.fd=so (lo,F)
 src:s.phase=2\/s.phase=3->s.src=dZ K.B.NM K.B.rs
 idle:s.phase<=1->s.src=[]/\s.rd=[]/\s.ck=0
 early:s.phase=2->s.ck=0
 full:s.phase=3->s.rd.length=s.src.length
 rd:∀x∈s.rd,x.1.2.size<=12
 th:∀x∈s.th,x.2.size<=12
 once:s.qn.Nodup
 lost:s.lost=true->4<=s.qn.length
def DH{ts:List af}{lost:Bool}{x:af}(hn:ts.Nodup)(hl:lost=true->4<=ts.length):(iw ts lost x).1.Nodup/\((iw ts lost x).2=true->4<=(iw ts lost x).1.length)/\(∀y,y∈(iw ts lost x).1->y=x\/y∈ts)/\(∀y∈ts,y∈(iw ts lost x).1)/\(x∈(iw ts lost x).1\/(iw ts lost x).2=true)/\(lost=true->(iw ts lost x).2=true):=by
 unfold iw;by_cases hc:Lib.containsS ts x=true
 ·rw[if_pos hc];exact⟨hn,hl,λy hy=>.inr hy,λy hy=>hy,.inl ((Lib.containsS_iff _ _).1 hc),id⟩
 ·rw[if_neg hc];have hx:x∉ts:=λq=>hc ((Lib.containsS_iff _ _).2 q);by_cases h4:4<=ts.length
  ·rw[if_pos h4];exact⟨hn,λ_=>h4,λy hy=>.inr hy,λy hy=>hy,.inr rfl,λ_=>rfl⟩
  ·rw[if_neg h4];refine⟨?_,λq=>absurd (hl q) h4,λy hy=>?_,λy hy=>by simp[hy],.inl ar,id⟩
   ·refine aaB.2 ⟨hn,ar,λa ha b hb e=>?_⟩;simp at hb;exact hx (by rw[<- hb,<- e];exact ha)
   ·simp at hy;exact hy.symm
section
variable {Fin:bL}{o:aM}{w:ae}{K:mK}{s s':fO}{lab:Nat->Nat}
def Sound.tick(h:Sound K s)(t:Nat):Sound K {s with time:=t}:=⟨h.ph,h.fd,h.src,h.idle,h.early,h.full,h.rd,h.th,h.once,h.lost⟩
def Sound.edit(h:Sound K s){x t:af}(ht:t.size<=12)(st':List (af×Int))(rM:Value):Sound K {s with th:=gi s.th x t,st:=st',qv:=rM,qn:=(iw s.qn s.lost x).1,lost:=(iw s.qn s.lost x).2}:=by
 obtain⟨q1,q2,-⟩:=DH (x:=x) h.once h.lost;refine⟨h.ph,h.fd,h.src,h.idle,h.early,h.full,h.rd,λy hy=>?_,q1,q2⟩;rcases KA hy with rfl|hy
 ·exact ht
 ·exact h.th y hy
def Sound.remove(h:Sound K s){x:af}(st':List (af×Int))(rM:Value):Sound K {s with th:=lZ s.th x,st:=st',qv:=rM,qn:=(iw s.qn s.lost x).1,lost:=(iw s.qn s.lost x).2}:=by
 obtain⟨q1,q2,-⟩:=DH (x:=x) h.once h.lost;exact⟨h.ph,h.fd,h.src,h.idle,h.early,h.full,h.rd,λy hy=>h.th y (KB hy),q1,q2⟩
def Sound.stand(h:Sound K s){p t:Nat}(hp:p<=1):Sound K (s.stand p t):=by
 refine⟨?_,?_,?_,?_,?_,?_,?_,h.th,h.once,h.lost⟩<;>simp only[fO.stand]
 ·omega
 ·omega
 ·omega
 ·exact λ_=>⟨trivial,trivial,trivial⟩
 ·omega
 ·omega
 ·simp
def Sound.checked{F:cT}{file:af->V}{v:Value}(h:Sound K s)(h3:s.phase=3)(hc:Checked K s s' F file v):Sound K s':=by
 rcases hc with⟨-,-,gK,MU,qA,qC,-,rfl⟩|⟨h1,h2,⟨-,-,rfl⟩|⟨-,-,rfl⟩⟩
 ·have q:=h.stand (p:=0) (t:=0) aa;exact⟨q.ph,q.fd,q.src,q.idle,q.early,q.full,q.rd,q.th,q.once,q.lost⟩
 ·exact h.stand aa
 ·exact⟨h.ph,h.fd,h.src,λq=>by have:s.phase<=1:=q;omega,λq=>by have:s.phase=2:=q;omega,h.full,h.rd,h.th,h.once,h.lost⟩
def Sound.late(h:Sound K s)(h2:s.phase=2)(hf:s.rd.length=s.src.length):Sound K {s with phase:=3} :=
 ⟨ar,λ_=>h.fd (.inl h2),λ_=>h.src (.inl h2),λq=>by simp at q,λq=>by simp at q,λ_=>hf,h.rd,h.th,h.once,h.lost⟩
def AX{th:List (af×af)}(h:∀x∈th,x.2.size<=12)(x:af):(dG th x).2.size<=12:=by
 unfold dG;split
 ·rename_i t e;exact h _ (DG e)
 ·simp[V0]
def Sound.work{F:cT}{file:af->V}{v:Value}(h:Sound K s)(hc:gL K s s' F file v):Sound K s':=by
 rcases hc with⟨h2,⟨h3,h4⟩|⟨h3,h4,La,rfl⟩⟩|⟨h2,h3⟩|⟨h2,h3,h4⟩
 ·exact(h.late h2 h3).checked rfl h4
 ·refine⟨h.ph,h.fd,h.src,λq=>by have:s.phase<=1:=q;omega,h.early,λq=>by have:s.phase=3:=q;omega,λx hx=>?_,h.th,h.once,h.lost⟩;rcases fN.1 hx with hx|hx
  ·exact h.rd x hx
  ·simp at hx;subst hx;exact AX h.th _
 ·exact h.checked h2 h3
 ·rcases h4 with⟨-,-,rfl⟩|⟨-,-,-,lo,F',Kn,rfl⟩|⟨-,-,-,rfl⟩
  ·have q:Sound K {s with qv:=.slice we 0 0,qn:=[],lost:=false}:=⟨h.ph,h.fd,h.src,h.idle,h.early,h.full,h.rd,h.th,ar,ar⟩;exact q.stand aa
  ·exact⟨by simp[fO.stand],λ_=>⟨lo,F',rfl⟩,λ_=>rfl,λq=>by simp[fO.stand]at q,λ_=>rfl,λq=>by simp[fO.stand]at q,by simp[fO.stand],h.th,h.once,h.lost⟩
  ·exact h
def gL.kind{F:cT}{file:af->V}{v:Value}(hc:gL K s s' F file v):∃n x,v=did n x/\0<=n/\n<=6/\((n=1/\s'.qn=[]/\s'.lost=false)\/(n≠1/\s'.qn=s.qn/\s'.lost=s.lost))/\s'.th=s.th/\s'.st=s.st/\s'.time=s.time:=by
 have FU:∀s s':fO,Checked K s s' F file v->∃n x,v=did n x/\0<=n/\n<=6/\((n=1/\s'.qn=[]/\s'.lost=false)\/(n≠1/\s'.qn=s.qn/\s'.lost=s.lost))/\s'.th=s.th/\s'.st=s.st/\s'.time=s.time:=λs s' hc=>by
  rcases hc with⟨-,e,gK,MU,qA,qC,-,rfl⟩|⟨h1,h2,⟨-,e,rfl⟩|⟨-,e,rfl⟩⟩;all_goals exact⟨_,_,e,aa,aa,.inr ⟨aa,rfl,rfl⟩,rfl,rfl,rfl⟩
 rcases hc with⟨h2,⟨h3,h4⟩|⟨h3,e,La,rfl⟩⟩|⟨h2,h3⟩|⟨h2,h3,h4⟩
 ·exact FU {s with phase:=3} s' h4
 ·exact⟨_,_,e,aa,aa,.inr ⟨aa,rfl,rfl⟩,rfl,rfl,rfl⟩
 ·exact FU _ _ h3
 ·rcases h4 with⟨-,e,rfl⟩|⟨-,-,e,lo,F',Kn,rfl⟩|⟨-,-,e,rfl⟩
  ·exact⟨_,_,e,aa,aa,.inl ⟨rfl,rfl,rfl⟩,rfl,rfl,rfl⟩
  ·exact⟨_,_,e,aa,aa,.inr ⟨aa,rfl,rfl⟩,rfl,rfl,rfl⟩
  ·exact⟨_,_,e,aa,aa,.inr ⟨aa,rfl,rfl⟩,rfl,rfl,rfl⟩
def uS[Payload](h:bp o w K s 0 lab)(hs:Sound K s):
  bA ax (XB ax Fin 0) 38 #[.pointer (so ⟨K.kb,0,we⟩)] o w λv o' w'=>∃s' lab' F,((s.phase=2\/s.phase=3)->∃lo,s.fd=so (lo,F))/\gL K s s' F (fileOf s.src (s.rd.map (·.1))) v/\Sound K s'/\bp o' w' K s' 0 lab'/\cU o w lab o' w' lab':=by
 have mG:∀x,(fileOf s.src (s.rd.map (·.1)) x).2.size<=100:=λx=>by
  have:=yU s.src (s.rd.map (·.1)) (λv hv=>by
   obtain⟨y,hy,rfl⟩:=aag.1 hv;exact hs.rd y hy) x
  omega
 have ae8:s.src=dZ K.B.NM K.B.rs->s.rd.length=s.src.length->s.rd.map (·.1)=(dZ K.B.NM K.B.rs).map (fileOf s.src (s.rd.map (·.1))):=λe hl=>by
  have hn:s.src.Nodup:=by rw[e];exact(oO _).1.nodup
  have:=DF s.src (s.rd.map (·.1)) hn (by simpa using hl);rw[<- e];exact this
 obtain⟨lo,F,hF⟩:∃(lo:Nat) (F:cT),s.phase=2\/s.phase=3->s.fd=so (lo,F):=by
  by_cases hp:s.phase=2\/s.phase=3
  ·obtain⟨lo,F,e⟩:=hs.fd hp;exact⟨lo,F,λ_=>e⟩
  ·exact⟨0,⟨[],0,0,λ_=>0,.slice we 0 0⟩,λq=>absurd q hp⟩
 refine(abm h lo F _ mG hF (λh2 hl=>ae8 (hs.src (.inl h2)) hl) (λh3=>⟨hs.full h3,ae8 (hs.src (.inr h3)) (hs.full h3)⟩)).mono ?_;rintro v o' w' ⟨s',lab',hw,hk,hS⟩;exact⟨s',lab',F,λq=>⟨lo,hF q⟩,hw,hs.work hw,hk,hS⟩
end
section
open Go.RowKit (intOf)
def Hr(w:ae):Calls ax 60 #[] w λe w'=>e=.returned (.pointer (so ⟨w.heap.size+2,0,we⟩))/\w'=((w.alloc (.map #[] 0)).alloc (.map #[] 0)).alloc (.cells #[.map (so w.heap.size),.map (so (w.heap.size+1))] 164):=by
 have HO:∀(t:TypeId) (w:ae),(Instr.makeMap t we).run ax w=.ok (.map (so w.heap.size)) (w.alloc (.map #[] 0)):=λt w=>rfl;go_enter func60,ntmps60;go_wp2;go_ret;exact⟨rfl,rfl⟩
section
variable {Fin:bL}{o o':aM}{w w':ae}
structure Hand(o:aM)(w:ae)(p:Option Addr)(b c:Nat)(rs:List aI)(NM:aI->List af)(NB:aI->Nat)(RK:af->Nat):Prop where
 gF:rs.length<=8
 ptr:rs≠[]->p=so ⟨b,0,we⟩/\o b
 nil:p=we->rs=[]
 at_:eT w b rs
 cl:Cl ax L0 o (.slice p rs.length c)
 cap:rs.length<=c
 nm:∀r∈rs,r.sl=(NM r).length/\(NM r≠[]->r.sa=so ⟨NB r,0,we⟩/\o (NB r))/\eN w (NB r) 0 (NM r)/\(NM r).length<=4
 nmn:∀r∈rs,r.sa=we->NM r=[]
 yes:Ai rs NM RK
 low:∀r∈rs,RK r.out<rs.length
def Hand.rin{p:Option Addr}{b c:Nat}{rs:List aI}{NM:aI->List af}{NB:aI->Nat}{RK:af->Nat}{wl:ae}(h:Hand o w p b c rs NM NB RK)(hF:bO ax L0 o w)(hz:wl.heap.size=w.heap.size)(aW:∀b,o b->wl.heap[b]?=w.heap[b]?):pT wl p b rs NM NB:=by
 refine⟨h.gF,λq=>⟨(h.ptr q).1,by rw[hz];exact hF.lt (h.ptr q).2⟩,λi hi=>?_,λr hr=>⟨(h.nm r hr).1,λq=>⟨((h.nm r hr).2.1 q).1,by rw[hz];exact hF.lt ((h.nm r hr).2.1 q).2⟩,λk hk=>?_,(h.nm r hr).2.2.2⟩⟩
 ·exact gR h.at_ (aW b (h.ptr (nlt hi)).2) i hi
 ·exact cD (h.nm r hr).2.2.1 (aW _ ((h.nm r hr).2.1 (nlt hk)).2) k hk
def OG{p:Option Addr}{b c:Nat}{rs:List aI}{NM:aI->List af}{NB:aI->Nat}{RK:af->Nat}(hF:bO ax L0 o w)(h:Hand o w p b c rs NM NB RK):
  bA ax (XB ax Fin 0) 39 #[.slice p rs.length c] o w λv o' w'=>v=.tuple #[.int .i64 0,.int .i64 0]/\fT o w v o' w':=by
 refine bA.mono (ek ai hF (λy hy=>by simp at hy;subst hy;exact h.cl) (Q:=λwl v w'=>v=.tuple #[.int .i64 0,.int .i64 0]) (λwl AP v w1 w2 e1 e2 h=>h) (λwl hz aW=>?_)) (λv o' w' hq=>?_)
 ·refine(Q3 p b c rs NM NB RK wl (h.rin hF hz aW) h.yes h.cap).mono λe w' hq=>?_;obtain⟨rfl,h1,h2⟩:=hq;exact⟨_,rfl,h2,λb hb=>h1.block b hb,rfl⟩
 ·obtain⟨hN,wl,aX,-,-,-,h1⟩:=hq;exact⟨h1,hN⟩
def yV{w1 w2:ae}{b off:Nat}(e:w2.heap[b]?=w1.heap[b]?):w2.cell? ⟨b,off,we⟩=w1.cell? ⟨b,off,we⟩:=World.cell?_of_block (w:=w1) (w':=w2) (a:=⟨b,off,we⟩) e
def UI{p:Option Addr}{b c:Nat}{rs:List aI}{NM:aI->List af}{NB:aI->Nat}{RK:af->Nat}(hF:bO ax L0 o w)(h:Hand o w p b c rs NM NB RK):
  bA ax (XB ax Fin 0) 41 #[.slice p rs.length c] o w λv o' w'=>fT o w v o' w'/\M5 w.heap.size rs NM v w':=by
 refine bA.mono (ek ai hF (λy hy=>by simp at hy;subst hy;exact h.cl) (Q:=λwl v w'=>M5 wl.heap.size rs NM v w') (λwl AP v w1 w2 e1 e2 h=>?_) (λwl hz aW=>?_)) (λv o' w' hq=>?_)
 ·rw[e1];obtain⟨bb,Rb,Ru,c,p',f,h1,h2,h3,h4,h5,h6,h7,h8⟩:=h.ex;refine⟨bb,Rb,Ru,c,p',f,h1,h2,h3,by rw[e2];exact h4,h5,λi hi=>?_,by rw[e2];exact h7,h8.of_block (by rw[e2])⟩;obtain⟨k1,k2,k3,k4⟩:=h6 i hi;exact⟨(yV (by rw[e2])).trans k1,(yV (by rw[e2])).trans k2,(yV (by rw[e2])).trans k3,k4.keep (ah _) λg _ _=>by rw[e2]⟩
 ·refine(UG p b c rs NM NB wl (h.rin hF hz aW) h.nil h.nmn).mono λe w' hq=>?_;obtain⟨v,rfl,h1,h2,h3⟩:=hq;exact⟨_,rfl,h2,λb hb=>h1.block b hb,h3⟩
 ·obtain⟨hN,wl,aX,z1,z2,hs,h3⟩:=hq;refine⟨hN,?_⟩;rw[z1]at h3;obtain⟨bb,Rb,Ru,c,p',f,h1,h2,h3,h4,h5,h6,h7,h8⟩:=h3.ex;refine⟨bb,Rb,Ru,c,p',f,h1,h2,h3,aa,h5,λi hi=>?_,(hs bb aa aa).trans h7,h8.of_block (hs Rb h2 aa)⟩;obtain⟨k1,k2,k3,k4⟩:=h6 i hi;have zd:w.heap.size<=Ru/\Ru<Rb:=by
   rcases h5 with⟨-,e⟩|⟨-,q1,q2⟩
   ·rw[e]at hi;simp at hi
   ·exact⟨q1,q2⟩
  have e:=hs Ru zd.1 aa;exact⟨(yV e).trans k1,(yV e).trans k2,(yV e).trans k3,k4.keep (ah _) λg g1 g2=>hs g aa aa⟩
def M6(hF:bO ax L0 o w):
  bA ax (XB ax Fin 0) 60 #[] o w λv o' w'=>fT o w v o' w'/\v=.pointer (so ⟨w.heap.size+2,0,we⟩)/\w'.heap.size=w.heap.size+3/\w'.heap[w.heap.size]?=so (.map #[] 0)/\w'.heap[w.heap.size+1]?=so (.map #[] 0)/\w'.heap[w.heap.size+2]?=so (.cells #[.map (so w.heap.size),.map (so (w.heap.size+1))] 164):=by
 refine bA.mono (ek ai hF (λy hy=>by simp at hy) (Q:=λwl v w'=>v=.pointer (so ⟨wl.heap.size+2,0,we⟩)/\w'.heap.size=wl.heap.size+3/\w'.heap[wl.heap.size]?=so (.map #[] 0)/\w'.heap[wl.heap.size+1]?=so (.map #[] 0)/\w'.heap[wl.heap.size+2]?=so (.cells #[.map (so wl.heap.size),.map (so (wl.heap.size+1))] 164)) (λwl AP v w1 w2 e1 e2 h=>?_) (λwl hz aW=>?_)) (λv o' w' hq=>?_)
 ·rw[e1,e2];exact h
 ·refine(Hr wl).mono λe w' hq=>?_;obtain⟨rfl,rfl⟩:=hq;refine⟨_,rfl,eP,λb hb=>?_,rfl,ar,?_,?_,?_⟩
  ·rw[alloc_old _ _ _ eP,alloc_old _ _ _ eP,alloc_old _ _ _ hb]
  ·rw[alloc_old _ _ _ eP,alloc_old _ _ _ ar,jQ]
  ·rw[alloc_old _ _ _ ar];exact heap_alloc2_new _ _ _
  ·have:=jQ ((wl.alloc (.map #[] 0)).alloc (.map #[] 0)) (.cells #[.map (so wl.heap.size),.map (so (wl.heap.size+1))] 164);simpa using this
 ·obtain⟨hN,wl,aX,z1,z2,hs,rfl,h2,h3,h4,h5⟩:=hq;rw[z1]at h2 h3 h4 h5 hN |-;exact⟨hN,rfl,aa,(hs _ aa aa).trans h3,(hs _ aa aa).trans h4,(hs _ aa aa).trans h5⟩
end
end
def slO:Value->Option Addr
 | .slice a _ _=>a
 |_=>we
def slL:Value->Nat
 | .slice _ l _=>l
 |_=>0
def slC:Value->Nat
 | .slice _ _ c=>c
 |_=>0
def OH(rs:List aI)(f:Nat->Value)(i:Nat):aI:=⟨((rs[i]?).map (·.out)).getD aR,((rs[i]?).map (·.eO)).getD 0,slO (f i),slL (f i),slC (f i)⟩
def jT(rs:List aI)(f:Nat->Value):List aI:=(List.range rs.length).map (OH rs f)
def tf(rs:List aI)(f:Nat->Value):(jT rs f).length=rs.length:=by simp[jT]
def pU(rs:List aI)(f:Nat->Value)(i:Nat)(h:i<rs.length)(h':i<(jT rs f).length):(jT rs f)[i]=⟨rs[i].out,rs[i].eO,slO (f i),slL (f i),slC (f i)⟩:=by simp[jT,OH,h]
def rQ(rs:List aI)(f:Nat->Value):(jT rs f).map (·.out)=rs.map (·.out):=by
 apply List.ext_getElem
 ·simp[tf]
 ·intro i h1 h2;have hi:i<rs.length:=by simpa using h2
  simp[pU rs f i hi]
def pV{rs:List aI}{f:Nat->Value}{r:aI}(h:r∈jT rs f):∃i,∃hi:i<rs.length,r=⟨rs[i].out,rs[i].eO,slO (f i),slL (f i),slC (f i)⟩:=by
 obtain⟨i,hi,rfl⟩:=a8 h;have ml:i<rs.length:=by rw[<- tf rs f];exact hi
 exact⟨i,ml,pU rs f i ml hi⟩
def EU:List aI->(aI->List af)->af->List af
 | [],_,_=>[]
 |r::l,NM,x=>if r.out=x then NM r else EU l NM x
def OI{NM:aI->List af}:∀{rs:List aI},(rs.map (·.out)).Nodup->∀r∈rs,EU rs NM r.out=NM r
 | [],_,r,h=>by simp at h
 |q::l,hn,r,h=>by
  rw[aC,db]at hn;unfold EU;rcases bM.1 h with rfl|h
  ·rw[if_pos rfl]
  ·rw[if_neg (λe=>hn.1 (by rw[e];exact aag.2 ⟨r,h,rfl⟩)),OI hn.2 r h]
structure fQ(rs:List aI)(NM:aI->List af)(RK:af->Nat)(B:uO):Prop where
 len:B.rs.length=rs.length
 at_:∀i (h:i<rs.length) (h':i<B.rs.length),B.rs[i].out=rs[i].out/\B.rs[i].eO=rs[i].eO/\B.NM B.rs[i]=NM rs[i]
 outs:B.rs.map (·.out)=rs.map (·.out)
 rk:B.RK=RK
section
variable {Fin:bL}{o o':aM}{w w':ae}
def AY{lo:Nat}{rs:List aI}{NM:aI->List af}{RK:af->Nat}{v:Value}(hF:bO ax L0 o' w')(zb:4<=lo)(own:∀b,lo<=b->b<w'.heap.size->o' b)(gF:rs.length<=8)(yes:Ai rs NM RK)(low:∀r∈rs,RK r.out<rs.length)(four:∀r∈rs,(NM r).length<=4)(pow:jh w')(N:M5 lo rs NM v w'):
  ∃B:uO,v=.pointer (so ⟨B.bb,0,we⟩)/\fL o' w' B we (λ_=>we)/\fQ rs NM RK B/\(∀b,nE B we (λ_=>we) b->b=1\/(lo<=b/\b<=B.bb))/\lo<=B.bb/\B.bb<w'.heap.size:=by
 obtain⟨bb,Rb,Ru0,c,p',f,h1,h2,h3,h4,h5,h6,h7,h8⟩:=N.ex;have o1:o' 1:=hF.kp 1 (by rw[show ax.globals.size=4 by kernel_rfl];omega);obtain⟨Ru,hp,zd,h6⟩:∃Ru,((p'=we/\rs=[])\/p'=so ⟨Ru,0,we⟩)/\(Ru=1\/(lo<=Ru/\Ru<Rb))/\∀i (h:i<rs.length),w'.cell? ⟨Ru,i*3,we⟩=so (.string rs[i].out)/\w'.cell? ⟨Ru,i*3+1,we⟩=so (.int .i64 rs[i].eO)/\w'.cell? ⟨Ru,i*3+2,we⟩=so (f i)/\(lo<=Ru/\uR Ru Rb (f i) (NM rs[i]) w'):=by
  rcases h5 with⟨e1,e2⟩|⟨e1,e2,e3⟩
  ·exact⟨1,.inl ⟨e1,e2⟩,.inl rfl,λi hi=>by rw[e2]at hi;simp at hi⟩
  ·exact⟨Ru0,.inr e1,.inr ⟨e2,e3⟩,λi hi=>⟨(h6 i hi).1,(h6 i hi).2.1,(h6 i hi).2.2.1,e2,(h6 i hi).2.2.2⟩⟩
 have oRu:o' Ru:=by
  rcases zd with rfl|q
  ·exact o1
  ·exact own Ru q.1 aa
 have hlen:=tf rs f;have vq:∀i (hi:i<rs.length),EU rs NM rs[i].out=NM rs[i]:=λi hi=>OI yes.nodup _ (aG hi);have Hd:∀i (hi:i<rs.length),f i=.slice (slO (f i)) (slL (f i)) (slC (f i))/\slL (f i)=(NM rs[i]).length/\((slO (f i)=we/\NM rs[i]=[])\/∃g,slO (f i)=so ⟨g,0,we⟩/\lo<=g/\g<Rb/\eN w' g 0 (NM rs[i])):=λi hi=>by
  obtain⟨-,-,-,k1,k2⟩:=h6 i hi;rcases k2 with⟨e1,e2⟩|⟨g,cap,e1,e2,e3,e4⟩
  ·rw[e1,e2];exact⟨rfl,rfl,.inl ⟨rfl,rfl⟩⟩
  ·rw[e1];exact⟨rfl,rfl,.inr ⟨g,rfl,aa,e3,e4⟩⟩
 have hR:jS (jT rs f) (λr=>EU rs NM r.out) RK:=by
  refine⟨by rw[rQ];exact yes.nodup,λr hr=>?_,λr hr x hx ho=>?_,λr hr=>?_,λr hr=>?_⟩;all_goals obtain⟨i,hi,rfl⟩:=pV hr
  ·rw[hlen];exact low rs[i] (aG hi)
  ·simp only[vq i hi]at hx;rw[rQ]at ho;exact yes.Bl _ (aG hi) x hx ho
  ·exact yes.eO rs[i] (aG hi)
  ·simp only[vq i hi];exact four _ (aG hi)
 have Gv:∀r∈jT rs f,EU rs NM r.out≠[]->lo<=(r.sa.map (·.block)).getD 0/\(r.sa.map (·.block)).getD 0<Rb:=λr hr dE=>by
  obtain⟨i,hi,rfl⟩:=pV hr;simp only[vq i hi]at dE;obtain⟨-,-,q⟩:=Hd i hi;rcases q with⟨-,q⟩|⟨g,q,q1,q2,-⟩
  ·exact absurd q dE
  ·simp only[q,aJ,bu];exact⟨q1,q2⟩
 have hOK:lG o' w' p' Ru c (jT rs f) (λr=>EU rs NM r.out) (λr=>(r.sa.map (·.block)).getD 0):=by
  refine⟨aa,λdE=>?_,oRu,λi hi=>?_,λr hr=>?_,?_,λr hr=>?_⟩
  ·rcases hp with⟨-,e⟩|e
   ·exact absurd (by subst e;rfl) dE
   ·exact e
  ·have ml:i<rs.length:=aa;obtain⟨k0,k1,k2,-⟩:=h6 i ml;rw[pU rs f i ml hi];refine⟨k0,k1,?_⟩;rw[k2];exact congrArg so (Hd i ml).1
  ·obtain⟨i,hi,rfl⟩:=pV hr;obtain⟨-,-,q⟩:=Hd i hi;rcases q with⟨q,-⟩|⟨g,q,q1,q2,-⟩
   ·simp only[q];exact iP
   ·simp only[q];exact dW (own g q1 aa)
  ·rcases hp with⟨e,-⟩|e
   ·rw[e];exact iP
   ·rw[e];exact dW oRu
  ·obtain⟨i,hi,rfl⟩:=pV hr;obtain⟨-,q0,q⟩:=Hd i hi;simp only[vq i hi];refine⟨q0,λdE=>?_,?_,four _ (aG hi)⟩
   ·rcases q with⟨-,q⟩|⟨g,q,q1,q2,-⟩
    ·exact absurd q dE
    ·simp only[q,aJ,bu];exact⟨trivial,own g q1 aa⟩
   ·rcases q with⟨-,q⟩|⟨g,q,q1,q2,q3⟩
    ·rw[q];exact λk hk=>by simp at hk
    ·simp only[q,aJ,bu];exact q3
 obtain⟨cs,r1,r2,r3⟩:=h8;have cJ:∀s,s<rs.length->∀j,j<4->w'.cell? ⟨Rb,s*4+j,we⟩=so (te (s*4+j)):=λs hs j hj=>World.rowIs.cell (b:=Rb) ⟨cs,r1,r2,r3⟩ (show s*4+j<rs.length*4 by omega);refine⟨⟨bb,p',Ru,c,Rb,jT rs f,λr=>EU rs NM r.out,λr=>(r.sa.map (·.block)).getD 0,RK⟩,h1,⟨λb hb=>?_,hR,hOK,?_,⟨_,_,_,by simp only[hlen];exact h7,(λlo F e=>by cases e)⟩,(λlo F e=>by cases e),λ_ _ _=>rfl,⟨cs,r1,by rw[r2,hlen]⟩,λs hs r _=>?_,(λs b vs _ e=>by cases e),pow⟩,⟨hlen,λi h h'=>?_,rQ rs f,rfl⟩,λb hb=>?_,by simp only;omega,h4⟩
 ·rcases hb with rfl|rfl|rfl|rfl|⟨r,hr,q1,rfl⟩|⟨lo,F,q,-⟩|⟨s,vs,-,q⟩
  ·exact own _ aa h4
  ·exact oRu
  ·exact own _ h2 aa
  ·exact o1
  ·obtain⟨k1,k2⟩:=Gv r hr q1;exact own _ k1 (kE k2 aa)
  ·cases q
  ·cases q
 ·show Ru≠bb/\Rb≠bb/\(∀r∈jT rs f,EU rs NM r.out≠[]->(r.sa.map (·.block)).getD 0≠bb)/\4<=Rb/\4<=bb/\Ru≠Rb/\(∀r∈jT rs f,EU rs NM r.out≠[]->(r.sa.map (·.block)).getD 0≠Rb);refine⟨aa,aa,λr hr q=>?_,aa,aa,aa,λr hr q=>?_⟩
  ·have:=Gv r hr q;omega
  ·have:=Gv r hr q;omega
 ·simp only[hlen]at hs;have e0:s*4%4=0:=aa;have e1:(s*4+1)%4=1:=aa;have e2:(s*4+2)%4=2:=aa;have e3:(s*4+3)%4=3:=aa;refine⟨?_,?_,?_,?_⟩
  ·have:=cJ s hs 0 aa;simpa[te,e0] using this
  ·have:=cJ s hs 1 aa;simpa[te,e1] using this
  ·have:=cJ s hs 2 aa;simpa[te,e2] using this
  ·have:=cJ s hs 3 aa;simpa[te,e3] using this
 ·simp only[pU rs f i h h',vq i h];exact⟨trivial,trivial,trivial⟩
 ·rcases hb with rfl|rfl|rfl|rfl|⟨r,hr,q1,rfl⟩|⟨lo,F,q,-⟩|⟨s,vs,-,q⟩
  ·exact .inr ⟨kF (Nat.lt_of_le_of_lt h2 h3),ah _⟩
  ·rcases zd with e|q
   ·exact .inl e
   ·exact .inr ⟨q.1,kF (kE q.2 h3)⟩
  ·exact .inr ⟨h2,kF h3⟩
  ·exact .inl rfl
  ·obtain⟨k1,k2⟩:=Gv r hr q1;exact .inr ⟨k1,kF (kE k2 h3)⟩
  ·cases q
  ·cases q
end
def s0(pb:Nat):fO where
 fd:=we
 old:=λ_=>we
 th:=[]
 st:=[]
 qv:=.slice we 0 0
 qn:=[]
 lost:=false
 time:=0
 phase:=0
 since:=0
 sv:=.slice we 0 0
 src:=[]
 rv:=.slice we 0 0
 rd:=[]
 ck:=0
 pb:=pb
 num:=0
 lv:=.slice we 0 0
 res:=[]
 kD:=.slice we 0 0
 gD:=[]
def UJ(K:mK)(pb:Nat):Sound K (s0 pb):=⟨by simp[s0],by simp[s0],by simp[s0],λ_=>⟨rfl,rfl,rfl⟩,by simp[s0],by simp[s0],by simp[s0],by simp[s0],by simp[s0],by simp[s0]⟩
section
variable {Fin:bL}{o o':aM}{w w':ae}
def M5.keep{lo:Nat}{rs:List aI}{NM:aI->List af}{v:Value}{w w':ae}(h:M5 lo rs NM v w)(hz:w.heap.size<=w'.heap.size)(e:∀b,lo<=b->b<w.heap.size->w'.heap[b]?=w.heap[b]?):M5 lo rs NM v w':=by
 obtain⟨bb,Rb,Ru,c,p',f,h1,h2,h3,h4,h5,h6,h7,h8⟩:=h.ex;refine⟨bb,Rb,Ru,c,p',f,h1,h2,h3,aa,h5,λi hi=>?_,(e bb aa h4).trans h7,h8.of_block (e Rb h2 aa)⟩;obtain⟨k1,k2,k3,k4⟩:=h6 i hi;have zd:lo<=Ru/\Ru<Rb:=by
  rcases h5 with⟨-,e⟩|⟨-,q1,q2⟩
  ·rw[e]at hi;simp at hi
  ·exact⟨q1,q2⟩
 have e':=e Ru zd.1 aa;exact⟨(yV e').trans k1,(yV e').trans k2,(yV e').trans k3,k4.keep (ah _) λg g1 g2=>e g aa aa⟩
def KC(lo bb mT kb pb b:Nat):Nat:=if b=kb then 0 else if b=pb then 6 else if mT<=b/\b<=mT+2 then 2 else if b=1 then 8 else if lo<=b/\b<=bb then 1 else 7
def M7{lo mT kb pb:Nat}{B:uO}(hF:bO ax L0 o' w')(hB:fL o' w' B we (λ_=>we))(uT:∀b,nE B we (λ_=>we) b->b=1\/(lo<=b/\b<=B.bb))(zb:4<=lo)(h1:B.bb<mT)(hlb:lo<=B.bb)(h2:mT+2<kb)(h3:kb<pb)(own:∀b,lo<=b->b<w'.heap.size->o' b)(hpb:pb<w'.heap.size)(m1:w'.heap[mT]?=so (.map #[] 0))(m2:w'.heap[mT+1]?=so (.map #[] 0))(m3:w'.heap[mT+2]?=so (.cells #[.map (so mT),.map (so (mT+1))] 164))(hk:w'.heap[kb]?=so (.cells #[.int .i32 0,.int .u32 0,.pointer (so ⟨B.bb,0,we⟩),.pointer (so ⟨mT+2,0,we⟩),.slice we 0 0,.bool false,.int .i64 0,.int .i64 0,.int .i64 0,.slice we 0 0,.slice we 0 0,.int .i64 0,.pointer (so ⟨pb,0,we⟩)] 120))(hp:w'.heap[pb]?=so (.cells #[.int .i64 0,.slice we 0 0,.slice we 0 0] 59)):
  bp o' w' ⟨B,kb,mT+2,mT,mT+1⟩ (s0 pb) 0 (KC lo B.bb mT kb pb):=by
 refine⟨hF,⟨_,hk,rfl,λj hj=>?_⟩,own kb aa aa,hB,⟨m3,⟨#[],0,m1,rfl⟩,⟨#[],0,m2,rfl⟩,⟨own (mT+2) aa aa,own mT aa aa,own (mT+1) aa aa⟩,show mT+2≠mT/\mT+2≠mT+1/\mT≠mT+1 by omega⟩,?_,⟨⟨we,0,0,rfl,λ_=>rfl,λq=>absurd rfl q,λk hk=>by simp[s0]at hk⟩,iP,by simp[s0]⟩,⟨⟨0,aV _,rfl,.inl ⟨rfl,rfl⟩⟩,iP,by simp[s0]⟩,⟨hp,own pb aa hpb,⟨we,0,0,rfl,λ_=>rfl,λq=>absurd rfl q,λi hi=>by simp[s0]at hi⟩,iP,by simp[s0],⟨⟨we,0,0,rfl,λ_=>rfl,λq=>absurd rfl q,λk hk=>by simp[s0]at hk⟩,iP,by simp[s0]⟩⟩,?_,λb hb=>?_,λb hb=>?_,(λb hb=>by cases hb),(λb hb=>by cases hb),(λb hb=>by cases hb),λb hb=>?_,by simp[s0]⟩
 ·rcases nn hj with rfl|rfl|rfl|rfl|rfl|rfl|rfl|rfl|rfl|rfl|rfl|rfl|rfl<;>rfl
 ·exact⟨⟨0,aV _,rfl,.inl ⟨rfl,rfl⟩⟩,iP⟩
 ·simp[KC]
 ·have:=uT b hb;simp only[KC];rw[if_neg aa,if_neg aa,if_neg aa];unfold MR;by_cases e:b=1
  ·rw[if_pos e,if_pos e]
  ·rw[if_neg e,if_neg e,if_pos (this.resolve_left e)]
 ·have:mT<=b/\b<=mT+2:=by simp only at hb;omega
  simp only[KC];rw[if_neg aa,if_neg aa,if_pos this]
 ·rcases hb with hb|hb|hb
  ·have:b=pb:=hb;subst this;simp only[KC];rw[if_neg aa,if_pos trivial]
  ·cases hb
  ·cases hb
def Zl{p:Option Addr}{b c:Nat}{rs:List aI}{NM:aI->List af}{NB:aI->Nat}{RK:af->Nat}(hF:bO ax L0 o w)(h:Hand o w p b c rs NM NB RK)(pow:jh w):
  bA ax (XB ax Fin 0) 34 #[.slice p rs.length c] o w λv o' w'=>∃K pb lab,v=.tuple #[.pointer (so ⟨K.kb,0,we⟩),.int .i64 0]/\bp o' w' K (s0 pb) 0 lab/\bC (λ_=>False) o w o' w'/\fQ rs NM RK K.B/\(∀b,b<w.heap.size->7<=lab b/\(b≠1->lab b=7))/\w.heap.size<=K.kb:=by
 have W:=bY (P:=ax) (Fin:=Fin) (d:=0);have g4:ax.globals.size=4:=ai;refine bD W func34 ak ?_;walk_nrmf Tryz.f34;refine ay ?_;refine b5 func39 (OG hF h) ?_;rintro v1 o1 w1 ⟨rfl,N1⟩;have W1:bC (λ_=>False) o w o1 w1:=bC.dJ N1;have hz:=hF.size;have h1:Hand o1 w1 p b c rs NM NB RK:=by
  refine⟨h.gF,λq=>⟨(h.ptr q).1,W1.more _ (h.ptr q).2⟩,h.nil,λi hi=>?_,h.cl.up W1.more,h.cap,λr hr=>⟨(h.nm r hr).1,λq=>⟨((h.nm r hr).2.1 q).1,W1.more _ ((h.nm r hr).2.1 q).2⟩,λk hk=>?_,(h.nm r hr).2.2.2⟩,h.nmn,h.yes,h.low⟩
  ·exact gR h.at_ (N1.old _ (hF.lt (h.ptr (nlt hi)).2)) i hi
  ·exact cD (h.nm r hr).2.2.1 (N1.old _ (hF.lt ((h.nm r hr).2.1 (nlt hk)).2)) k hk
 refine ay ?_;refine b5 func41 (UI N1.aH h1) ?_;rintro v2 o2 w2 ⟨N2,B2⟩;have W2:bC (λ_=>False) o1 w1 o2 w2:=bC.dJ N2;obtain⟨bb,uL,VV,KT⟩:∃bb,w1.heap.size<=bb/\bb<w2.heap.size/\v2=.pointer (so ⟨bb,0,we⟩):=by
  obtain⟨bb,Rb,Ru,c,p',f,h1,h2,h3,h4,-⟩:=B2.ex;exact⟨bb,aa,h4,h1⟩
 subst KT;have obb:o2 bb:=by rw[N2.own];exact .inr ⟨uL,VV⟩
 refine ay ?_;refine b5 func60 (M6 N2.aH) ?_;rintro v3 o3 w3 ⟨N3,rfl,z3,m1,m2,m3⟩;have W3:bC (λ_=>False) o2 w2 o3 w3:=bC.dJ N3;have ofb:o3 (w2.heap.size+2):=by rw[N3.own];exact .inr ⟨aa,aa⟩
 have ajL:∀b,w1.heap.size<=b->b<w3.heap.size->o3 b:=λb q1 q2=>by
  by_cases q:b<w2.heap.size
  ·exact W3.more _ (by rw[N2.own];exact .inr ⟨q1,q⟩)
  ·rw[N3.own];exact .inr ⟨aa,q2⟩
 have B3:=B2.keep W3.size λb q1 q2=>N3.old b q2;have aqW:bb<w2.heap.size:=VV;generalize w2.heap.size=mT at *;refine ay ?_;refine dm bS N3.aH rfl ak ak ?_ rfl (R:=λwl v aX=>v=.pointer (so ⟨wl.heap.size,0,we⟩)/\aX=wl.alloc (Obj.cells #[.int .i32 0,.int .u32 0,.pointer (so ⟨bb,0,we⟩),.pointer (so ⟨mT+2,0,we⟩),.slice we 0 0,.bool false,.int .i64 0,.int .i64 0,.int .i64 0,.slice we 0 0,.slice we 0 0,.int .i64 0,.pointer we] 120)) (λwl aW=>⟨_,_,by first|(simp[go_sem];done)|(simp[go_sem];rfl),rfl,rfl⟩) λwl v1 aX w4 aW hR bP=>?_
 ·refine mo ?_;refine fW (vs:=[_,_,_,_,_,_,_,_,_,_,_,_,_]) (λx hx=>?_);simp at hx;rcases hx with rfl|rfl|rfl|rfl|rfl|rfl|rfl|rfl|rfl|rfl;all_goals first|exact dV|exact iP|exact mY|exact BC|exact bX ofb|exact bX (W3.more _ obb)
 obtain⟨rfl,hR⟩:=hR;obtain⟨z4,k4,yO⟩:=bP.alloc N3.aH aW hR;obtain⟨W4,hK4⟩:=bC.rC bP.aH z4 k4;rw[aW.size];have ajM:∀b,w1.heap.size<=b->b<w4.heap.size->grow o3 w3 w4 b:=λb q1 q2=>by
  by_cases q:b<w3.heap.size
  ·exact W4.more _ (ajL b q1 q)
  ·exact .inr ⟨aa,q2⟩
 clear hR bP aW wl aX;generalize grow o3 w3 w4=o4 at *;refine ay ?_;refine dm bS W4.aH rfl ak ak ?_ rfl (R:=λwl v aX=>v=.pointer (so ⟨wl.heap.size,0,we⟩)/\aX=wl.alloc (Obj.cells #[.int .i64 0,.slice we 0 0,.slice we 0 0] 59)) (λwl aW=>⟨_,_,by first|(simp[go_sem];done)|(simp[go_sem];rfl),rfl,rfl⟩) λwl v1 aX w5 aW hR bP=>?_
 ·refine mo ?_;refine fW (vs:=[_,_,_]) (λx hx=>?_);simp at hx;rcases hx with rfl|rfl;all_goals first|exact dV|exact iP
 obtain⟨rfl,hR⟩:=hR;obtain⟨z5,k5,Kf⟩:=bP.alloc W4.aH aW hR;obtain⟨W5,hP5⟩:=bC.rC bP.aH z5 k5;rw[aW.size];have afa:∀b,w1.heap.size<=b->b<w5.heap.size->grow o4 w4 w5 b:=λb q1 q2=>by
  by_cases q:b<w4.heap.size
  ·exact W5.more _ (ajM b q1 q)
  ·exact .inr ⟨aa,q2⟩
 clear hR bP aW wl aX;generalize grow o4 w4 w5=o5 at *;have kk5:=(k5 w3.heap.size aa).trans yO;have z45:w3.heap.size<w4.heap.size:=aa;refine ay ?_;refine b5 func61 (Dk w3.heap.size 12 w4.heap.size _ _ _ (.pointer we) (by simp[World.cell?,kk5]) (by simp[World.frozen?,kk5]) Kf) ?_;rintro v6 o6 w6 ⟨rfl,rfl,rfl⟩;have UC:=iX w5 w3.heap.size 12 (.pointer (so ⟨w4.heap.size,0,we⟩));have kk6:(w5.setCell ⟨w3.heap.size,12,we⟩ (.pointer (so ⟨w4.heap.size,0,we⟩))).heap[w3.heap.size]?=so (.cells #[.int .i32 0,.int .u32 0,.pointer (so ⟨bb,0,we⟩),.pointer (so ⟨mT+2,0,we⟩),.slice we 0 0,.bool false,.int .i64 0,.int .i64 0,.int .i64 0,.slice we 0 0,.slice we 0 0,.int .i64 0,.pointer (so ⟨w4.heap.size,0,we⟩)] 120):=by
  simp[World.setCell,aS,kk5]
 have EF:bO ax L0 o6 (w5.setCell ⟨w3.heap.size,12,we⟩ (.pointer (so ⟨w4.heap.size,0,we⟩))):=Go.Conc.bO.setCell W5.aH (bX hP5);generalize w5.setCell ⟨w3.heap.size,12,we⟩ (.pointer (so ⟨w4.heap.size,0,we⟩))=w6 at *;have z6:=UC.1;have z12:=W1.size;have z21:=W2.size;have z32:=W3.size;have m16:=((UC.2 mT aa).trans ((k5 mT aa).trans (k4 mT aa))).trans m1;have m26:=((UC.2 (mT+1) aa).trans ((k5 (mT+1) aa).trans (k4 (mT+1) aa))).trans m2;have m36:=((UC.2 (mT+2) aa).trans ((k5 (mT+2) aa).trans (k4 (mT+2) aa))).trans m3;have kp6:=(UC.2 w4.heap.size aa).trans Kf;have hold:∀b,b<w3.heap.size->w6.heap[b]?=w3.heap[b]?:=λb hb=>(UC.2 b aa).trans ((k5 b aa).trans (k4 b hb));have B6:=B3.keep (w':=w6) aa λb q1 q2=>hold b q2;have o1w:∀b,b<w.heap.size->w6.heap[b]?=w.heap[b]?:=λb hb=>by rw[hold b aa,N3.old b aa,N2.old b aa,N1.old b hb]
 have ajO:jh w6:=λq hq=>(cell_of (o1w 1 aa)).trans (pow q hq);obtain⟨B,e1,hB,hS,uT,BH,pB⟩:=AY EF aa (λb q1 q2=>afa b q1 aa) h.gF h.yes h.low (λr hr=>(h.nm r hr).2.2.2) ajO B6;have e2:B.bb=bb:=by injection e1 with e1;injection e1 with e1;injection e1 with e1 _ _;exact e1.symm
 rw[<- e2]at kk6;have hk:=M7 (mT:=mT) (kb:=w3.heap.size) (pb:=w4.heap.size) EF hB uT aa aa BH aa aa (λb q1 q2=>afa b q1 aa) aa m16 m26 m36 kk6 kp6;clear B6 B3 B2 hB uT;refine ay ?_;refine⟨.inr trivial,trivial,_,resultsC_tmp2 (t:=2) (u:=3) ak _,_,w4.heap.size,_,by first|(simp[Act.eval];done)|(simp[Act.eval];rfl),hk,⟨EF,λb hb=>W5.more _ (W4.more _ (W3.more _ (W2.more _ (W1.more _ hb)))),λb hb=>?_,aa,λb hb _=>o1w b hb⟩,hS,λb hb=>?_,by simp only;omega⟩
 ·by_cases q:b<w.heap.size
  ·refine .inl ?_;have a5:=(W5.new b hb).resolve_right aa;have a4:=(W4.new b a5).resolve_right aa;have a3:=(W3.new b a4).resolve_right aa;have a2:=(W2.new b a3).resolve_right aa;exact(W1.new b a2).resolve_right aa
  ·exact .inr aa
 ·simp only[KC];rw[if_neg aa,if_neg aa,if_neg aa];by_cases e:b=1
  ·rw[if_pos e];exact⟨aa,λq=>absurd e q⟩
  ·rw[if_neg e,if_neg aa];exact⟨ah _,λ_=>rfl⟩
def lH:Array Value:=(kj.map Value.string).toArray
def Hs(hF:bO ax L0 o w):
  bA ax (XB ax Fin 0) 18 #[] o w λv o' w'=>fT o w v o' w'/\v=.slice (so ⟨w.heap.size,0,we⟩) 6 6/\w'.heap.size=w.heap.size+1/\w'.heap[w.heap.size]?=so (.cells lH 9):=by
 refine bA.mono (ek ai hF (λy hy=>by simp at hy) (Q:=λwl v w'=>v=.slice (so ⟨wl.heap.size,0,we⟩) 6 6/\w'.heap.size=wl.heap.size+1/\w'.heap[wl.heap.size]?=so (.cells lH 9)) (λwl AP v w1 w2 e1 e2 h=>?_) (λwl hz aW=>?_)) (λv o' w' hq=>?_)
 ·rw[e1,e2];exact h
 ·refine(QY wl).mono λe w' hq=>?_;obtain⟨rfl,rfl⟩:=hq;exact⟨_,rfl,ar,λb hb=>alloc_old _ _ _ hb,rfl,ar,jQ _ _⟩
 ·obtain⟨hN,wl,aX,z1,z2,hs,rfl,h2,h3⟩:=hq;rw[z1]at h2 h3 hN |-;exact⟨hN,rfl,aa,(hs _ aa aa).trans h3⟩
def Aj(hF:bO ax L0 o w)(c:Int)(n:Nat)(h1:-9223372036854775808<=c)(h2:c<=9223372036854775807)(hn:0<n)(VT:n<=1000):
  bA ax (XB ax Fin 0) 19 #[.int .i64 c,.int .i64 n] o w λv o' w'=>v=.int .i64 (ee c n:Nat)/\fT o w v o' w':=by
 refine bA.mono (ek ai hF (λy hy=>by simp at hy;rcases hy with rfl|rfl<;>exact dV) (Q:=λwl v w'=>v=.int .i64 (ee c n:Nat)) (λwl AP v w1 w2 e1 e2 h=>h) (λwl hz aW=>?_)) (λv o' w' hq=>?_)
 ·refine(Kq c n wl h1 h2 hn VT).mono λe w' hq=>?_;obtain⟨rfl,rfl⟩:=hq;exact⟨_,rfl,ah _,λ_ _=>rfl,rfl⟩
 ·obtain⟨hN,wl,aX,-,-,-,h1⟩:=hq;exact⟨h1,hN⟩
def Zm(hF:bO ax L0 o w)(i:Nat)(hi:i<8):
  bA ax (XB ax Fin 0) 15 #[.int .i64 i] o w λv o' w'=>v=.string (iD i)/\fT o w v o' w':=by
 refine bA.mono (ek ai hF (λy hy=>by simp at hy;subst hy;exact dV) (Q:=λwl v w'=>v=.string (iD i)) (λwl AP v w1 w2 e1 e2 h=>h) (λwl hz aW=>?_)) (λv o' w' hq=>?_)
 ·refine(XP i hi wl).mono λe w' hq=>?_;obtain⟨rfl,h1,h2⟩:=hq;exact⟨_,rfl,h2,λb hb=>h1.block b hb,rfl⟩
 ·obtain⟨hN,wl,aX,-,-,-,h1⟩:=hq;exact⟨h1,hN⟩
def OJ(hF:bO ax L0 o w)(c:Int)(h1:-9223372036854775808<=c)(h2:c<=9223372036854775807):
  bA ax (XB ax Fin 0) 20 #[.int .i64 c] o w λv o' w'=>v=.string (qD c)/\fT o w v o' w':=by
 refine bA.mono (ek ai hF (λy hy=>by simp at hy;subst hy;exact dV) (Q:=λwl v w'=>v=.string (qD c)) (λwl AP v w1 w2 e1 e2 h=>h) (λwl hz aW=>?_)) (λv o' w' hq=>?_)
 ·refine(QZ c wl h1 h2).mono λe w' hq=>?_;obtain⟨rfl,rfl⟩:=hq;exact⟨_,rfl,ah _,λ_ _=>rfl,rfl⟩
 ·obtain⟨hN,wl,aX,-,-,-,h1⟩:=hq;exact⟨h1,hN⟩
def Ht(hF:bO ax L0 o w)(b off c:Nat)(p:Option Addr)(ts:List af)(x:af)(hn:ts.length<9000000000000000000)(hq:ts≠[]->p=so ⟨b,off,we⟩/\o b)(ht:eN w b off ts)(hc:Cl ax L0 o (.slice p ts.length c)):
  bA ax (XB ax Fin 0) 27 #[.slice p ts.length c,.string x] o w λv o' w'=>v=.bool (D9 ts x)/\fT o w v o' w':=by
 refine bA.mono (ek ai hF (λy hy=>by simp at hy;rcases hy with rfl|rfl;exact hc;exact bQ) (Q:=λwl v w'=>v=.bool (D9 ts x)) (λwl AP v w1 w2 e1 e2 h=>h) (λwl hz aW=>?_)) (λv o' w' hq=>?_)
 ·refine(Q0 b off c p ts x wl hn (λq=>(hq q).1) (λk hk=>cD ht (aW b (hq (nlt hk)).2) k hk)).mono λe w' hq=>?_;obtain⟨rfl,rfl⟩:=hq;exact⟨_,rfl,ah _,λ_ _=>rfl,rfl⟩
 ·obtain⟨hN,wl,aX,-,-,-,h1⟩:=hq;exact⟨h1,hN⟩
structure px(o:aM)(w:ae)(fv:Value)(fs:List (af×af)):Prop where
 ex:∃p b c,fv=.slice p fs.length c/\(fs≠[]->p=so ⟨b,0,we⟩/\o b)/\lQ w b fs
 cl:Cl ax L0 o fv
 cap:∀p l c,fv=.slice p l c->l<=c
def lI{w w':ae}{b:Nat}{fs:List (af×af)}(h:lQ w b fs)(e:w'.heap[b]?=w.heap[b]?):lQ w' b fs:=λi hi=>⟨(cell_of e).trans (h i hi).1,(cell_of e).trans (h i hi).2⟩
def px.keep{fv:Value}{fs:List (af×af)}(h:px o w fv fs)(nZ:∀b,o b->o' b)(e:∀g,fv.ownBlock=so g->w'.heap[g]?=w.heap[g]?):px o' w' fv fs:=by
 obtain⟨p,b,c,h1,h2,h3⟩:=h.ex;refine⟨⟨p,b,c,h1,λq=>⟨(h2 q).1,nZ _ (h2 q).2⟩,λi hi=>?_⟩,h.cl.up nZ,h.cap⟩;have q:fs≠[]:=λq=>by rw[q]at hi;simp at hi
 exact lI h3 (e b (by rw[h1,(h2 q).1];rfl)) i hi
def afb(hF:bO ax L0 o w)(S:Nat)(kv rv fv:Value)(ed:Int)(fs:List (af×af))(x:af)(hS:w.heap[S]?=so (.cells #[kv,rv,fv,.int .i64 ed] 39))(oS:o S)(hf:px o w fv fs)(hn:fs.length<=1000):
  bA ax (XB ax Fin 0) 35 #[.pointer (so ⟨S,0,we⟩),.string x] o w λv o' w'=>v=.bool (Hq fs x)/\fT o w v o' w':=by
 obtain⟨p,b,c,h1,h2,h3⟩:=hf.ex;refine bA.mono (ek ai hF (λy hy=>by simp at hy;rcases hy with rfl|rfl;exact bX oS;exact bQ) (Q:=λwl v w'=>v=.bool (Hq fs x)) (λwl AP v w1 w2 e1 e2 h=>h) (λwl hz aW=>?_)) (λv o' w' hq=>?_)
 ·refine(XR S b c kv rv ed p fs x wl (by simp[World.cell?,aW S oS,hS,h1]) hn (λq=>(h2 q).1) (λk hk=>lI h3 (aW b (h2 (nlt hk)).2) k hk)).mono λe w' hq=>?_;obtain⟨rfl,rfl⟩:=hq;exact⟨_,rfl,ah _,λ_ _=>rfl,rfl⟩
 ·obtain⟨hN,wl,aX,-,-,-,h1⟩:=hq;exact⟨h1,hN⟩
def OL(hF:bO ax L0 o w)(S:Nat)(kv rv fv:Value)(ed:Int)(fs:List (af×af))(x t:af)(there:Bool)(hS:w.heap[S]?=so (.cells #[kv,rv,fv,.int .i64 ed] 39))(oS:o S)(hf:px o w fv fs)(hn:fs.length<=1000)(dE:fv.ownBlock≠so S):
  bA ax (XB ax Fin 0) 22 #[.pointer (so ⟨S,0,we⟩),.string x,.string t,.bool there] o w λv o' w'=>v=.tuple #[]/\bC (λb=>b=S) o w o' w'/\∃xC,w'.heap[S]?=so (.cells #[kv,rv,xC,.int .i64 ed] 39)/\px o' w' xC (oW fs x t there)/\∀g,xC.ownBlock=so g->w.heap.size<=g:=by
 obtain⟨p,b,c,h1,h2,h3⟩:=hf.ex;refine sO bS ai hF (On (λy hy=>by simp at hy;rcases hy with rfl|rfl|rfl|rfl;exact bX oS;exact bQ;exact bQ;exact mY))
  (R:=λwl v aX=>v=.tuple #[]/\∃xC w2h,wl.heap.size<=w2h.size/\(∀b,b<wl.heap.size->w2h[b]?=wl.heap[b]?)/\(∃w2:ae,w2.heap=w2h/\w2.ownsRow wl.heap.size 44 2 xC (oW fs x t there).length (fP (oW fs x t there))/\aX.heap=(w2.setCell ⟨S,2,we⟩ xC).heap))
  (λwl v w1 τ d h=>h) (λwl τ d v w' h=>h) (λwl hz aW=>?_) ?_
 ·refine(XS S b c p fs x t there wl (by simp[World.cell?,aW S oS,hS,h1]) (by simp[World.frozen?,aW S oS,hS]) (by rw[hz];exact hF.lt oS) hn (λq=>⟨(h2 q).1,by rw[hz];exact hF.lt (h2 q).2⟩) (λk hk=>lI h3 (aW b (h2 (nlt hk)).2) k hk)).mono λe w' hq=>?_;obtain⟨rfl,xC,w2,q1,q2,q3,rfl⟩:=hq;exact⟨_,rfl,rfl,xC,w2.heap,q2,λb hb=>q1.block b hb,w2,rfl,q3,rfl⟩
 ·rintro wl v aX w' hz aW ⟨rfl,xC,w2h,q1,q2,w2,rfl,q3,q4⟩ B;have hSl:S<wl.heap.size:=by rw[hz];exact hF.lt oS
  have on:=iX w2 S 2 xC;have zz:aX.heap.size=w2.heap.size:=by rw[q4];exact on.1
  have eS:w'.heap[S]?=so (.cells #[kv,rv,xC,.int .i64 ed] 39):=by
   rw[B.same S (.inl oS),q4];have e:w2.heap[S]?=so (.cells #[kv,rv,fv,.int .i64 ed] 39):=(q2 S hSl).trans ((aW S oS).trans hS);simp[World.setCell,aS,e]
  have PL:=zR q3;have hW:bC (λb=>b=S) o w (grow o w w') w':=by
   refine⟨B.aH,jf,λb hb=>hb.imp id λq=>q.1,B.iS,λb hb hx=>?_⟩;by_cases ho:o b
   ·rw[B.same b (.inl ho),q4,on.2 b hx,q2 b aa,aW b ho]
   ·exact B.rest b hb ho
  have z2:=B.size;have Bf:∀p l c,xC=.slice p l c->l<=c:=λp l c e=>by
   obtain⟨_,hc⟩:=q3;rcases hc with⟨e2,e3⟩|⟨g,cap,cur,e2,k1,k2,k3,-⟩
   ·rw[e2]at e;cases e;exact ah _
   ·rw[e2]at e;cases e;exact k3
  refine⟨rfl,hW,xC,eS,⟨?_,?_,Bf⟩,λg hg=>by rw[<- hz];exact PL g hg⟩
  ·obtain⟨h0,hc⟩:=q3;rcases hc with⟨rfl,e⟩|⟨g,cap,cur,rfl,k1,k2,k3,k4,k5,k6⟩
   ·have Q6:=aal.1 e;rw[Q6];exact⟨we,0,0,rfl,λq=>absurd rfl q,λi hi=>by simp at hi⟩
   ·have TT:g<w2.heap.size:=(aad.1 k2).1;refine⟨_,g,cap,rfl,λ_=>⟨rfl,.inr ⟨aa,aa⟩⟩,λi hi=>?_⟩;have eg:w'.heap[g]?=w2.heap[g]?:=by
     rw[B.same g (.inr ⟨aa,aa⟩),q4];exact on.2 g aa
    have own:w2.ownsRow wl.heap.size 44 2 (.slice (so ⟨g,0,we⟩) (oW fs x t there).length cap) (oW fs x t there).length (fP (oW fs x t there)):=⟨h0,.inr ⟨g,cap,cur,rfl,k1,k2,k3,k4,k5,k6⟩⟩;obtain⟨c0,c1⟩:=wJ (oW fs x t there) i hi;have lT:∀j u,(fP (oW fs x t there))[j]?=so u->w2.cell? ⟨g,j,we⟩=so u:=λj u hu=>by
     have:=own.cells (g:=g) rfl j u hu;have ha:(⟨g,0,we⟩:Addr).add j=⟨g,j,we⟩:=by simp[Addr.add];omega
     rw[ha]at this;exact this
    exact⟨(cell_of eg).trans (lT _ _ c0),(cell_of eg).trans (lT _ _ c1)⟩
  ·obtain⟨h0,hc⟩:=q3;rcases hc with⟨rfl,e⟩|⟨g,cap,cur,rfl,k1,k2,k3,k4,k5,k6⟩
   ·exact iP
   ·have TT:g<w2.heap.size:=(aad.1 k2).1;exact dW (.inr ⟨aa,aa⟩)
end
section
variable {Fin:bL}{o o' o1 o2:aM}{w w' w1 w2:ae}
structure fE(o:aM)(w:ae)(o':aM)(w':ae):Prop where
 br:bC (λ_=>False) o w o' w'
 all:∀b,w.heap.size<=b->b<w'.heap.size->o' b
def fE.refl(hF:bO ax L0 o w):fE o w o w:=⟨bC.refl hF,λb h1 h2=>aa⟩
def fE.trans(h:fE o w o1 w1)(k:fE o1 w1 o2 w2):fE o w o2 w2:=⟨h.br.trans k.br,λb h1 h2=>by
 by_cases q:b<w1.heap.size
 ·exact k.br.more _ (h.all b h1 q)
 ·exact k.all b aa h2⟩
def fE.dJ{v:Value}(h:fT o w v o' w'):fE o w o' w':=⟨bC.dJ h,λb h1 h2=>by rw[h.own];exact .inr ⟨h1,h2⟩⟩
def fE.pW(hF:bO ax L0 (grow o w w') w')(z:w.heap.size<=w'.heap.size)(k:∀b,b<w.heap.size->w'.heap[b]?=w.heap[b]?):fE o w (grow o w w') w' :=
 ⟨⟨hF,jf,λb hb=>hb.imp id λq=>q.1,z,λb hb _=>k b hb⟩,λb h1 h2=>.inr ⟨h1,h2⟩⟩
def fE.wrote{A:Nat}(h:fE o w o1 w1)(hA:w.heap.size<=A)(hF:bO ax L0 o1 w2)(on:eM A w1 w2):fE o w o1 w2:=by
 refine⟨⟨hF,h.br.more,h.br.new,by rw[on.1];exact h.br.size,λb hb hx=>?_⟩,λb h1 h2=>h.all b h1 (by rw[<- on.1];exact h2)⟩;rw[on.2 b aa];exact h.br.same b hb hx
def fE.row{v:Value}(h:fE o w o1 w1)(hv:∀b,v.ownBlock=so b->w.heap.size<=b)(k:bC (λb=>v.ownBlock=so b) o1 w1 (grow o1 w1 w2) w2):fE o w (grow o1 w1 w2) w2:=by
 have z1:=h.br.size;have z2:=k.size;refine⟨⟨k.aH,λb hb=>k.more b (h.br.more b hb),λb hb=>(k.new b hb).elim (λq=>h.br.new b q) λq=>.inr aa,aa,λb hb hx=>?_⟩,λb h1 h2=>?_⟩
 ·rw[k.same b aa (λe=>by have:=hv b e;omega)];exact h.br.same b hb hx
 ·by_cases q:b<w1.heap.size
  ·exact k.more _ (h.all b h1 q)
  ·exact .inr ⟨aa,h2⟩
structure nu(o:aM)(w:ae)(lo e sz:Nat)(v:Value)(n:Nat)(xs:List Value):Prop where
 row:w.ownsRow lo e sz v n xs
 cl:Cl ax L0 o v
 low:lo<=w.heap.size
def nu.nil(o:aM)(w:ae)(lo e sz:Nat)(h:lo<=w.heap.size):nu o w lo e sz (.slice we 0 0) 0 []:=⟨⟨ar,.inl ⟨rfl,rfl⟩⟩,iP,h⟩
def nu.keep{lo e sz n:Nat}{v:Value}{xs:List Value}(h:nu o w lo e sz v n xs)(nZ:∀b,o b->o' b)(hz:w.heap.size<=w'.heap.size)(k:∀g,v.ownBlock=so g->w'.heap[g]?=w.heap[g]?):nu o' w' lo e sz v n xs :=
 ⟨dC h.row λg hg _=>k g hg.symm,h.cl.up nZ,aY h.low hz⟩
def nu.lt{lo e sz n:Nat}{v:Value}{xs:List Value}(h:nu o w lo e sz v n xs):∀g,v.ownBlock=so g->lo<=g/\g<w.heap.size:=λg hg=>by
 refine⟨zR h.row g hg,?_⟩;obtain⟨_,hc⟩:=h.row;rcases hc with⟨rfl,_⟩|⟨g',cap,cur,rfl,h1,h2,_⟩
 ·cases hg
 ·cases hg;exact(aad.1 h2).1
def nu.iS{lo e sz n:Nat}{v:Value}{xs:List Value}(h:nu o w lo e sz v n xs)(G:fE o w o' w'):nu o' w' lo e sz v n xs:=h.keep G.br.more G.br.size λg hg=>G.br.same g (h.lt g hg).2 id
def nu.add{lo e sz n n':Nat}{v v':Value}{xs xs':List Value}{wl aX:ae}(hF:bO ax L0 o w)(h:nu o w lo e sz v n xs)(aW:iz o w wl)(bP:lJ ax L0 o w w' aX v')(cp:aX.ownsRow lo e sz v' n' xs')(Ew:wl.grownBy aX v.ownBlock)(Zb:v'.ownBlock=v.ownBlock\/v'.ownBlock=so wl.heap.size):
  nu (grow o w w') w' lo e sz v' n' xs'/\bC (λb=>v.ownBlock=so b) o w (grow o w w') w'/\∀b,v'.ownBlock=so b->v.ownBlock=so b\/w.heap.size<=b:=by
 rw[aW.size]at Zb;have EF:=bP.aH;have fw:Cl ax L0 (grow o w w') v':=bP.val;have z6:=bP.iS;have Kg:∀b,v'.ownBlock=so b->grow o w w' b:=iC EF fw;refine⟨⟨dC cp λb hb _=>bP.same b (Kg b hb.symm),fw,by have:=h.low;omega⟩,⟨EF,jf,λb hb=>hb.imp id λq=>q.1,z6,λb hb hbv=>?_⟩,λb hb=>?_⟩
 ·by_cases ho:o b
  ·rw[bP.same b (.inl ho),Ew.block b (by rw[aW.size];exact hb) (λe=>hbv e.symm),aW.heap b ho]
  ·exact bP.rest b hb ho
 ·rcases Zb with e|e
  ·rw[hb]at e;exact .inl e.symm
  ·rw[hb]at e;exact .inr (bI (aT e).symm)
def DI(W:ae)(lo:Nat)(v:Value)(xs:List af)(x:af)(A:Nat)(h:W.ownsRow lo 9 1 v xs.length (xs.map .string))(hn:(xs.length+1)*16<=140737488355328)(zb:lo<=W.heap.size)(ha:W.heap[A]?=so (.cells #[.string x] 9)):
  ∃v' W',(Builtin.append_ #[40,40] 40 #[v,.slice (so ⟨A,0,we⟩) 1 1]).run ax W=.ok v' W'/\W'.ownsRow lo 9 1 v' (xs++[x]).length ((xs++[x]).map .string)/\W.grownBy W' v.ownBlock/\(v'.ownBlock=v.ownBlock\/v'.ownBlock=so W.heap.size):=by
 obtain⟨i,hi,pP⟩:=aaf.1 qq;simp only[bB]at pP;obtain⟨v',W',e1,e2,e3,_,e4⟩:=run_append_own_at (P:=ax) W lo 40 40 9 i _ 1 16 underlying40 hi pP.1 pP.2.1 pP.2.2 rfl aa v xs.length (xs.map .string) h ⟨A,0,we⟩ 1 1 [.string x] rfl (λj u hj=>by
  cases j with
  |zero=>simp at hj;subst hj;simp[Addr.add,World.cell?,ha]
  |succ j=>simp at hj) (by simp;rfl) (by simp[maxLen];omega) aa zb
 exact⟨v',W',e1,by simpa using e2,e3,e4⟩
def UK(W:ae)(lo:Nat)(v:Value)(rs:List aI)(r:aI)(A:Nat)(h:W.ownsRow lo 42 3 v rs.length (eK rs))(hn:rs.length<=1000)(zb:lo<=W.heap.size)(ha:W.heap[A]?=so (.cells #[.string r.out,.int .i64 r.eO,.slice r.sa r.sl r.sc] 42)):
  ∃v' W',(Builtin.append_ #[35,35] 35 #[v,.slice (so ⟨A,0,we⟩) 1 1]).run ax W=.ok v' W'/\W'.ownsRow lo 42 3 v' (rs++[r]).length (eK (rs++[r]))/\W.grownBy W' v.ownBlock/\(v'.ownBlock=v.ownBlock\/v'.ownBlock=so W.heap.size):=by
 obtain⟨i,hi,pP⟩:=aaf.1 C8;simp only[bB]at pP;obtain⟨v',W',e1,e2,e3,_,e4⟩:=run_append_own_at (P:=ax) W lo 35 35 42 i _ 3 48 underlying35 hi pP.1 pP.2.1 pP.2.2 rfl aa v rs.length (eK rs) h ⟨A,0,we⟩ 1 1 [.string r.out,.int .i64 r.eO,.slice r.sa r.sl r.sc] rfl (λj u hj=>by
  match j,hj with
  |0,hj=>simp at hj;subst hj;simp[Addr.add,World.cell?,ha]
  |1,hj=>simp at hj;subst hj;simp[Addr.add,World.cell?,ha]
  |2,hj=>simp at hj;subst hj;simp[Addr.add,World.cell?,ha]) (by simp;exact⟨rfl,rfl,rfl⟩) (by simp[maxLen];omega) aa zb
 have e:eK (rs++[r])=eK rs++[.string r.out,.int .i64 r.eO,.slice r.sa r.sl r.sc]:=by simp[eK,aI.cells]
 exact⟨v',W',e1,by rw[e];simpa using e2,e3,e4⟩
end
end Go.Proofs.Kz
namespace Go.Ren
open _root_.Option renaming some → so,none → we
open Go.Conc Go.ConcN
structure FV(w wl:ae):Prop where
 heap:wl.heap=w.heap
def FV.cell{w wl:ae}(h:FV w wl){ad:Addr}:wl.cell? ad=w.cell? ad:=by simp[World.cell?,h.heap]
section
variable {P:Program}{Fin:bL}{d:Nat}{o:aM}{w:ae}{fn:FuncId}{Q:Exit->Act->aM->ae->Prop}{a:Act}{ops:Array Oper}{i:Nat}{rest:List Nat}{op:Oper}
def UL{ad:Addr}{wt sy:Bool}(h:yi Fin ad.block):EvF Fin o ⟨.cell ad,wt,sy⟩:=Bz (o:=λb=>o b\/yi Fin b) (.inr h)
def sB{B:Nat}(hB:yi Fin B)(ho:ops[i]?=so op)(hw:Region.wanted op (yielded ops a.tmps)=true){v:Value}{dd:Option Tmp}(hd:op.dst=dd)(hr:∀wl,FV w wl->(execOp a.eval op).run P wl=.ok (.value v) wl)(jb:∀wl,FV w wl->∀x∈(execOp a.eval op).events P wl #[],∃ad wt sy,x=⟨.cell ad,wt,sy⟩/\ad.block=B)(h:eX (XB P Fin d) fn ops rest Q (a.put dd v) o w):eX (XB P Fin d) fn ops (i::rest) Q a o w :=
 MH ho hw hd (λn=>hr _ ⟨rfl⟩) (λn x hx=>by
  obtain⟨ad,wt,sy,rfl,e⟩:=jb (w.at n) ⟨rfl⟩ x hx;subst e;exact⟨UL hB,ar,ar⟩) h
end
section
variable {P:Program}{L:Nat->Bool}{Fin:bL}{d:Nat}{fn:FuncId}{Q:Exit->Act->aM->ae->Prop}{a:Act}{ops:Array Oper}{S:(Nat->Option Value)->aM->ae->Prop}{kds:List Kd}{v:Nat->Value}{K:Act->Prop}{j:Nat}{l:List Nat}{xs:List Kd}{op:Oper}{dd:Option Tmp}
def XT{B:Nat}(hB:yi Fin B)(ho:ops[j]?=so op)(hd:op.dst=dd)(hn:CW op.op=true)(hw:Region.wanted op (yielded ops a.tmps)=true){y:Value}(cJ:∀σ o w,zI ops kds v j σ->S σ o w->(∀wl,FV w wl->(execOp a.eval op).run P wl=.ok (.value y) wl)/\∀wl,FV w wl->∀x∈(execOp a.eval op).events P wl #[],∃ad wt sy,x=⟨.cell ad,wt,sy⟩/\ad.block=B)(h:dL P (BE P (XB P Fin d) fn ops Q S kds v) ops K v l xs (a.put dd y)):dL P (BE P (XB P Fin d) fn ops Q S kds v) ops K v (j::l) (so (so y)::xs) a:=by
 refine gj ho hd (λA rest σ o w h1 h2 h3 h4 hS hc=>?_) rfl h;obtain⟨hr,jb⟩:=cJ σ o w h3 hS;have hex:=execOp_congr op (se hn) h1;exact sB hB ho (h2.trans hw) rfl (λwl aW=>by rw[hex];exact hr wl aW) (λwl aW x hx=>by rw[hex]at hx;exact jb wl aW x hx) (hc y o w ⟨rfl,hS⟩)
end
end Go.Ren
namespace Go.Proofs.Kz
open Go.Proofs.Tryz
open Go.Proofs.Tryz renaming prog → ax
open _root_.ByteArray renaming empty → aR
open _root_.Option renaming some → so,none → we
open Go.Ren Go.Conc Go.Proofs Go.ConcN
structure Hu where
 eO:Int
 ins:List Int
 sa:Option Addr
 ib:Nat
 UM:Nat
 sc:Nat
structure wK(Fin:bL)(w:ae)(p:Option Addr)(b off:Nat)(rw:List Hu):Prop where
 ptr:rw≠[]->p=so ⟨b,off,we⟩/\yi Fin b/\b<w.heap.size
 at_:∀i (h:i<rw.length),w.cell? ⟨b,off+i*2,we⟩=so (.int .i64 rw[i].eO)/\w.cell? ⟨b,off+i*2+1,we⟩=so (.slice rw[i].sa rw[i].ins.length rw[i].sc)
 ins:∀r∈rw,(r.ins≠[]->r.sa=so ⟨r.ib,r.UM,we⟩/\yi Fin r.ib/\r.ib<w.heap.size)/\∀j (h:j<r.ins.length),w.cell? ⟨r.ib,r.UM+j,we⟩=so (.int .i64 r.ins[j])
 Zn:∀r∈rw,(-9223372036854775808<=r.eO/\r.eO<=9223372036854775807)/\∀x∈r.ins,-9223372036854775808<=x/\x<=9223372036854775807
 Gc:rw.length<=9223372036854775807/\∀r∈rw,r.ins.length<=9223372036854775807
def DJ(k:Nat)(x:af):Prop:=x∈kj\/∃q,q<k/\x=iD q
section
variable {Fin:bL}{o o' o1 o2:aM}{w w' w1 w2:ae}
structure RB(o:aM)(w:ae)(v:Value)(rs:List aI)(uU:Nat->List af)(o':aM)(w':ae):Prop where
 iS:fE o w o' w'
 nb:w'.heap[w.heap.size]?=so (.cells lH 9)
 XU:w.heap.size<w'.heap.size/\v.ownBlock≠so w.heap.size
 row:nu o' w' w.heap.size 42 3 v rs.length (eK rs)
 each:∀j (h:j<rs.length),rs[j].out=iD j/\(1<=rs[j].eO/\rs[j].eO<=5)/\(uU j).length<=4/\(∀x∈uU j,DJ j x)/\rs[j].sl=(uU j).length/\((rs[j].sa=we/\uU j=[])\/∃g,rs[j].sa=so ⟨g,0,we⟩/\w.heap.size<=g/\g<w'.heap.size/\v.ownBlock≠so g/\eN w' g 0 (uU j))
def RB.keep{v:Value}{rs:List aI}{uU:Nat->List af}(h:RB o w v rs uU o1 w1)(G:fE o1 w1 o' w'):RB o w v rs uU o' w':=by
 have z:=G.br.size;refine⟨h.iS.trans G,(G.br.same _ h.XU.1 id).trans h.nb,⟨by have:=h.XU.1;omega,h.XU.2⟩,h.row.iS G,λj hj=>?_⟩;obtain⟨e1,e2,e3,e4,e5,e6⟩:=h.each j hj;refine⟨e1,e2,e3,e4,e5,e6.imp id λ⟨g,q1,q2,q3,q4,q5⟩=>⟨g,q1,q2,aa,q4,cD q5 (G.br.same g q3 id)⟩⟩
structure RI(o1:aM)(w1:ae)(A:Nat)(hd:af)(rc:Int)(u:Value)(ts:List af)(o':aM)(w':ae):Prop where
 iS:fE o1 w1 o' w'
 blk:w'.heap[A]?=so (.cells #[.string hd,.int .i64 rc,u] 42)
 al:w1.heap.size<=A/\A<w'.heap.size/\u.ownBlock≠so A
 row:nu o' w' w1.heap.size 9 1 u ts.length (ts.map .string)
def RI.keep{A:Nat}{hd:af}{rc:Int}{u:Value}{ts:List af}(h:RI o1 w1 A hd rc u ts o2 w2)(G:fE o2 w2 o' w'):RI o1 w1 A hd rc u ts o' w' :=
 ⟨h.iS.trans G,(G.br.same _ h.al.2.1 id).trans h.blk,⟨h.al.1,by have:=G.br.size;have:=h.al.2.1;omega,h.al.2.2⟩,h.row.iS G⟩
structure ajP(o1:aM)(w1:ae)(A:Nat)(hd:af)(rc:Int)(u u':Value)(ts:List af)(o':aM)(w':ae):Prop where
 iS:fE o1 w1 o' w'
 blk:w'.heap[A]?=so (.cells #[.string hd,.int .i64 rc,u] 42)
 al:w1.heap.size<=A/\A<w'.heap.size/\u'.ownBlock≠so A
 row:nu o' w' w1.heap.size 9 1 u' ts.length (ts.map .string)
def Zo(o1:aM)(w1:ae)(o2:aM)(w2:ae)(A:Nat)(hd:af)(rc:Int)(u:Value)(ts:List af)(x:af)(ib ia is:Nat)(σ:Nat->Option Value)(o':aM)(w':ae):Prop :=
 (σ ia=we/\σ is=we/\fE o2 w2 o' w'/\∀y,σ ib=so y->∃Nb,y=.slice (so ⟨Nb,0,we⟩) 1 1/\w2.heap.size<=Nb/\o' Nb/\w'.heap[Nb]?=so (.cells #[.string x] 9)) \/
 (∃u',σ ia=so u'/\σ is=we/\ajP o1 w1 A hd rc u u' (ts++[x]) o' w') \/
 (∃u',σ ia=so u'/\σ is≠we/\RI o1 w1 A hd rc u' (ts++[x]) o' w')
def RB.step{v y:Value}{rs:List aI}{uU:Nat->List af}{A:Nat}{rc:Int}{up:Option Addr}{uc:Nat}{ts:List af}{o3:aM}{w3 w4:ae}(h0:RB o w v rs uU o1 w1)(h:RB o w v rs uU o3 w3)(hI:RI o1 w1 A (iD rs.length) rc (.slice up ts.length uc) ts o3 w3)(GD:1<=rc/\rc<=5)(ZL:ts.length<=4)(htn:∀x∈ts,DJ rs.length x)(q1:nu (grow o3 w3 w4) w4 w.heap.size 42 3 y (rs++[(⟨iD rs.length,rc,up,ts.length,uc⟩:aI)]).length (eK (rs++[(⟨iD rs.length,rc,up,ts.length,uc⟩:aI)])))(q2:bC (λb=>v.ownBlock=so b) o3 w3 (grow o3 w3 w4) w4)(q3:∀b,y.ownBlock=so b->v.ownBlock=so b\/w3.heap.size<=b):
  RB o w y (rs++[(⟨iD rs.length,rc,up,ts.length,uc⟩:aI)]) (λi=>if i=rs.length then ts else uU i) (grow o3 w3 w4) w4:=by
 have z4:=q2.size;have z1:=h0.iS.br.size;have hyn:∀g,g<w3.heap.size->v.ownBlock≠so g->y.ownBlock≠so g:=λg hg hv e=>(q3 g e).elim hv λq=>aa;refine⟨h.iS.row (λb hb=>(h.row.lt b hb).1) q2,(q2.same _ h.XU.1 h.XU.2).trans h.nb,⟨by have:=h.XU.1;omega,hyn _ h.XU.1 h.XU.2⟩,q1,λj hj=>?_⟩;by_cases e:j=rs.length
 ·subst e;simp only[List.getElem_append_right (Nat.le_refl _),Nat.sub_self,List.getElem_cons_zero,if_true];refine⟨trivial,GD,ZL,htn,trivial,?_⟩;obtain⟨Pt,hc⟩:=hI.row.row;rcases hc with⟨e1,e2⟩|⟨g,cap,cur,e1,k1,k2,k3,k4,k5,k6⟩
  ·injection e1 with e1;exact .inl ⟨e1,aal.1 e2⟩
  ·have hg:g<w3.heap.size:=(aad.1 k2).1;have hv:v.ownBlock≠so g:=λe=>by have:=(h0.row.lt g e).2;omega
   have lT:=hI.row.row.cells (g:=g) (by rw[e1];rfl);injection e1 with e1;refine .inr ⟨g,e1,aa,aa,hyn g hg hv,λi hi=>?_⟩;refine(cell_of (q2.same g hg hv)).trans ?_;have:=lT i (.string ts[i]) (by simp[hi]);have ha:(⟨g,0,we⟩:Addr).add i=⟨g,i,we⟩:=by simp[Addr.add];omega
   rw[ha]at this;rw[bt];exact this
 ·have sg:j<rs.length:=by simp at hj;omega
  simp only[List.getElem_append_left sg,if_neg e];obtain⟨e1,e2,e3,e4,e5,e6⟩:=h.each j sg;exact⟨e1,e2,e3,e4,e5,e6.imp id λ⟨g,k1,k2,k3,k4,k5⟩=>⟨g,k1,k2,aa,hyn g k3 k4,cD k5 (q2.same g k3 k4)⟩⟩
def UN(hF:bO ax L0 o w)(p:Option Addr)(b off c:Nat)(rw:List Hu)(hR:wK Fin w p b off rw):
  bA ax (XB ax Fin 0) 33 #[.slice p rw.length c] o w λv o' w'=>∃rs uU,RB o w v rs uU o' w'/\rs.length<=8:=by
 have W:=bY (P:=ax) (Fin:=Fin) (d:=0);have CX:=hR.Gc.1;refine bD W func33 ak ?_;walk_nrmf Tryz.f33;refine ay ?_;refine b5 func18 (Hs hF) ?_;rintro v1 o1 w1 ⟨N1,rfl,z1,k1⟩;have Hv:RB o w (.slice we 0 0) [] (λ_=>[]) o1 w1:=⟨fE.dJ N1,k1,⟨aa,(λe=>by cases e)⟩,nu.nil _ _ _ _ _ aa,λj hj=>by simp at hj⟩;clear z1 k1 N1;refine ay ?_;refine gT W (λm a o' w'=>∃k,m+k=min rw.length 8/\a.tmps.size=84/\a.defers=[]/\a.eval (.tmp 0)=.slice p rw.length c/\a.eval (.tmp 3)=.slice (so ⟨w.heap.size,0,we⟩) 6 6/\a.eval (.tmp 5)=.int .i64 k/\∃v rs uU,a.eval (.tmp 4)=v/\rs.length=k/\RB o w v rs uU o' w') (N:=min rw.length 8) ⟨0,ar,rfl,rfl,aK,aK,aK,_,_,_,aK,rfl,Hv⟩ ?_;clear Hv o1 w1;rintro m a o1 w1 ⟨k,HO,fy,kN,i0,i3,i5,v,rs,uU,i4,hlen,Hv⟩;obtain⟨gs,rfl⟩:=il fy kN;clear fy kN;simp only[List.range,List.range.loop,aC,aP]at i0 i3 i4 i5 |-;simp[Act.eval]at i0 i3 i4 i5;simp only[i0,i3,i4,i5];clear i0 i3 i4 i5;have lz:=Hv.iS.br.aH;have z1:=Hv.iS.br.size;by_cases hk:k<min rw.length 8;rotate_left
 ·by_cases LY:k<rw.length
  ·have afc:(k:Int)<(rw.length:Int):=aa;have hk8:¬(k:Int)<8:=aa;refine ay ?_;exact⟨.inr trivial,trivial,_,resultsC_tmp (t:=2) ak _,rs,uU,by simpa[Act.eval] using Hv,aa⟩
  ·have afc:¬(k:Int)<(rw.length:Int):=aa;refine ay ?_;exact⟨.inr trivial,trivial,_,resultsC_tmp (t:=2) ak _,rs,uU,by simpa[Act.eval] using Hv,aa⟩
 have LY:k<rw.length:=aa;have hk8:k<8:=aa;have afc:(k:Int)<(rw.length:Int):=aa;have aq1:(k:Int)<8:=aa;obtain⟨ep,ob,VV⟩:=hR.ptr (nlt LY);subst ep;have eb1:=Hv.iS.br.same b VV id;obtain⟨c0,c1⟩:=hR.at_ k LY;have c0':=(cell_of eb1).trans c0;have Eg:=(cell_of eb1).trans c1;obtain⟨⟨rg1,rg2⟩,rg3⟩:=hR.Zn rw[k] (aG LY);obtain⟨in1,in2⟩:=hR.ins rw[k] (aG LY);have aq4:=hR.Gc.2 rw[k] (aG LY);clear c0 c1;generalize rw[k]=r at *;have hpk:=nt r.eO (n:=5) aa;have zy:IntKind.i64.wrap (1+(ee r.eO 5:Int))=1+(ee r.eO 5:Int):=by rw[IntKind.wrap_i64]<;>omega
 refine ay ?_;refine dH mixed ai [so we,so (so (.string (iD k))),so we,so we,so we,so we,so (so (.int .i64 r.eO)),so (so (.int .i64 (ee r.eO 5:Nat))),so we,so we,we,we]
  (S:=λσ o' w'=>fE o1 w1 o' w'/\∀y,σ 10=so y->∃A,y=.pointer (so ⟨A,0,we⟩)/\w1.heap.size<=A/\A<w'.heap.size/\w'.heap[A]?=so (.cells (if (σ 11).isSome then #[.string (iD k),.int .i64 (1+(ee r.eO 5:Int)),.slice we 0 0] else #[.string aR,.int .i64 0,.slice we 0 0]) 42)) ⟨fE.refl lz,(λy hy=>by cases hy)⟩ λv9=>?_
 refine dN ?_;refine cq ?_;refine jO rfl rfl ak rfl func15 ai rfl (av:=#[.int .i64 k]) aK (λσ o' w' H hS=>?_) ?_
 ·refine(Zm hS.1.br.aH k hk8).mono ?_;rintro y o3 w3 ⟨rfl,N3⟩;refine⟨rfl,hS.1.trans (fE.dJ N3),λy hy=>?_⟩;obtain⟨A,q1,q2,q3,q4⟩:=hS.2 y hy;exact⟨A,q1,q2,bz q3 N3.size,(N3.old A q3).trans q4⟩
 refine cq ?_;refine XT ob rfl rfl rfl ak (λσ o' w' H hS=>?_) ?_
 ·have cc:=(cell_of (hS.1.br.same b aa id)).trans c0';refine⟨λwl aW=>by simp[go_sem,aW.cell.trans cc],λwl aW x hx=>?_⟩;simp[go_sem,aW.cell.trans cc]at hx;subst hx;exact⟨_,_,_,rfl,rfl⟩
 refine cq ?_;refine jO rfl rfl ak rfl func19 ai rfl (av:=#[.int .i64 r.eO,.int .i64 5]) aK (λσ o' w' H hS=>?_) ?_
 ·refine(Aj hS.1.br.aH r.eO 5 rg1 rg2 aa aa).mono ?_;rintro y o3 w3 ⟨rfl,N3⟩;refine⟨rfl,hS.1.trans (fE.dJ N3),λy hy=>?_⟩;obtain⟨A,q1,q2,q3,q4⟩:=hS.2 y hy;exact⟨A,q1,q2,bz q3 N3.size,(N3.old A q3).trans q4⟩
 refine cq ?_;refine qp bS rfl rfl rfl ak ak (λσ o' w' H nD hS=>?_) ?_
 ·refine⟨hS.1.br.aH,nf,λwl v aX=>v=.pointer (so ⟨wl.heap.size,0,we⟩)/\aX=wl.alloc (.cells #[.string aR,.int .i64 0,.slice we 0 0] 42),λwl aW=>⟨_,_,by first|(simp[go_sem];done)|(simp[go_sem];rfl),rfl,rfl⟩,λwl y aX w3 aW oo bP=>?_⟩;obtain⟨rfl,oo⟩:=oo;obtain⟨z3,k3,sF⟩:=bP.alloc hS.1.br.aH aW oo;refine⟨hS.1.trans (fE.pW bP.aH aa k3),λy hy=>?_⟩;simp only[fM,if_true,aA]at hy;have Pp:=H.xA 11 ai;refine⟨w'.heap.size,by rw[<- hy,aW.size],hS.1.br.size,aa,?_⟩;simp[fM,Pp,sF]
 walk_nrm;refine pM bS rfl rfl rfl ak ak (λσ o' w' H h11 hS=>?_) ?_
 ·obtain⟨A,q1,q2,q3,q4⟩:=hS.2 _ (H.done 10 ai rfl);have oA:=hS.1.all A q2 q3;simp only[h11,Option.isSome_none,aQ,if_false]at q4;refine⟨hS.1.br.aH,λx hx=>?_,λwl aX=>aX=((wl.setCell ⟨A,0,we⟩ (.string (iD k))).setCell ⟨A,1,we⟩ (.int .i64 (1+(ee r.eO 5:Int)))).setCell ⟨A,2,we⟩ (.slice we 0 0),λwl aW=>⟨_,?_,rfl⟩,λwl aX w3 aW oo bP=>?_⟩
  ·simp[Op.operands]at hx;rcases hx with rfl|rfl
   ·simp[Act.eval];rw[q1];exact bX oA
   ·simp[Act.eval];refine fW (vs:=[_,_,_]) (λx hx=>?_);simp at hx;rcases hx with rfl|rfl|rfl
    ·exact bQ
    ·exact dV
    ·exact iP
  ·obtain⟨e0,e1,e2,f0,f1,f2⟩:=fa ((aW.heap _ oA).trans q4);simp[go_sem,Act.eval,q1,e0,e1,e2,f0,f1,f2,zy]
  ·have hO:eM A wl aX:=by rw[oo];exact wC _ _ _ _ _ _ _ _
   obtain⟨on,oh,e9⟩:=bP.only aW oA hO;have nT:=bP.aH;rw[e9]at nT |-;rw[oo,MF ((aW.heap _ oA).trans q4)]at oh;refine⟨hS.1.wrote q2 nT on,λy hy=>?_⟩;have hy':y=v9 10:=by
    simp[fM]at hy;exact(aT ((H.done 10 ai rfl).symm.trans hy)).symm
   exact⟨A,hy'.trans q1,q2,by rw[on.1];exact q3,by simp[fM,oh]⟩
 walk_nrm;refine cu λσ o2 w2 lP hS=>?_;obtain⟨G2,Qt⟩:=hS;obtain⟨A,q1,q2,q3,q4⟩:=Qt _ (lP 10 eB rfl);simp only[lP 11 eB rfl,Option.isSome_some,if_true]at q4;have vE:RI o1 w1 A (iD k) (1+(ee r.eO 5:Int)) (.slice we 0 0) [] o2 w2:=⟨G2,q4,⟨q2,q3,(λe=>by cases e)⟩,nu.nil _ _ _ _ _ (by have:=G2.br.size;omega)⟩;simp only[q1];clear lP Qt q1 q2 q3 q4 G2;have GD:1<=1+(ee r.eO 5:Int)/\1+(ee r.eO 5:Int)<=5:=aa;clear zy;generalize (1+(ee r.eO 5:Int))=rc at *;simp only[ij,dz,if_true,if_false,reduceIte,Nat.reduceEqDiff];refine ay ?_;refine gT W (λm a o' w'=>∃j,m+j=min r.ins.length 4/\a.tmps.size=84/\a.defers=[]/\a.eval (.tmp 0)=.slice (so ⟨b,off,we⟩) rw.length c/\a.eval (.tmp 3)=.slice (so ⟨w.heap.size,0,we⟩) 6 6/\a.eval (.tmp 4)=v/\a.eval (.tmp 5)=.int .i64 k/\a.eval (.tmp 6)=.pointer (so ⟨A,0,we⟩)/\a.eval (.tmp 7)=.int .i64 j/\∃u ts,ts.length=j/\(∀x∈ts,DJ k x)/\RI o1 w1 A (iD k) rc u ts o' w') (N:=min r.ins.length 4) ⟨0,ar,rfl,rfl,aK,aK,aK,aK,aK,aK,_,_,rfl,ar,vE⟩ ?_;clear vE o2 w2;rintro m2 a o2 w2 ⟨j,hmj,fy,kN,i0,i3,i4,i5,i6,i7,u,ts,Y0,htn,vE⟩;subst Y0;obtain⟨gs2,rfl⟩:=il fy kN;clear fy kN;simp only[List.range,List.range.loop,aC,aP]at i0 i3 i4 i5 i6 i7 |-;simp[Act.eval]at i0 i3 i4 i5 i6 i7;simp only[i0,i3,i4,i5,i6,i7];clear i0 i3 i4 i5 i6 i7;have rj:=vE.iS.br.aH;have eb2:=vE.iS.br.same b aa id;have UO:=(cell_of eb2).trans Eg;have oA:=vE.iS.all A vE.al.1 vE.al.2.1;have XV:=Hv.keep vE.iS;refine ay ?_;refine sB ob rfl ak rfl (v:=.slice r.sa r.ins.length r.sc) (λwl aW=>by simp[go_sem,aW.cell.trans UO]) (λwl aW x hx=>?_) ?_
 ·simp[go_sem,aW.cell.trans UO]at hx;subst hx;exact⟨_,_,_,rfl,rfl⟩
 walk_nrm;by_cases hj:ts.length<min r.ins.length 4;rotate_left
 ·obtain⟨up,ul,uc,V2⟩:=kK vE.row.row;have hul:=yT vE.row.row V2;subst hul;subst V2;have Eu:IntKind.i64.wrap ((k:Int)+1)=((k+1:Nat):Int):=by rw[IntKind.wrap_i64]<;>omega
  obtain⟨d0,d1,d2,-⟩:=fa vE.blk;by_cases VJ:ts.length<r.ins.length;have afg:(ts.length:Int)<(r.ins.length:Int):=aa;have hj4:¬(ts.length:Int)<4:=aa;refine ay ?_;rotate_left;have afg:¬(ts.length:Int)<(r.ins.length:Int):=aa;refine ay ?_;all_goals
   refine dK bS rj rfl ak ak ?_ rfl (v:=.agg #[.string (iD k),.int .i64 rc,.slice up ts.length uc]) (λwl aW=>by simp[go_sem,(aW.cell oA).trans d0,(aW.cell oA).trans d1,(aW.cell oA).trans d2]) λ_=>?_
   ·exact mo (bX oA)
   refine ay ?_;refine dm bS rj rfl ak ak ?_ rfl (R:=λwl v aX=>v=.slice (so ⟨wl.heap.size,0,we⟩) 1 1/\aX=wl.alloc (.cells #[.string (iD k),.int .i64 rc,.slice up ts.length uc] 42)) (λwl aW=>⟨_,_,by simp[go_sem,Act.eval],rfl,rfl⟩) λwl y aX w3 aW oo bP=>?_
   ·refine mo ?_;refine fW (vs:=[_,_,_]) (λx hx=>?_);simp at hx;rcases hx with rfl|rfl|rfl
    ·exact bQ
    ·exact dV
    ·exact vE.row.cl
   obtain⟨rfl,oo⟩:=oo;obtain⟨z3,k3,sF⟩:=bP.alloc rj aW oo;rw[aW.size];have G3:=fE.pW bP.aH aa k3;have hN3:grow o2 w2 w3 w2.heap.size:=G3.all _ (ah _) aa;clear oo bP aW wl aX z3;generalize grow o2 w2 w3=o3 at *;have Q7:=XV.keep G3;have ajS:=vE.keep G3;refine ay ?_;subst hlen;refine dm bS G3.br.aH rfl ak ak ?_ rfl (R:=λwl y aX=>aX.ownsRow w.heap.size 42 3 y (rs++[(⟨iD rs.length,rc,up,ts.length,uc⟩:aI)]).length (eK (rs++[(⟨iD rs.length,rc,up,ts.length,uc⟩:aI)]))/\wl.grownBy aX v.ownBlock/\(y.ownBlock=v.ownBlock\/y.ownBlock=so wl.heap.size)) (λwl aW=>?_) λwl y aX w4 aW BJ bP=>?_
   ·intro y hy;simp[Op.operands,Call.operands]at hy;rcases hy with rfl|rfl
    ·simp[Act.eval];exact Q7.row.cl
    ·simp[Act.eval];exact dW hN3
   ·obtain⟨v',W',e1,e2,e3,e4⟩:=UK wl w.heap.size v rs ⟨iD rs.length,rc,up,ts.length,uc⟩ w2.heap.size (dC Q7.row.row λg hg _=>aW.heap g (iC G3.br.aH Q7.row.cl g hg.symm)) aa (by rw[aW.size];exact Q7.row.low) ((aW.heap _ hN3).trans sF);exact⟨v',W',jz (.tmp 79) (.tmp 81) 35 rfl aK aK e1,e2,e3,e4⟩
   obtain⟨r1,r2,r3⟩:=BJ;obtain⟨q1,q2,q3⟩:=nu.add G3.br.aH Q7.row aW bP r1 r2 r3;have ajT:=RB.step Hv Q7 ajS GD aa htn q1 q2 q3;clear r1 r2 r3 q1 q2 q3 bP aW wl aX;refine ay ?_;exact⟨m-1,aa,rs.length+1,aa,dR,dR,aK,aK,by simp[Act.eval,Eu],y,_,_,aK,ar,ajT⟩
 have VJ:ts.length<r.ins.length:=aa;have hj4:ts.length<4:=aa;have afg:(ts.length:Int)<(r.ins.length:Int):=aa;have aq8:(ts.length:Int)<4:=aa;obtain⟨es,oi,YQ⟩:=in1 (nlt VJ);rw[es];rw[es]at UO;have ei2:=(vE.iS.br.same r.ib aa id).trans (Hv.iS.br.same r.ib YQ id);have ci:=(cell_of ei2).trans (in2 ts.length VJ);obtain⟨xr1,xr2⟩:=rg3 r.ins[ts.length] (aG VJ);generalize r.ins[ts.length]=x at *;refine ay ?_;refine sB ob rfl ak rfl (v:=.slice (so ⟨r.ib,r.UM,we⟩) r.ins.length r.sc) (λwl aW=>by simp[go_sem,aW.cell.trans UO]) (λwl aW x hx=>?_) ?_
 ·simp[go_sem,aW.cell.trans UO]at hx;subst hx;exact⟨_,_,_,rfl,rfl⟩
 refine ay ?_;refine sB oi rfl ak rfl (v:=.int .i64 x) (λwl aW=>by simp[go_sem,aW.cell.trans ci]) (λwl aW x hx=>?_) ?_
 ·simp[go_sem,aW.cell.trans ci]at hx;subst hx;exact⟨_,_,_,rfl,rfl⟩
 walk_nrm;obtain⟨up,ul,uc,V2⟩:=kK vE.row.row;have hul:=yT vE.row.row V2;subst hul;have c2:=(fa vE.blk).2.2.1;have Z6:IntKind.i64.wrap ((ts.length:Int)+1)=((ts.length+1:Nat):Int):=by rw[IntKind.wrap_i64]<;>omega
 by_cases UP:x<0/\0<k;rotate_left
 ·by_cases HK:x<0;have ara:¬0<k:=aa;clear UP;refine ay ?_;rotate_left;have arb:¬x<0:=HK;clear UP;refine ay ?_;all_goals
   have hp:=nt x (n:=6) aa;have abt:DJ k (kj[ee x 6]'hp):=.inl (aG _);have tQ:w2.cell? ⟨w.heap.size,ee x 6,we⟩=so (.string (kj[ee x 6]'hp)):=by
    have e:=XV.nb;have hc6:lH[ee x 6]?=so (.string (kj[ee x 6]'hp)):=by
     rw[lH,iE,dO,bm hp];rfl
    simp[World.cell?,e,hc6]
   have hpI:((ee x 6:Nat):Int)<6:=aa;have afi:w.heap.size<w2.heap.size:=XV.XU.1;have UQ:o2 w.heap.size:=XV.iS.all _ (ah _) afi;generalize kj[ee x 6]'hp=nm at *;rw[V2]at c2;refine dH mixed ai [so we,so (so (.slice up ts.length uc)),so we,so we,so we,so we,so (so (.int .i64 (ee x 6:Nat))),so we,so (so (.string nm)),we,we,so we,we]
    (S:=Zo o1 w1 o2 w2 A (iD k) rc u ts nm 9 10 12) (.inl ⟨rfl,rfl,fE.refl rj,(λy hy=>by cases hy)⟩) λv9=>?_
   refine dN ?_;refine cq ?_;refine dsP (λσ o' w' H hS=>?_) ?_
   ·rcases hS with⟨-,-,G,-⟩|⟨u',q,-⟩|⟨u',q,-⟩
    ·have hx:=G.br.more _ oA;exact sR G.br.aH hx ((cell_of (G.br.same A vE.al.2.1 id)).trans c2)
    ·rw[H.xA 10 ai]at q;cases q
    ·rw[H.xA 10 ai]at q;cases q
   refine cq ?_;refine jO rfl rfl ak rfl func19 ai rfl (av:=#[.int .i64 x,.int .i64 6]) aK (λσ o' w' H hS=>?_) ?_
   ·rcases hS with⟨h7,h9,G,-⟩|⟨u',q,-⟩|⟨u',q,-⟩
    ·refine(Aj G.br.aH x 6 xr1 xr2 aa aa).mono ?_;rintro y o3 w3 ⟨rfl,N3⟩;exact⟨rfl,.inl ⟨h7,h9,G.trans (fE.dJ N3),λy hy=>by rw[H.qJ [8,7] 9 ai]at hy;cases hy⟩⟩
    ·rw[H.xA 10 ai]at q;cases q
    ·rw[H.xA 10 ai]at q;cases q
   refine cq ?_;refine dsP (λσ o' w' H hS=>?_) ?_
   ·rcases hS with⟨-,-,G,-⟩|⟨u',q,-⟩|⟨u',q,-⟩
    ·have hx:=G.br.more _ UQ;exact sR G.br.aH hx ((cell_of (G.br.same _ afi id)).trans tQ)
    ·rw[H.qJ [9] 10 ai]at q;cases q
    ·rw[H.qJ [9] 10 ai]at q;cases q
   walk_nrm;refine qp bS rfl rfl rfl ak ak (λσ o' w' H hib hS=>?_) ?_
   ·rcases hS with⟨h7,h9,G,-⟩|⟨u',q,-⟩|⟨u',q,-⟩
    ·refine⟨G.br.aH,λy hy=>?_,λwl v aX=>v=.slice (so ⟨wl.heap.size,0,we⟩) 1 1/\aX=wl.alloc (.cells #[.string nm] 9),λwl aW=>⟨_,_,by simp[go_sem,Act.eval],rfl,rfl⟩,λwl y aX w3 aW oo bP=>?_⟩
     ·simp[Op.operands]at hy;subst hy;simp[Act.eval];exact bQ
     ·obtain⟨rfl,oo⟩:=oo;obtain⟨z3,k3,sF⟩:=bP.alloc G.br.aH aW oo;refine .inl ⟨by simpa[fM] using h7,by simpa[fM] using h9,G.trans (fE.pW bP.aH aa k3),λy hy=>?_⟩;simp only[fM,if_true,aA]at hy;exact⟨w'.heap.size,by rw[<- hy,aW.size],G.br.size,.inr ⟨ah _,aa⟩,sF⟩
    ·rw[H.xA 10 ai]at q;cases q
    ·rw[H.xA 10 ai]at q;cases q
   walk_nrm;refine qp bS rfl rfl rfl ak ak (λσ o' w' H hia hS=>?_) ?_
   ·rcases hS with⟨-,h9,G,hN⟩|⟨u',q,-⟩|⟨u',q,-⟩
    ·obtain⟨Nb,hy,hNz,Zh,Xx⟩:=hN _ (H.done 9 ai rfl);have hq:=vE.row.iS G;have hqo:=iC G.br.aH hq.cl;refine⟨G.br.aH,λy Oo=>?_,λwl v aX=>aX.ownsRow w1.heap.size 9 1 v (ts++[nm]).length ((ts++[nm]).map .string)/\wl.grownBy aX u.ownBlock/\(v.ownBlock=u.ownBlock\/v.ownBlock=so wl.heap.size),λwl aW=>?_,λwl y aX w3 aW oo bP=>?_⟩
     ·simp[Op.operands,Call.operands]at Oo;rcases Oo with rfl|rfl
      ·simp[Act.eval];rw[<- V2];exact hq.cl
      ·simp[Act.eval];rw[hy];exact dW Zh
     ·obtain⟨v',W',e1,e2,e3,e4⟩:=DI wl w1.heap.size u ts (nm) Nb (dC hq.row λg hg _=>aW.heap g (hqo g hg.symm)) aa (by rw[aW.size];exact hq.low) ((aW.heap _ Zh).trans Xx);refine⟨v',W',jz (v:=u) (.tmp 68) (.tmp 76) 40 rfl ?_ (by simp[Act.eval];exact hy) e1,e2,e3,e4⟩;simp[Act.eval];exact V2.symm
     ·obtain⟨r1,r2,r3⟩:=oo;obtain⟨q1,q2,q3⟩:=nu.add G.br.aH hq aW bP r1 r2 r3;have zg:=G.br.size;have z3:=q2.size;have Px:=vE.al.2.1;refine .inr (.inl ⟨y,by simp[fM],by simpa[fM] using h9,(vE.iS.trans G).row (λb hb=>(hq.lt b hb).1) q2,(q2.same A aa vE.al.2.2).trans ((G.br.same A Px id).trans vE.blk),⟨vE.al.1,aa,λe=>?_⟩,q1⟩);rcases q3 A e with q|q
      ·exact vE.al.2.2 q
      ·omega
    ·rw[hia]at q;cases q
    ·rw[hia]at q;cases q
   refine cq ?_;refine pM bS rfl rfl rfl ak ak (λσ o' w' H his hS=>?_) ?_
   ·rcases hS with⟨q,-⟩|⟨u',q,-,P⟩|⟨u',-,q,-⟩
    ·rw[H.done 10 ai rfl]at q;cases q
    ·have hv:v9 10=u':=aT ((H.done 10 ai rfl).symm.trans q);have XX:=P.iS.all A P.al.1 P.al.2.1;obtain⟨p',l',c',hu'⟩:=kK P.row.row;refine⟨P.iS.br.aH,λy hy=>?_,λwl aX=>aX=wl.setCell ⟨A,2,we⟩ u',λwl aW=>⟨_,?_,rfl⟩,λwl aX w3 aW oo bP=>?_⟩
     ·simp[Op.operands]at hy;rcases hy with rfl|rfl
      ·simp[Act.eval];exact bX XX
      ·simp[Act.eval];rw[hv];exact P.row.cl
     ·obtain⟨e0,e1,e2,f0,f1,f2⟩:=fa ((aW.heap _ XX).trans P.blk);simp[go_sem,Act.eval,hv,hu',e2,f2]
     ·have hO:eM A wl aX:=by rw[oo];exact iX _ _ _ _
      obtain⟨on,oh,e9⟩:=bP.only aW XX hO;have nT:=bP.aH;rw[e9]at nT |-;have kA:w3.heap[A]?=so (.cells #[.string (iD k),.int .i64 rc,u'] 42):=by
       rw[oh,oo];have e:=(aW.heap _ XX).trans P.blk;simp[World.setCell,aS,e]
      exact .inr (.inr ⟨u',by simpa[fM] using q,by simp[fM],P.iS.wrote P.al.1 nT on,kA,⟨P.al.1,by rw[on.1];exact P.al.2.1,P.al.2.2⟩,P.row.keep (λ_ q=>q) (bI on.1.symm) λg hg=>on.2 g λe=>P.al.2.2 (e▸hg)⟩)
    ·exact absurd his q
   walk_nrm;refine cu λσ o3 w3 lP hS=>?_;rcases hS with⟨q,-⟩|⟨u',-,q,-⟩|⟨u',-,-,P⟩
   ·rw[lP 10 eB rfl]at q;cases q
   ·rw[lP 12 eB rfl]at q;cases q
   clear lP;simp only[ij,dz,if_true,if_false,reduceIte,Nat.reduceEqDiff];refine ay ?_;exact⟨m2-1,aa,ts.length+1,aa,dR,dR,aK,aK,aK,aK,aK,by simp[Act.eval,Z6],u',ts++[nm],ar,(λz hz=>by
    rcases fN.1 hz with hz|hz
    ·exact htn z hz
    ·simp at hz;subst hz;exact abt),P⟩
 ·have HK:=UP.1;have HY:(0:Int)<(k:Int):=aa;have hp:=nt x (n:=k) UP.2;have abt:DJ k (iD (ee x k)):=.inr ⟨_,hp,rfl⟩;refine ay ?_;rw[V2]at c2;refine dH mixed ai [so we,so (so (.slice up ts.length uc)),so we,so we,so (so (.int .i64 (ee x k:Nat))),so (so (.string (iD (ee x k)))),we,we,so we,we]
   (S:=Zo o1 w1 o2 w2 A (iD k) rc u ts (iD (ee x k)) 6 7 9) (.inl ⟨rfl,rfl,fE.refl rj,(λy hy=>by cases hy)⟩) λv9=>?_
  refine dN ?_;refine cq ?_;refine dsP (λσ o' w' H hS=>?_) ?_
  ·rcases hS with⟨-,-,G,-⟩|⟨u',q,-⟩|⟨u',q,-⟩
   ·have hx:=G.br.more _ oA;exact sR G.br.aH hx ((cell_of (G.br.same A vE.al.2.1 id)).trans c2)
   ·rw[H.xA 7 ai]at q;cases q
   ·rw[H.xA 7 ai]at q;cases q
  refine cq ?_;refine jO rfl rfl ak rfl func19 ai rfl (av:=#[.int .i64 x,.int .i64 k]) aK (λσ o' w' H hS=>?_) ?_
  ·rcases hS with⟨h7,h9,G,-⟩|⟨u',q,-⟩|⟨u',q,-⟩
   ·refine(Aj G.br.aH x k xr1 xr2 UP.2 aa).mono ?_;rintro y o3 w3 ⟨rfl,N3⟩;exact⟨rfl,.inl ⟨h7,h9,G.trans (fE.dJ N3),λy hy=>by rw[H.qJ [5] 6 ai]at hy;cases hy⟩⟩
   ·rw[H.qJ [5] 7 ai]at q;cases q
   ·rw[H.qJ [5] 7 ai]at q;cases q
  walk_nrm;refine jO rfl rfl ak rfl func15 ai rfl (av:=#[.int .i64 (ee x k:Nat)]) aK (λσ o' w' H hS=>?_) ?_
  ·rcases hS with⟨h7,h9,G,-⟩|⟨u',q,-⟩|⟨u',q,-⟩
   ·refine(Zm G.br.aH (ee x k) aa).mono ?_;rintro y o3 w3 ⟨rfl,N3⟩;exact⟨rfl,.inl ⟨h7,h9,G.trans (fE.dJ N3),λy hy=>by rw[H.xA 6 ai]at hy;cases hy⟩⟩
   ·rw[H.xA 7 ai]at q;cases q
   ·rw[H.xA 7 ai]at q;cases q
  walk_nrm;refine qp bS rfl rfl rfl ak ak (λσ o' w' H hib hS=>?_) ?_
  ·rcases hS with⟨h7,h9,G,-⟩|⟨u',q,-⟩|⟨u',q,-⟩
   ·refine⟨G.br.aH,λy hy=>?_,λwl v aX=>v=.slice (so ⟨wl.heap.size,0,we⟩) 1 1/\aX=wl.alloc (.cells #[.string (iD (ee x k))] 9),λwl aW=>⟨_,_,by simp[go_sem,Act.eval],rfl,rfl⟩,λwl y aX w3 aW oo bP=>?_⟩
    ·simp[Op.operands]at hy;subst hy;simp[Act.eval];exact bQ
    ·obtain⟨rfl,oo⟩:=oo;obtain⟨z3,k3,sF⟩:=bP.alloc G.br.aH aW oo;refine .inl ⟨by simpa[fM] using h7,by simpa[fM] using h9,G.trans (fE.pW bP.aH aa k3),λy hy=>?_⟩;simp only[fM,if_true,aA]at hy;exact⟨w'.heap.size,by rw[<- hy,aW.size],G.br.size,.inr ⟨ah _,aa⟩,sF⟩
   ·rw[H.xA 7 ai]at q;cases q
   ·rw[H.xA 7 ai]at q;cases q
  walk_nrm;refine qp bS rfl rfl rfl ak ak (λσ o' w' H hia hS=>?_) ?_
  ·rcases hS with⟨-,h9,G,hN⟩|⟨u',q,-⟩|⟨u',q,-⟩
   ·obtain⟨Nb,hy,hNz,Zh,Xx⟩:=hN _ (H.done 6 ai rfl);have hq:=vE.row.iS G;have hqo:=iC G.br.aH hq.cl;refine⟨G.br.aH,λy Oo=>?_,λwl v aX=>aX.ownsRow w1.heap.size 9 1 v (ts++[(iD (ee x k))]).length ((ts++[(iD (ee x k))]).map .string)/\wl.grownBy aX u.ownBlock/\(v.ownBlock=u.ownBlock\/v.ownBlock=so wl.heap.size),λwl aW=>?_,λwl y aX w3 aW oo bP=>?_⟩
    ·simp[Op.operands,Call.operands]at Oo;rcases Oo with rfl|rfl
     ·simp[Act.eval];rw[<- V2];exact hq.cl
     ·simp[Act.eval];rw[hy];exact dW Zh
    ·obtain⟨v',W',e1,e2,e3,e4⟩:=DI wl w1.heap.size u ts ((iD (ee x k))) Nb (dC hq.row λg hg _=>aW.heap g (hqo g hg.symm)) aa (by rw[aW.size];exact hq.low) ((aW.heap _ Zh).trans Xx);refine⟨v',W',jz (v:=u) (.tmp 59) (.tmp 64) 40 rfl ?_ (by simp[Act.eval];exact hy) e1,e2,e3,e4⟩;simp[Act.eval];exact V2.symm
    ·obtain⟨r1,r2,r3⟩:=oo;obtain⟨q1,q2,q3⟩:=nu.add G.br.aH hq aW bP r1 r2 r3;have zg:=G.br.size;have z3:=q2.size;have Px:=vE.al.2.1;refine .inr (.inl ⟨y,by simp[fM],by simpa[fM] using h9,(vE.iS.trans G).row (λb hb=>(hq.lt b hb).1) q2,(q2.same A aa vE.al.2.2).trans ((G.br.same A Px id).trans vE.blk),⟨vE.al.1,aa,λe=>?_⟩,q1⟩);rcases q3 A e with q|q
     ·exact vE.al.2.2 q
     ·omega
   ·rw[hia]at q;cases q
   ·rw[hia]at q;cases q
  refine cq ?_;refine pM bS rfl rfl rfl ak ak (λσ o' w' H his hS=>?_) ?_
  ·rcases hS with⟨q,-⟩|⟨u',q,-,P⟩|⟨u',-,q,-⟩
   ·rw[H.done 7 ai rfl]at q;cases q
   ·have hv:v9 7=u':=aT ((H.done 7 ai rfl).symm.trans q);have XX:=P.iS.all A P.al.1 P.al.2.1;obtain⟨p',l',c',hu'⟩:=kK P.row.row;refine⟨P.iS.br.aH,λy hy=>?_,λwl aX=>aX=wl.setCell ⟨A,2,we⟩ u',λwl aW=>⟨_,?_,rfl⟩,λwl aX w3 aW oo bP=>?_⟩
    ·simp[Op.operands]at hy;rcases hy with rfl|rfl
     ·simp[Act.eval];exact bX XX
     ·simp[Act.eval];rw[hv];exact P.row.cl
    ·obtain⟨e0,e1,e2,f0,f1,f2⟩:=fa ((aW.heap _ XX).trans P.blk);simp[go_sem,Act.eval,hv,hu',e2,f2]
    ·have hO:eM A wl aX:=by rw[oo];exact iX _ _ _ _
     obtain⟨on,oh,e9⟩:=bP.only aW XX hO;have nT:=bP.aH;rw[e9]at nT |-;have kA:w3.heap[A]?=so (.cells #[.string (iD k),.int .i64 rc,u'] 42):=by
      rw[oh,oo];have e:=(aW.heap _ XX).trans P.blk;simp[World.setCell,aS,e]
     exact .inr (.inr ⟨u',by simpa[fM] using q,by simp[fM],P.iS.wrote P.al.1 nT on,kA,⟨P.al.1,by rw[on.1];exact P.al.2.1,P.al.2.2⟩,P.row.keep (λ_ q=>q) (bI on.1.symm) λg hg=>on.2 g λe=>P.al.2.2 (e▸hg)⟩)
   ·exact absurd his q
  walk_nrm;refine cu λσ o3 w3 lP hS=>?_;rcases hS with⟨q,-⟩|⟨u',-,q,-⟩|⟨u',-,-,P⟩
  ·rw[lP 7 eB rfl]at q;cases q
  ·rw[lP 9 eB rfl]at q;cases q
  clear lP;simp only[ij,dz,if_true,if_false,reduceIte,Nat.reduceEqDiff];refine ay ?_;exact⟨m2-1,aa,ts.length+1,aa,dR,dR,aK,aK,aK,aK,aK,by simp[Act.eval,Z6],u',ts++[(iD (ee x k))],ar,(λz hz=>by
   rcases fN.1 hz with hz|hz
   ·exact htn z hz
   ·simp at hz;subst hz;exact abt),P⟩
end
section
open Go.ChangeShapes Go.WideShapes Go.Deep
section
variable {H:Type}{enc:TypeId×Value->H}{W:ae}{base:Nat}
def tC{P:Program}{t e:TypeId}{v:Value}(ht:P.underlying t=so (.slice e))(h:Value.okWide P W .any base t v):∃a l c,v=.slice a l c:=by
 unfold Value.okWide at h;rw[ht]at h;simp only at h;unfold Cell.okWide at h;rw[ht]at h;cases v with
 |slice a l c=>exact⟨a,l,c,rfl⟩
 |_=>simp[Cell.ok,ht]at h
def DK{n:Int}(h:(Lit.int .i64 n).wf=true):-9223372036854775808<=n/\n<=9223372036854775807:=by
 simp[Lit.wf,IntKind.min,IntKind.max,IntKind.signed,IntKind.bits]at h;omega
structure OM(W:ae)(a:Addr)(i:Nat)(r:Hu):Prop where
 c0:W.cell? (a.add (i*2))=so (.int .i64 r.eO)
 c1:W.cell? (a.add (i*2+1))=so (.slice r.sa r.ins.length r.sc)
 ptr:r.ins≠[]->r.sa=so ⟨r.ib,r.UM,we⟩/\r.ib<W.heap.size
 ins:∀j (h:j<r.ins.length),W.cell? ⟨r.ib,r.UM+j,we⟩=so (.int .i64 r.ins[j])
 Zn:(-9223372036854775808<=r.eO/\r.eO<=9223372036854775807)/\∀x∈r.ins,-9223372036854775808<=x/\x<=9223372036854775807
 Gc:r.ins.length<=9223372036854775807
def DL{b off i:Nat}:(⟨b,off,we⟩:Addr).add i=⟨b,off+i,we⟩:=by
 unfold Addr.add;split
 ·rename_i h;subst h;rfl
 ·rfl
def UR{v:Value}{d:DataW H}{ps:List MemPlace}(hv:Value.okWide ax W .any base 25 v)(h:DataW.Trod enc ax W 0 (λ_=>true) true 25 v d ps):
  ∃p b off c rw,v=.slice p (List.length rw) c/\(rw≠[]->p=so ⟨b,off,we⟩/\b<W.heap.size)/\(∀i (h:i<rw.length),OM W ⟨b,off,we⟩ i rw[i])/\rw.length<=9223372036854775807:=by
 haveI:Inhabited Hu:=⟨⟨0,[],we,0,0,0⟩⟩
 obtain⟨a0,l0,cp0,rfl⟩:=tC underlying25 hv;obtain⟨fuel,h⟩:=h;have hc:(Value.slice a0 l0 cp0).cells.toList=[.slice a0 l0 cp0]:=rfl;rw[hc]at h;rcases open_slice_pairs underlying25 underlying132 ai rfl rfl ai ai h with⟨e,-⟩|⟨a,len,cap,m,n,V0,V1,D0,D1,P0,P1,e,-,hl,hm,hmm,-,iJ⟩
 ·simp only[cy,Value.slice.injEq,and_true]at e;obtain⟨rfl,rfl,rfl⟩:=e;exact⟨we,0,0,0,[],rfl,λq=>absurd rfl q,λi hi=>by simp at hi,ar⟩
 simp only[cy,Value.slice.injEq,and_true]at e;obtain⟨rfl,rfl,rfl⟩:=e;simp only[if_true]at hmm;subst hmm;have each:∀i,i<l0->∃r,OM W a i r:=by
  intro i hi;obtain⟨k0,k1,t0,t1⟩:=iJ i aa;obtain⟨x,ex,-,wx⟩:=DataW.trod_int underlying3 t0;simp only[cy,and_true]at ex;rw[ex]at k0;rcases open_ints underlying130 underlying3 ai t1 with⟨e1,-⟩|⟨a1,US,ajW,zs,e1,-,yR,hm1,hz,-,hcz,hwz⟩
  ·simp only[cy,and_true]at e1;rw[e1]at k1;exact⟨⟨x,[],we,0,0,0⟩,k0,k1,λq=>absurd rfl q,λj hj=>by simp at hj,⟨DK wx,ar⟩,ar⟩
  ·simp only[cy,and_true]at e1;rw[e1]at k1;simp only[if_true]at hz;have hlz:(zs.take US).length=US:=eP;refine⟨⟨x,zs.take US,so a1,a1.block,a1.off,ajW⟩,k0,by rw[k1];simp only[hlz],λq=>?_,λj hj=>?_,⟨DK wx,λy hy=>DK (hwz y (List.mem_of_mem_take hy))⟩,by simp only[hlz];have:=hm1;simp only[maxLen]at this;omega⟩
   ·have h0:0<US:=by
     rcases bg US with h0|h0
     ·subst h0;exact absurd ar q
     ·exact h0
    have Pt:=hcz 0 aa;have hs:=World.cell?_spot Pt;have hb:=World.block_lt_of_cell? W _ Pt;rw[block_add]at hb;obtain⟨b1,o1,s1⟩:=a1;have:s1=we:=by simpa[Addr.add] using hs
    subst this;exact⟨rfl,hb⟩
   ·simp only[hlz]at hj;have Pt:=hcz 0 aa;have hs:=World.cell?_spot Pt;obtain⟨b1,o1,s1⟩:=a1;have:s1=we:=by simpa[Addr.add] using hs
    subst this;have:=hcz j aa;rw[DL]at this;rw[this];simp[List.getD,bm (show j<zs.length by omega)]
 obtain⟨q,hq⟩:=choose_lt each;have hlen:((List.range l0).map q).length=l0:=ar;refine⟨so a,a.block,a.off,m,(List.range l0).map q,by rw[hlen],λdE=>?_,λi hi=>?_,by rw[hlen];simp only[maxLen]at hm;omega⟩
 ·have h0:0<l0:=by
   rcases bg l0 with h0|h0
   ·subst h0;exact absurd ar dE
   ·exact h0
  have Pt:=(hq 0 h0).c0;have hs:=World.cell?_spot Pt;have hb:=World.block_lt_of_cell? W _ Pt;rw[block_add]at hb;obtain⟨b1,o1,s1⟩:=a;have:s1=we:=by simpa[Addr.add] using hs
  subst this;exact⟨rfl,hb⟩
 ·rw[hlen]at hi;have hs:=World.cell?_spot (hq 0 aa).c0;obtain⟨b1,o1,s1⟩:=a;have:s1=we:=by simpa[Addr.add] using hs
  subst this;simpa using hq i hi
structure M8(W:ae)(a:Addr)(i:Nat)(x:Int×Int×Int):Prop where
 c0:W.cell? (a.add (i*3))=so (.int .i64 x.1)
 c1:W.cell? (a.add (i*3+1))=so (.int .i64 x.2.1)
 c2:W.cell? (a.add (i*3+2))=so (.int .i64 x.2.2)
 Zn:(-9223372036854775808<=x.2.1/\x.2.1<=9223372036854775807)/\(-9223372036854775808<=x.2.2/\x.2.2<=9223372036854775807)
def UT{v:Value}{d:DataW H}{ps:List MemPlace}(hv:Value.okWide ax W .any base 26 v)(h:DataW.Trod enc ax W 0 (λ_=>true) true 26 v d ps)(hw:∀x∈d.weights ax 26,x<=reachBytes):
  ∃p b off c xs,v=.slice p (List.length xs) c/\(xs≠[]->p=so ⟨b,off,we⟩/\b<W.heap.size)/\(∀i (h:i<xs.length),M8 W ⟨b,off,we⟩ i xs[i])/\xs.length*24<=140737488355328:=by
 obtain⟨a0,l0,cp0,rfl⟩:=tC underlying26 hv;obtain⟨fuel,h⟩:=h;have hc:(Value.slice a0 l0 cp0).cells.toList=[.slice a0 l0 cp0]:=rfl;rw[hc]at h;have ce:ax.cellsOf 30=3:=ai;have c3:ax.cellsOf 3=1:=ai;have by_:ax.bytesOf 30=24:=ai;rcases open_slice underlying26 h with⟨e,-⟩|⟨a,len,cap,m,n,D,Pl,e,-,hl,hm,hmm,hx,iJ⟩
 ·simp only[cy,Value.slice.injEq,and_true]at e;obtain⟨rfl,rfl,rfl⟩:=e;exact⟨we,0,0,0,[],rfl,λq=>absurd rfl q,λi hi=>by simp at hi,ar⟩
 simp only[cy,Value.slice.injEq,and_true]at e;obtain⟨rfl,rfl,rfl⟩:=e;simp only[if_true]at hmm;subst hmm;have each:∀i,i<l0->∃x:Int×Int×Int,M8 W a i x:=by
  intro i hi;obtain⟨D4,h1,h2⟩:=iJ i aa;rw[ce]at h1;obtain⟨_,hlen,lT⟩:=World.cells?_some h1;obtain⟨xs,k,hk,Yw,_,hxl,hf⟩:=DataW.trod_struct underlying30 h2
  match D4,hlen with
  | [v0,v1,v2],_ =>
   have g0:=hf 0 _ rfl;have g1:=hf 1 _ rfl;have g2:=hf 2 _ rfl;have e0:=lT 0 aa;have e1:=lT 1 aa;have e2:=lT 2 aa;rw[add_add]at e0 e1 e2
   match xs,hxl with
   | [y0,y1,y2],_ =>
    simp[c3]at g0 g1 g2;obtain⟨n0,k0,-,w0⟩:=DataW.trod_int underlying3 g0;obtain⟨n1,k1,-,w1⟩:=DataW.trod_int underlying3 g1;obtain⟨n2,k2,-,w2⟩:=DataW.trod_int underlying3 g2;simp only[cy,and_true]at k0 k1 k2;subst k0 k1 k2;exact⟨(n0,n1,n2),by simpa using e0,by simpa using e1,by simpa using e2,DK w1,DK w2⟩
 obtain⟨q,hq⟩:=choose_lt each;have hlen:((List.range l0).map q).length=l0:=ar;have CX:l0*24<=140737488355328:=by
  have hd:=(Prod.mk.inj hx).1;have:=hw ((l0+(m-l0))*24) (by
   rw[hd];simp only[DataW.weights,underlying26,by_,List.length_map,List.length_range];exact jB)
  simp only[reachBytes]at this;omega
 refine⟨so a,a.block,a.off,m,(List.range l0).map q,by rw[hlen],λdE=>?_,λi hi=>?_,by rw[hlen];exact CX⟩
 ·have h0:0<l0:=by
   rcases bg l0 with h0|h0
   ·subst h0;exact absurd ar dE
   ·exact h0
  have Pt:=(hq 0 h0).c0;have hs:=World.cell?_spot Pt;have hb:=World.block_lt_of_cell? W _ Pt;rw[block_add]at hb;obtain⟨b1,o1,s1⟩:=a;have:s1=we:=by simpa[Addr.add] using hs
  subst this;exact⟨rfl,hb⟩
 ·rw[hlen]at hi;have hs:=World.cell?_spot (hq 0 aa).c0;obtain⟨b1,o1,s1⟩:=a;have:s1=we:=by simpa[Addr.add] using hs
  subst this;simpa using hq i hi
end
end
section
variable {Fin:bL}{d:Nat}{o:aM}{w:ae}{K:mK}{s:fO}{lk:Int}{lab:Nat->Nat}{fn:FuncId}{Q:Exit->Act->aM->ae->Prop}{a:Act}{ops:Array Oper}{i j:Nat}{rest:List Nat}{t:Tmp}{e1 e2:Oper}
structure Var(o:aM)(w:ae)(K:mK)(s:fO)(lk:Int)(lab:Nat->Nat)(D:Nat)(c:Obj)(o':aM)(w':ae)(lab':Nat->Nat):Prop where
 dv:bp o' w' K s lk lab'
 step:cU o w lab o' w' lab'
 br:bC (λ_=>False) o w o' w'
 own:o' D
 Ah:lab' D=7
 blk:w'.heap[D]?=so c
 old:∀b,b<w.heap.size->lab' b=lab b/\w'.heap[b]?=w.heap[b]?
def uV(n:Int)(y:af)(h:bp o w K s lk lab)(k:∀D o' w' lab',D=w.heap.size->Var o w K s lk lab D (.cells #[.int .i64 n,.string y] 32) o' w' lab'->eX (XB ax Fin d) fn ops rest Q ((a.put (so t) (.pointer (so ⟨D,0,we⟩))).put we undef) o' w')(h1:ops[i]?=so e1:=by rfl)(h2:Region.wanted e1 (yielded ops a.tmps)=true:=by rfl)(h3:e1.op=.alloc 32:=by rfl)(h4:e1.dst=so t:=by rfl)(h5:ops[j]?=so e2:=by rfl)(h6:∀p,Region.wanted e2 (yielded ops (a.put (so t) p).tmps)=true:=by intro p;rfl)(h7:∃x,e2.op=.store 32 (.tmp t) x/\∀p,(a.put (so t) p).eval x=.agg #[.int .i64 n,.string y]:=by exact⟨_,rfl,λp=>rfl⟩)(h8:e2.dst=we:=by rfl)(h9:∀p,(a.put (so t) p).eval (.tmp t)=p:=by intro p;rfl):eX (XB ax Fin d) fn ops (i::j::rest) Q a o w:=by
 obtain⟨x,h7,nD⟩:=h7;obtain⟨_,_,_,_,_,_⟩:=e1;obtain⟨_,_,_,_,_,_⟩:=e2;simp only at h3 h4 h7 h8;subst h3 h4 h7 h8;refine dm bS h.aH h1 h2 ak nf rfl (R:=λwl v aX=>v=.pointer (so ⟨wl.heap.size,0,we⟩)/\aX=wl.alloc (Obj.cells #[.int .i64 0,.string aR] 32)) (λwl aW=>⟨_,_,by first|(simp[go_sem];done)|(simp[go_sem];rfl),rfl,rfl⟩) λwl v1 aX w3 aW oo bP=>?_;obtain⟨rfl,oo⟩:=oo;obtain⟨z3,k3,sF⟩:=bP.alloc h.aH aW oo;obtain⟨W3,oD⟩:=bC.rC bP.aH z3 k3;rw[aW.size];clear oo bP aW wl aX;obtain⟨mB,h3,T3,Bi,OE⟩:=h.grown (cU.refl h.aH) W3;generalize Go.Ren.grow o w w3=o3 at *;refine mA n y h3.aH oD sF (λw4 rn vC kD4=>?_) h5 (h6 _) ⟨_,x,rfl,h9 _,nD _⟩ rfl;obtain⟨h4,T4⟩:=h3.wrote T3 (OE _ (ah _)) (ah _) rn vC;exact k _ _ _ mB rfl ⟨h4,T4,⟨rn,W3.more,W3.new,by rw[vC.1];exact W3.size,λb hb hx=>(vC.2 b aa).trans (W3.same b hb hx)⟩,oD,OE _ (ah _),kD4,λb hb=>⟨Bi b hb,(vC.2 b aa).trans (k3 b hb)⟩⟩
def M9(n:Int)(p:Option Addr)(l c:Nat)(q:Option Addr)(m e:Nat)(h:bp o w K s lk lab)(hp:Cl ax L0 o (.slice p l c))(ht:Cl ax L0 o (.slice q m e))(k:∀D o' w' lab',D=w.heap.size->Var o w K s lk lab D (.cells #[.int .i64 n,.slice p l c,.slice q m e] 59) o' w' lab'->eX (XB ax Fin d) fn ops rest Q ((a.put (so t) (.pointer (so ⟨D,0,we⟩))).put we undef) o' w')(h1:ops[i]?=so e1:=by rfl)(h2:Region.wanted e1 (yielded ops a.tmps)=true:=by rfl)(h3:e1.op=.alloc 59:=by rfl)(h4:e1.dst=so t:=by rfl)(h5:ops[j]?=so e2:=by rfl)(h6:∀p,Region.wanted e2 (yielded ops (a.put (so t) p).tmps)=true:=by intro p;rfl)(h7:∃x,e2.op=.store 59 (.tmp t) x/\∀u,(a.put (so t) u).eval x=.agg #[.int .i64 n,.slice p l c,.slice q m e]:=by exact⟨_,rfl,λp=>rfl⟩)(h8:e2.dst=we:=by rfl)(h9:∀p,(a.put (so t) p).eval (.tmp t)=p:=by intro p;rfl):eX (XB ax Fin d) fn ops (i::j::rest) Q a o w:=by
 obtain⟨x,h7,nD⟩:=h7;obtain⟨_,_,_,_,_,_⟩:=e1;obtain⟨_,_,_,_,_,_⟩:=e2;simp only at h3 h4 h7 h8;subst h3 h4 h7 h8;refine dm bS h.aH h1 h2 ak nf rfl (R:=λwl v aX=>v=.pointer (so ⟨wl.heap.size,0,we⟩)/\aX=wl.alloc (Obj.cells #[.int .i64 0,.slice we 0 0,.slice we 0 0] 59)) (λwl aW=>⟨_,_,by first|(simp[go_sem];done)|(simp[go_sem];rfl),rfl,rfl⟩) λwl v1 aX w3 aW oo bP=>?_;obtain⟨rfl,oo⟩:=oo;obtain⟨z3,k3,sF⟩:=bP.alloc h.aH aW oo;obtain⟨W3,oD⟩:=bC.rC bP.aH z3 k3;rw[aW.size];clear oo bP aW wl aX;obtain⟨mB,h3,T3,Bi,OE⟩:=h.grown (cU.refl h.aH) W3;have hp3:=hp.up W3.more;have ht3:=ht.up W3.more;generalize Go.Ren.grow o w w3=o3 at *;refine dA bS h3.aH h5 (h6 _) ak ?_ rfl (R:=λwl aX=>aX=((wl.setCell ⟨w.heap.size,0,we⟩ (.int .i64 n)).setCell ⟨w.heap.size,1,we⟩ (.slice p l c)).setCell ⟨w.heap.size,2,we⟩ (.slice q m e)) (λwl aW=>⟨_,?_,rfl⟩) λwl aX w4 aW BJ bP=>?_
 ·intro z hz;simp[Op.operands]at hz;rcases hz with rfl|rfl
  ·rw[h9];exact bX oD
  ·rw[nD];refine fW (vs:=[_,_,_]) (λx hx=>?_);simp at hx;rcases hx with rfl|rfl|rfl
   ·exact dV
   ·exact hp3
   ·exact ht3
 ·obtain⟨e0,e1,e2,f0,f1,f2⟩:=fa ((aW.heap _ oD).trans sF);have q9:=h9 (.pointer (so ⟨w.heap.size,0,we⟩));have q10:=nD (.pointer (so ⟨w.heap.size,0,we⟩));generalize Act.eval (a.put (so t) (.pointer (so ⟨w.heap.size,0,we⟩)))=ev at q9 q10 |-;simp[go_sem,q9,q10,e0,e1,e2,f0,f1,f2]
 have hO:eM w.heap.size wl aX:=by rw[BJ];exact wC _ _ _ _ _ _ _ _
 obtain⟨vC,kD4,ey⟩:=bP.only aW oD hO;have rn:=bP.aH;rw[ey]at rn |-;rw[BJ,MF ((aW.heap _ oD).trans sF)]at kD4;obtain⟨h4,T4⟩:=h3.wrote T3 (OE _ (ah _)) (ah _) rn vC;exact k _ _ _ mB rfl ⟨h4,T4,⟨rn,W3.more,W3.new,by rw[vC.1];exact W3.size,λb hb hx=>(vC.2 b aa).trans (W3.same b hb hx)⟩,oD,OE _ (ah _),kD4,λb hb=>⟨Bi b hb,(vC.2 b aa).trans (k3 b hb)⟩⟩
end
def AZ(x:af):Nat:=if x=iD 1 then 1 else if x=iD 2 then 2 else if x=iD 3 then 3 else if x=iD 4 then 4 else if x=iD 5 then 5 else if x=iD 6 then 6 else if x=iD 7 then 7 else 0
def tg{i:Nat}(h:i<8):AZ (iD i)=i:=by
 have dE:∀j,j<8->i≠j->iD i≠iD j:=λj hj e q=>e (Kr h hj q);unfold AZ;rcases Dy h with rfl|rfl|rfl|rfl|rfl|rfl|rfl|rfl;all_goals simp[dE 1 aa,dE 2 aa,dE 3 aa,dE 4 aa,dE 5 aa,dE 6 aa,dE 7 aa]
def vF{x:af}(h1:1<=x.data.size)(h4:x.data.size<=4)(h:∀u∈x.data.toList,97<=u.toNat/\u.toNat<=122):isName x:=by
 refine⟨h1,h4,λj hj _=>?_⟩;have:x[j]∈x.data.toList:=by
  show x.data[j]∈x.data.toList;simp
 exact h _ this
def A0{i:Nat}(h:i<8):isName (iD i):=by
 have e:=vD i h;refine vF (by rw[e];simp) (by rw[e];simp) (λu hu=>?_);rw[e]at hu;rcases Dy h with rfl|rfl|rfl|rfl|rfl|rfl|rfl|rfl;all_goals (simp at hu;rcases hu with rfl|rfl<;>decide)
def pX{x:af}(h:x∈kj):isName x:=by
 simp only[kj,bM,dh,or_false]at h;rcases h with rfl|rfl|rfl|rfl|rfl|rfl;all_goals exact vF eB eB (λu hu=>by simp at hu;subst hu;decide)
def oX(rs:List aI)(NM:aI->List af)(NB:aI->Nat)(b g:Nat):Prop:=(rs≠[]/\g=b)\/∃r∈rs,NM r≠[]/\g=NB r
section
variable {Fin:bL}{o o':aM}{w w':ae}{K:mK}{s s':fO}
def RB.hand{v:Value}{rs:List aI}{uU:Nat->List af}(h:RB o w v rs uU o' w')(hl:rs.length<=8):∃p b c,v=.slice p rs.length c/\Hand o' w' p b c rs (λr=>uU (AZ r.out)) (λr=>(r.sa.map (·.block)).getD 0) AZ/\(∀g,oX rs (λr=>uU (AZ r.out)) (λr=>(r.sa.map (·.block)).getD 0) b g->w.heap.size<=g/\g<w'.heap.size):=by
 have pj:∀j (hj:j<rs.length),uU (AZ rs[j].out)=uU j:=λj hj=>by rw[(h.each j hj).1,tg aa]
 have hY:Ai rs (λr=>uU (AZ r.out)) AZ:=by
  refine⟨λr hr=>?_,λr hr x hx=>?_,λr hr=>?_,?_,λr hr x hx ho=>?_⟩
  ·obtain⟨j,hj,rfl⟩:=a8 hr;rw[(h.each j hj).1];exact A0 aa
  ·obtain⟨j,hj,rfl⟩:=a8 hr;simp only[pj j hj]at hx;rcases(h.each j hj).2.2.2.1 x hx with q|⟨q,hq,rfl⟩
   ·exact pX q
   ·exact A0 aa
  ·obtain⟨j,hj,rfl⟩:=a8 hr;exact(h.each j hj).2.1
  ·refine aaj.2 λi j hi hj Fv e=>?_;have ml:i<rs.length:=by simpa using hi
   have sg:j<rs.length:=by simpa using hj
   simp only[List.getElem_map,(h.each i ml).1,(h.each j sg).1]at e;have:=Kr aa aa e;omega
  ·obtain⟨j,hj,rfl⟩:=a8 hr;simp only[pj j hj]at hx;rw[(h.each j hj).1,tg aa];rcases(h.each j hj).2.2.2.1 x hx with q|⟨q,hq,rfl⟩
   ·obtain⟨r2,GP,rfl⟩:=aag.1 ho;obtain⟨i,hi,rfl⟩:=a8 GP;rw[(h.each i hi).1]at q;exact absurd q (FR i aa)
   ·rw[tg aa];exact hq
 have CG:∀r∈rs,AZ r.out<rs.length:=λr hr=>by
  obtain⟨j,hj,rfl⟩:=a8 hr;rw[(h.each j hj).1,tg aa];exact hj
 have vq:∀r∈rs,r.sl=(uU (AZ r.out)).length/\(uU (AZ r.out)≠[]->r.sa=so ⟨(r.sa.map (·.block)).getD 0,0,we⟩/\o' ((r.sa.map (·.block)).getD 0))/\eN w' ((r.sa.map (·.block)).getD 0) 0 (uU (AZ r.out))/\(uU (AZ r.out)).length<=4:=λr hr=>by
  obtain⟨j,hj,rfl⟩:=a8 hr;obtain⟨e1,e2,e3,e4,e5,e6⟩:=h.each j hj;rw[pj j hj];rcases e6 with⟨q1,q2⟩|⟨g,q1,q2,q3,q4,q5⟩
  ·rw[q2];exact⟨by rw[e5,q2],λq=>absurd rfl q,(λi hi=>by simp at hi),ar⟩
  ·rw[q1];exact⟨e5,λ_=>⟨rfl,h.iS.all g q2 q3⟩,q5,e3⟩
 have SL:∀r∈rs,r.sa=we->uU (AZ r.out)=[]:=λr hr e=>by
  obtain⟨j,hj,rfl⟩:=a8 hr;rw[pj j hj];rcases(h.each j hj).2.2.2.2.2 with⟨q1,q2⟩|⟨g,q1,-⟩
  ·exact q2
  ·rw[q1]at e;cases e
 have PL:∀b,(rs≠[]->w.heap.size<=b/\b<w'.heap.size)->∀g,oX rs (λr=>uU (AZ r.out)) (λr=>(r.sa.map (·.block)).getD 0) b g->w.heap.size<=g/\g<w'.heap.size:=λb hb g hg=>by
  rcases hg with⟨q1,rfl⟩|⟨r,hr,q1,rfl⟩
  ·exact hb q1
  ·obtain⟨j,hj,rfl⟩:=a8 hr;simp only[pj j hj]at q1;rcases(h.each j hj).2.2.2.2.2 with⟨-,q2⟩|⟨g,q2,q3,q4,-⟩
   ·exact absurd q2 q1
   ·simp only[q2,aJ,bu];exact⟨q3,q4⟩
 have cp:=h.row.row;have fw:=h.row.cl;obtain⟨h0,hc⟩:=h.row.row;rcases hc with⟨e1,e2⟩|⟨g,cap,cur,e1,k1,k2,k3,k4,k5,k6⟩
 ·have Q6:=aal.1 e2;subst e1;refine⟨we,0,0,by rw[e2],⟨hl,λq=>absurd Q6 q,λ_=>Q6,λi hi=>by rw[Q6]at hi;simp at hi,by rw[e2];exact iP,aa,vq,SL,hY,CG⟩,PL 0 λq=>absurd Q6 q⟩
 ·subst e1;have TT:g<w'.heap.size:=(aad.1 k2).1;refine⟨so ⟨g,0,we⟩,g,cap,rfl,⟨hl,λ_=>⟨rfl,h.iS.all g k1 TT⟩,(λe=>by cases e),λi hi=>?_,fw,k3,vq,SL,hY,CG⟩,PL g λ_=>⟨k1,TT⟩⟩;have lT:∀j u,(eK rs)[j]?=so u->w'.cell? ⟨g,j,we⟩=so u:=λj u hu=>by
   have:=cp.cells (g:=g) rfl j u hu;have ha:(⟨g,0,we⟩:Addr).add j=⟨g,j,we⟩:=by simp[Addr.add];omega
   rw[ha]at this;exact this
  obtain⟨c0,c1,c2⟩:=om rs i hi;exact⟨lT _ _ c0,lT _ _ c1,lT _ _ c2⟩
def gL.abu{F:cT}{file:af->V}{v:Value}(h:gL K s s' F file v)(hp:s.phase<=1)(hq:0<s.qn.length):v=did 1 aR/\s'=fO.stand {s with qv:=.slice we 0 0,qn:=[],lost:=false} 1 s.time:=by
 rcases h with⟨h2,-⟩|⟨h2,-⟩|⟨-,-,h4⟩
 ·omega
 ·omega
 ·rcases h4 with⟨-,e1,e2⟩|⟨q,-⟩|⟨q,-⟩
  ·exact⟨e1,e2⟩
  ·exact absurd (.inl hq) q
  ·exact absurd (.inl hq) q
def gL.start{F:cT}{file:af->V}{v:Value}(h:gL K s s' F file v)(hp:s.phase=1)(hq:s.qn=[])(hl:s.lost=false)(ht:s.since+5<=s.time):v=did 2 aR/\∃lo F' Kn,s'={s.stand 2 0 with fd:=so (lo,F'),sv:=Kn,src:=dZ K.B.NM K.B.rs}:=by
 have hn:¬(0<s.qn.length\/s.lost=true):=by rw[hq,hl];simp
 rcases h with⟨h2,-⟩|⟨h2,-⟩|⟨-,-,h4⟩
 ·omega
 ·omega
 ·rcases h4 with⟨q,-⟩|⟨-,-,e1,e2⟩|⟨-,q,-⟩
  ·exact absurd q hn
  ·exact⟨e1,e2⟩
  ·exact absurd ⟨hp,ht⟩ q
def gL.afl{F:cT}{file:af->V}{v:Value}(h:gL K s s' F file v)(hp:s.phase=2)(hr:s.rd.length<s.src.length):v=did 3 s.src[s.rd.length]/\∃La,s'={s with rv:=La,rd:=s.rd++[(dG s.th s.src[s.rd.length],cN s.st s.src[s.rd.length])]}:=by
 rcases h with⟨-,h3⟩|⟨h2,-⟩|⟨h2,-,-⟩
 ·rcases h3 with⟨q,-⟩|⟨q,e1,e2⟩
  ·omega
  ·exact⟨e1,e2⟩
 ·omega
 ·exact absurd hp h2
def gL.check{F:cT}{file:af->V}{v:Value}(h:gL K s s' F file v)(hp:s.phase=2\/s.phase=3)(hr:s.rd.length=s.src.length)(hc:s.ck<s.src.length)(Fa:s.ck<s.rd.length)(he:cN s.st s.src[s.ck]=s.rd[s.ck].2):v=did 4 s.src[s.ck]/\s'={s with phase:=3,ck:=s.ck+1}:=by
 have FU:∀s s':fO,Checked K s s' F file v->s.ck<s.src.length->∀(hc:s.ck<s.src.length) (Fa:s.ck<s.rd.length),cN s.st s.src[s.ck]=s.rd[s.ck].2->v=did 4 s.src[s.ck]/\s'={s with ck:=s.ck+1}:=λs s' h hk hc Fa he=>by
  rcases h with⟨q,-⟩|⟨q1,q2,⟨q3,-⟩|⟨-,e1,e2⟩⟩
  ·omega
  ·exact absurd he q3
  ·exact⟨e1,e2⟩
 rcases h with⟨-,h3⟩|⟨h2,h3⟩|⟨h2,h3,-⟩
 ·rcases h3 with⟨-,q⟩|⟨q,-⟩
  ·exact FU {s with phase:=3} s' q hc hc Fa he
  ·omega
 ·obtain⟨e1,e2⟩:=FU s s' h3 hc hc Fa he;exact⟨e1,by rw[e2,<- h2]⟩
 ·exact absurd hp aa
def gL.XY{F:cT}{file:af->V}{v:Value}(h:gL K s s' F file v)(hp:s.phase=3)(hc:s.ck=s.src.length):v=did 6 aR/\Km K s s' F file:=by
 rcases h with⟨h2,-⟩|⟨-,h3⟩|⟨-,h3,-⟩
 ·omega
 ·rcases h3 with⟨-,e1,e2⟩|⟨q,-⟩
  ·exact⟨e1,e2⟩
  ·omega
 ·exact absurd hp h3
end
open Go.ConcR (Payload)
section
variable {Fin:bL}{o o' o1 o2 o3:aM}{w w' w1 w2 w3:ae}{K:mK}{lab dD iH lab':Nat->Nat}
def Kept(o:aM)(w:ae)(lab:Nat->Nat)(L:List (Nat×Obj)):Prop:=∀p∈L,o p.1/\lab p.1=7/\w.heap[p.1]?=so p.2
def Kept.lt{L:List (Nat×Obj)}(h:Kept o w lab L):∀p∈L,p.1<w.heap.size:=λp hp=>(aad.1 (h p hp).2.2).1
def Kept.step{L:List (Nat×Obj)}(h:Kept o w lab L)(S:cU o w lab o' w' lab'):Kept o' w' lab' L:=λp hp=>by
 obtain⟨h1,h2,h3⟩:=h p hp;have hl:=h.lt p hp;exact⟨S.br.more _ h1,(S.lab _ hl).trans h2,(S.br.same _ hl (by rw[h2];omega)).trans h3⟩
def Kept.var{K:mK}{s:fO}{lk:Int}{D:Nat}{x:Obj}{L:List (Nat×Obj)}(h:Kept o w lab L)(V:Var o w K s lk lab D x o' w' lab'):Kept o' w' lab' ((D,x)::L):=λp hp=>by
 rcases bM.1 hp with rfl|hp
 ·exact⟨V.own,V.Ah,V.blk⟩
 ·obtain⟨h1,h2,h3⟩:=h p hp;have l:=h.lt p hp;exact⟨V.br.more _ h1,(V.old _ l).1.trans h2,(V.old _ l).2.trans h3⟩
def cU.old(S:cU o1 w1 dD o' w' lab')(hW:bC (λ_=>False) o w o1 w1)(hl:∀b,b<w.heap.size->7<=dD b):bC (λ_=>False) o w o' w':=by
 have z1:=hW.size;have z2:=S.br.size;exact⟨S.br.aH,λb hb=>S.br.more b (hW.more b hb),λb hb=>(S.br.new b hb).elim (λq=>hW.new b q) λq=>.inr aa,aa,λb hb hx=>(S.br.same b aa (by have:=hl b hb;omega)).trans (hW.same b hb hx)⟩
def Hw:ax.globals.size=4:=ai
def UU(hF:bO ax L0 o w):o 1:=hF.kp 1 (by rw[Hw];omega)
def afm:ax.underlying 36=so (.pointer (ax.pointee 36)):=ai
def aj0:ax.underlying 27=so (.pointer (ax.pointee 27)):=ai
def aB:af:=⟨#[97]⟩
def zB:af:=⟨#[122]⟩
def ON:af:=⟨#[120,121]⟩
def yxB:af:=⟨#[121,120]⟩
def UW:aB≠zB:=λe=>by have:=congrArg ByteArray.data e;revert this;decide
def OO:isName aB:=vF eB eB (λu hu=>by simp[aB]at hu;subst hu;decide)
def XZ:isName zB:=vF eB eB (λu hu=>by simp[zB]at hu;subst hu;decide)
def UX{l:List af}{a:af}(hn:l.Nodup)(h:∀x,x∈l↔x=a):l=[a]:=by
 match l,hn,h with
 | [],_,h=>exact absurd ((h a).2 rfl) ar
 | [x],_,h=>rw[(h x).1 ar]
 |x::y::l,hn,h =>
  have e1:=(h x).1 ar;have e2:=(h y).1 ar;rw[db]at hn;exact absurd (by rw[e1,e2];simp) hn.1
def Hy{α:Type}{l:List α}{a:α}(h:l=[a]):∀(i:Nat) (hi:i<l.length),l[i]=a:=by
 subst h;intro i hi;have:i=0:=by simpa using hi
 subst this;rfl
def OP(Ab:Nat):aI:=⟨zB,2,so ⟨Ab,0,we⟩,1,1⟩
def afn{Ab Rl:Nat}(h1:w.heap[Ab]?=so (.cells #[.string aB] 9))(h2:w.heap[Rl]?=so (.cells #[.string zB,.int .i64 2,.slice (so ⟨Ab,0,we⟩) 1 1] 42))(o1:o Ab)(o2:o Rl):Hand o w (so ⟨Rl,0,we⟩) Rl 1 [OP Ab] (λ_=>[aB]) (λ_=>Ab) (λ_=>0):=by
 refine⟨ar,λ_=>⟨rfl,o2⟩,(λe=>by cases e),λi hi=>?_,dW o2,ar,λr hr=>?_,λr hr e=>?_,⟨λr hr=>?_,λr hr x hx=>?_,λr hr=>?_,ar,λr hr x hx ho=>?_⟩,ar⟩
 ·have hi0:i=0:=by simpa using hi
  subst hi0;obtain⟨c0,c1,c2,-⟩:=fa h2;exact⟨c0,c1,c2⟩
 ·simp at hr;subst hr;exact⟨rfl,λ_=>⟨rfl,o1⟩,(λk hk=>by
   have HY:k=0:=by simpa using hk
   subst HY;exact(Dh h1).1),ar⟩
 ·simp at hr;subst hr;cases e
 ·simp at hr;subst hr;exact XZ
 ·simp at hx;subst hx;exact OO
 ·simp at hr;subst hr;exact⟨by simp[OP],by simp[OP]⟩
 ·simp at hx ho;subst hx;exact absurd ho UW
def afo{B:uO}{Ab:Nat}(h:fQ [OP Ab] (λ_=>[aB]) (λ_=>0) B):∃r,B.rs=[r]/\r.out=zB/\r.eO=2/\B.NM r=[aB]:=by
 obtain⟨r,hr⟩:=List.length_eq_one_iff.1 h.len;have:=h.at_ 0 ar (by rw[h.len];simp);simp only[hr,List.getElem_cons_zero]at this;exact⟨r,hr,this⟩
def aj1{B:uO}{r:aI}(h1:B.rs=[r])(h2:r.out=zB)(h3:B.NM r=[aB]):dZ B.NM B.rs=[aB]:=by
 refine UX (oO _).1.nodup λx=>?_;rw[qx,h1];simp only[List.mem_singleton,exists_eq_left,aC,aP,h2,h3];exact⟨λq=>q.1,λq=>⟨q,by rw[q];exact UW⟩⟩
def afp:iV 2 [(true,ON)]=(true,yxB):=ai
def aj2{B:uO}{r:aI}{F:cT}{file:af->V}(h1:B.rs=[r])(h2:r.out=zB)(h3:B.NM r=[aB])(h4:r.eO=2)(hp:F.b7.Perm B.rs)(hR:jS B.rs B.NM B.RK)(hf:file aB=(true,ON)):nB B F file=[(zB,(true,yxB))]:=by
 have e:F.b7=[r]:=by rw[h1]at hp;exact List.perm_singleton.1 hp
 have hv:valOf B.rs B.NM file zB=(true,yxB):=by
  have:=p7 hR file (r:=r) (by rw[h1];simp);rw[h2,h3,h4]at this;rw[this,aC,aP,p8 file (by rw[h1];simp[h2];exact UW),hf];exact afp
 have ho:lX F.b7 0=zB:=by rw[e];exact h2
 simp only[nB,h1,List.length_singleton,List.range_one,aC,aP,ho,lv];rw[<- h1,hv]
def X0[Payload](hF:bO ax L0 o w)(pow:jh w):
  bA ax (XB ax Fin 0) 32 #[] o w λv o' w'=>v=.bool true/\bC (λ_=>False) o w o' w':=by
 have W:=bY (P:=ax) (Fin:=Fin) (d:=0);refine bD W func32 ak ?_;walk_nrmf Tryz.f32;refine ay ?_;refine dm bS hF rfl ak ak ?_ rfl (R:=λwl v aX=>v=.slice (so ⟨wl.heap.size,0,we⟩) 1 1/\aX=wl.alloc (.cells #[.string aB] 9)) (λwl aW=>⟨_,_,by first|(simp[go_sem,Act.eval,aB];done)|(simp[go_sem,Act.eval,aB];rfl),rfl,rfl⟩) λwl v1 aX w1 aW hR bP=>?_
 ·exact mo bQ
 obtain⟨rfl,hR⟩:=hR;obtain⟨z1,k1,sV⟩:=bP.alloc hF aW hR;obtain⟨W1,xa⟩:=bC.rC bP.aH z1 k1;rw[aW.size];clear hR bP aW wl aX;generalize grow o w w1=o1 at *;refine ay ?_;refine dm bS W1.aH rfl ak ak ?_ rfl (R:=λwl v aX=>v=.slice (so ⟨wl.heap.size,0,we⟩) 1 1/\aX=wl.alloc (.cells #[.string zB,.int .i64 2,.slice (so ⟨w.heap.size,0,we⟩) 1 1] 42)) (λwl aW=>⟨_,_,by first|(simp[go_sem,Act.eval,zB];done)|(simp[go_sem,Act.eval,zB];rfl),rfl,rfl⟩) λwl v1 aX w2 aW hR bP=>?_
 ·refine mo ?_;refine fW (vs:=[_,_,_]) (λx hx=>?_);simp at hx;rcases hx with rfl|rfl|rfl
  ·exact bQ
  ·exact dV
  ·exact dW xa
 obtain⟨rfl,hR⟩:=hR;obtain⟨z2,k2,VZ⟩:=bP.alloc W1.aH aW hR;obtain⟨W2,I7⟩:=bC.rC bP.aH z2 k2;rw[aW.size];clear hR bP aW wl aX;generalize grow o1 w1 w2=o2 at *;have hH:=afn ((k2 _ aa).trans sV) VZ (W2.more _ xa) I7;have l1:=hF.lt (UU hF);have abv:jh w2:=λq hq=>(cell_of ((k2 1 aa).trans (k1 1 l1))).trans (pow q hq);clear z1 z2;refine ay ?_;refine du W rfl ak rfl func34 ai rfl (by first|(simp[Act.eval];done)|(simp[Act.eval];rfl)) rfl ((Zl W2.aH hH abv).mono ?_);rintro v3 o3 w3 ⟨K,pb,mB,rfl,h3,W3,KD,Bi,-⟩;obtain⟨r,lA,GP,hr4,EE⟩:=afo KD;have WN:=(W1.trans W2).trans W3;have z2:=(W1.trans W2).size;have aj3:∀b,b<w.heap.size->7<=mB b:=λb hb=>(Bi b aa).1;have u3:=UJ K pb;have S3:cU o3 w3 mB o3 w3 mB:=cU.refl h3.aH;have P3:Kept o3 w3 mB []:=(λp hp=>by simp at hp);have e31:(s0 pb).th=[]:=rfl;have e32:(s0 pb).phase=0:=rfl;have e33:(s0 pb).time=0:=rfl;have e34:(s0 pb).num=0:=rfl;have e35:(s0 pb).st=[]:=rfl;have e36:(s0 pb).qn=[]:=rfl;have e37:(s0 pb).lost=false:=rfl;generalize s0 pb=s3 at *;refine ay ?_;refine dK bS h3.aH rfl ak ak ?_ rfl (v:=.bool false) (λwl aW=>by simp[go_sem,afm]) λ_=>?_
 ·exact jF (bX h3.own) BC
 refine ay ?_;refine du W rfl ak rfl func21 ai rfl (by simp[Act.eval,aB,ON]) rfl ((MT h3 aB ON eB).mono ?_);rintro v4 o4 w4 ⟨sx,T4,hq⟩;have wu:isName aB/\ON.size<=12/\¬(eR s3.th aB=we/\12<=s3.th.length):=⟨OO,eB,by rw[e31];simp⟩;rcases hq with⟨e,-,-,q,-⟩|⟨rfl,-,rM,h4⟩
 ·exact absurd wu q
 have u4:=u3.edit (x:=aB) (t:=ON) eB (gi s3.st aB (IntKind.i64.wrap (cN s3.st aB+1))) rM;have S4:=S3.trans T4;have P4:=P3.step T4;obtain⟨s4,hs4⟩:∃s4,s4={s3 with th:=gi s3.th aB ON,st:=gi s3.st aB (IntKind.i64.wrap (cN s3.st aB+1)),qv:=rM,qn:=(iw s3.qn s3.lost aB).1,lost:=(iw s3.qn s3.lost aB).2}:=⟨_,rfl⟩;rw[<- hs4]at h4 u4;have e41:s4.th=[(aB,ON)]:=by rw[hs4];simp only[e31];rfl
 have e42:s4.phase=0:=by rw[hs4];exact e32
 have e43:s4.time=0:=by rw[hs4];exact e33
 have e44:s4.num=0:=by rw[hs4];exact e34
 have e46:0<s4.qn.length:=by rw[hs4];simp only[e36,e37];decide
 clear hs4 S3 P3 u3 e31 e32 e33 e34 e35 e36 e37 wu;refine ay ?_;refine b5 func38 (uS h4 u4) ?_;rintro v5 o5 w5 ⟨s5,nV,F5,UY,hw5,u5,h5,T5⟩;have S5:=S4.trans T5;have P5:=P4.step T5;obtain⟨hv,hs⟩:=hw5.abu aa e46;subst hv;have e51:s5.th=[(aB,ON)]:=by rw[hs];exact e41
 have e52:s5.phase=1:=by rw[hs];rfl
 have e53:s5.time=0:=by rw[hs];exact e43
 have e54:s5.num=0:=by rw[hs];exact e44
 have e55:s5.since=0:=by rw[hs];exact e43
 have e56:s5.qn=[]:=by rw[hs];rfl
 have e57:s5.lost=false:=by rw[hs];rfl
 clear hs hw5 e41 e42 e43 e44 e46;unfold did;refine ay ?_;refine uV 1 aR h5 λD ox w6 KE hD hV=>?_;have h6:=hV.dv;have S6:=S5.trans hV.step;have P6:=P5.var hV;clear hV hD;refine ay ?_;refine b5 func37 (MS h6 5) ?_;rintro v7 o7 w7 ⟨rfl,tz,ts,hq⟩;have jl:rN s5.time 5:=by rw[e53];exact⟨aa,aa,aa⟩
 rcases hq with⟨-,q,-⟩|⟨rfl,-,h7⟩
 ·exact absurd jl q
 have u7:=u5.tick (s5.time+Int.toNat 5);have T7:cU o7 w6 KE o7 w7 KE:=cU.of (bC.dM (ex:=(·=K.kb)) h7.aH ⟨tz,ts⟩ rfl) (λb hb=>by rw[hb,h6.l0];omega);have S7:=S6.trans T7;have P7:=P6.step T7;obtain⟨s7,Zp⟩:∃s7,s7={s5 with time:=s5.time+Int.toNat 5}:=⟨_,rfl⟩;rw[<- Zp]at h7 u7;have e71:s7.th=[(aB,ON)]:=by rw[Zp];exact e51
 have e72:s7.phase=1:=by rw[Zp];exact e52
 have e73:s7.since+5<=s7.time:=by rw[Zp];simp only[e53,e55];decide
 have e74:s7.num=0:=by rw[Zp];exact e54
 have e76:s7.qn=[]:=by rw[Zp];exact e56
 have e77:s7.lost=false:=by rw[Zp];exact e57
 clear Zp e51 e52 e53 e54 e55 e56 e57 jl tz ts;refine ay ?_;refine b5 func38 (uS h7 u7) ?_;rintro v8 o8 w8 ⟨s8,aj7,F8,hf8,hw8,u8,h8,T8⟩;have S8:=S7.trans T8;have P8:=P7.step T8;obtain⟨hv,lo8,F8',sv8,hs⟩:=hw8.start e72 e76 e77 e73;subst hv;have e81:s8.th=[(aB,ON)]:=by rw[hs];exact e71
 have e82:s8.phase=2:=by rw[hs];rfl
 have e83:s8.src=[aB]:=by rw[hs];exact aj1 lA GP EE
 have e84:s8.num=0:=by rw[hs];exact e74
 have e85:s8.rd=[]:=by rw[hs];rfl
 have e86:s8.ck=0:=by rw[hs];rfl
 clear hs hw8 e71 e72 e73 e74 e76 e77;unfold did;refine ay ?_;refine uV 2 aR h8 λD ox w9 KE hD hV=>?_;have h9:=hV.dv;have S9:=S8.trans hV.step;have P9:=P8.var hV;clear hV hD;refine ay ?_;refine b5 func38 (uS h9 u8) ?_;rintro v10 o10 w10 ⟨lY,aft,F10,arh,afu,u10,nD,T10⟩;have S10:=S9.trans T10;have P10:=P9.step T10;obtain⟨hv,ark,hs⟩:=afu.afl e82 (by rw[e83,e85];simp);have afv:=Hy e83;rw[afv]at hv hs;subst hv;have akb:lY.th=[(aB,ON)]:=by rw[hs];exact e81
 have afw:lY.phase=2:=by rw[hs];exact e82
 have UZ:lY.src=[aB]:=by rw[hs];exact e83
 have afx:lY.num=0:=by rw[hs];exact e84
 have U0:lY.rd=[((true,ON),cN lY.st aB)]:=by
  rw[hs];simp only[e85,e81,List.nil_append];rfl
 have X1:lY.ck=0:=by rw[hs];exact e86
 clear hs afu e81 e82 e83 e84 e85 e86 afv;unfold did;refine ay ?_;refine uV 3 aB nD λD ox w11 KE hD hV=>?_;have h11:=hV.dv;have S11:=S10.trans hV.step;have P11:=P10.var hV;clear hV hD;refine ay ?_;refine b5 func38 (uS h11 u10) ?_;rintro v12 o12 w12 ⟨s12,afy,F12,aro,afz,u12,p5,T12⟩;have S12:=S11.trans T12;have P12:=P11.step T12;have abx:=Hy UZ;have afA:=Hy U0;obtain⟨hv,hs⟩:=afz.check (.inl afw) (by rw[UZ,U0];rfl) (by rw[UZ,X1];simp) (by rw[U0,X1];simp) (by rw[abx,afA]);rw[abx]at hv;subst hv;have aby:s12.phase=3:=by rw[hs]
 have abz:s12.src=[aB]:=by rw[hs];exact UZ
 have afB:s12.num=0:=by rw[hs];exact afx
 have afC:s12.rd.map (·.1)=[(true,ON)]:=by rw[hs];simp only[U0];rfl
 have afD:s12.ck=s12.src.length:=by rw[abz,hs];simp only[X1];rfl
 clear hs afz akb afw UZ afx U0 X1 abx afA;unfold did;refine ay ?_;refine uV 4 aB p5 λD ox w13 KE hD hV=>?_;have Bj:=hV.dv;have S13:=S12.trans hV.step;have P13:=P12.var hV;clear hV hD;refine ay ?_;refine b5 func38 (uS Bj u12) ?_;rintro v14 Zq Zr ⟨s14,anb,F14,akc,afE,u14,h14,T14⟩;have S14:=S13.trans T14;have P14:=P13.step T14;obtain⟨hv,gK,MU,qA,qC,-,hs⟩:=afE.XY aby afD;subst hv;obtain⟨akd,Hk⟩:=akc (.inr aby);obtain⟨y0,y1,y2,-,Bo⟩:=Bj.build.blk;have abA:s14.res=[(zB,(true,yxB))]:=by
  rw[hs];refine aj2 lA GP EE hr4 (Bo akd F14 Hk).perm Bj.build.right ?_;rw[abz,afC];simp[fileOf]
 have ake:s14.num=1:=by rw[hs];simp only[afB];decide
 clear hs afE aby abz afB afC afD Bo Hk;unfold did;refine ay ?_;refine uV 6 aR h14 λD ox w15 KE hD hV=>?_;have R4:=hV.dv;have S15:=S14.trans hV.step;have P15:=P14.var hV;clear hV hD;refine ay ?_;refine b5 func24 (MZ R4) ?_;rintro v16 o16 w16 ⟨RO,anf,h16,T16,-⟩;have S16:=S15.trans T16;have P16:=P15.step T16;obtain⟨rv,tv,rfl,⟨rp,rb,rc,K9,Zg,tF⟩,GD,R6⟩:=RO.ex;rw[ake]at *;have hlen:s14.res.length=1:=by rw[abA];rfl
 rw[hlen]at K9;obtain⟨akf,orb⟩:=Zg (by rw[abA];simp);subst akf;subst K9;obtain⟨c0,c1,c2⟩:=tF 0 (by rw[hlen];decide);simp only[abA,List.getElem_cons_zero]at c0 c1 c2;obtain⟨tp,tb,tc,akg,-⟩:=R6.row;generalize cx:s14.gD.length=ln at *;subst akg;refine ay ?_;refine M9 1 (so ⟨rb,0,we⟩) 1 rc tp ln tc h16 GD R6.cl λD ox w17 KE hD hV=>?_;have V3:=hV.dv;have S17:=S16.trans hV.step;have P17:=P16.var hV;have erb:=(hV.old rb (h16.aH.lt orb)).2;have X2:=hV.br.more _ orb;have hW:=S17.old WN aj3;clear hV hD;refine ay ?_;simp only[Kept,bM,dh,or_false,forall_eq_or_imp,forall_eq]at P17;obtain⟨⟨abB,-,q16⟩,⟨akj,-,q14⟩,⟨akk,-,q12⟩,⟨akl,-,q10⟩,⟨o8',-,q8⟩,⟨o5',-,q5⟩⟩:=P17;refine jJ V3.aH o5' (dY q5).1 λ_=>?_;refine ay ?_;refine jJ V3.aH o8' (dY q8).1 λ_=>?_;refine ay ?_;refine jJ V3.aH akl (dY q10).1 λ_=>?_;refine ay ?_;refine jJ V3.aH akk (dY q12).1 λ_=>?_;refine ay ?_;refine jJ V3.aH akj (dY q14).1 λ_=>?_;refine ay ?_;refine jJ V3.aH abB (fa q16).1 λ_=>?_;refine ay ?_;refine jJ V3.aH abB (fa q16).2.1 λ_=>?_;refine ay ?_;refine jJ V3.aH abB (fa q16).2.1 λ_=>?_;refine ay ?_;refine dK bS V3.aH rfl ak ak ?_ rfl (v:=.agg #[.string zB,.string yxB,.bool false]) (λwl aW=>by simp[go_sem,(aW.cell X2).trans ((cell_of erb).trans c0),(aW.cell X2).trans ((cell_of erb).trans c1),(aW.cell X2).trans ((cell_of erb).trans c2)]) λ_=>?_
 ·exact mo (bX X2)
 refine ay ?_;refine dK bS V3.aH rfl ak ak ?_ rfl (v:=.bool true) (λwl aW=>by simp[go_sem,zB,yxB]) λ_=>?_
 ·intro y hy;simp[Op.operands]at hy;rcases hy with rfl|rfl
  ·simp[Act.eval];refine fW (vs:=[_,_,_]) (λx hx=>?_);simp at hx;rcases hx with rfl|rfl|rfl
   ·exact bQ
   ·exact bQ
   ·exact mY
  ·simp[Act.eval];refine fW (vs:=[_,_,_]) (λx hx=>?_);simp at hx;rcases hx with rfl|rfl|rfl
   ·exact bQ
   ·exact bQ
   ·exact mY
 refine ay ?_;exact⟨.inr trivial,trivial,_,resultsC_tmp (t:=0) ak _,aK,hW⟩
end
section
variable {Fin:bL}{o o':aM}{w w':ae}
def Hand.keep{p:Option Addr}{b c:Nat}{rs:List aI}{NM:aI->List af}{NB:aI->Nat}{RK:af->Nat}(h:Hand o w p b c rs NM NB RK)(nZ:∀b,o b->o' b)(e:∀g,oX rs NM NB b g->w'.heap[g]?=w.heap[g]?):Hand o' w' p b c rs NM NB RK:=by
 refine⟨h.gF,λq=>⟨(h.ptr q).1,nZ _ (h.ptr q).2⟩,h.nil,λi hi=>?_,h.cl.up nZ,h.cap,λr hr=>⟨(h.nm r hr).1,λq=>⟨((h.nm r hr).2.1 q).1,nZ _ ((h.nm r hr).2.1 q).2⟩,λk hk=>?_,(h.nm r hr).2.2.2⟩,h.nmn,h.yes,h.low⟩
 ·exact gR h.at_ (e b (.inl ⟨(nlt hi),rfl⟩)) i hi
 ·exact cD (h.nm r hr).2.2.1 (e _ (.inr ⟨r,hr,(nlt hk),rfl⟩)) k hk
def wK.keep{p:Option Addr}{b off:Nat}{rw:List Hu}(h:wK Fin w p b off rw)(W:bC (λ_=>False) o w o' w'):wK Fin w' p b off rw:=by
 refine⟨λq=>⟨(h.ptr q).1,(h.ptr q).2.1,bz (h.ptr q).2.2 W.size⟩,λi hi=>?_,λr hr=>⟨λq=>⟨((h.ins r hr).1 q).1,((h.ins r hr).1 q).2.1,bz ((h.ins r hr).1 q).2.2 W.size⟩,λj hj=>?_⟩,h.Zn,h.Gc⟩
 ·have e:=W.same b (h.ptr (nlt hi)).2.2 id;exact⟨(cell_of e).trans (h.at_ i hi).1,(cell_of e).trans (h.at_ i hi).2⟩
 ·have e:=W.same r.ib ((h.ins r hr).1 (nlt hj)).2.2 id;exact(cell_of e).trans ((h.ins r hr).2 j hj)
structure Ak(rs:List aI)(NM:aI->List af):Prop where
 out:∀r∈rs,r.out∉kj
 ins:∀r∈rs,∀x∈NM r,x∈kj\/x∈rs.map (·.out)
 nth:∀i (h:i<rs.length),rs[i].out=iD i
structure U1(o:aM)(w:ae)(v:Value)(o':aM)(w':ae):Prop where
 ex:∃S K pb lab rp rb rc rs NM NB,v=.pointer (so ⟨S,0,we⟩)/\w'.heap[S]?=so (.cells #[.pointer (so ⟨K.kb,0,we⟩),.slice rp rs.length rc,.slice we 0 0,.int .i64 0] 39)/\o' S/\lab S=7/\bp o' w' K (s0 pb) 0 lab/\bC (λ_=>False) o w o' w'/\(∀b,b<w.heap.size->7<=lab b/\(b≠1->lab b=7))/\Hand o' w' rp rb rc rs NM NB AZ/\fQ rs NM AZ K.B/\(∀g,oX rs NM NB rb g->lab g=7/\w.heap.size<=g)/\w.heap.size<=S/\Ak rs NM
def Va[Payload](hF:bO ax L0 o w)(pow:jh w)(p:Option Addr)(b off c:Nat)(rw:List Hu)(hR:wK Fin w p b off rw):
  bA ax (XB ax Fin 0) 13 #[.slice p rw.length c] o w λv o' w'=>U1 o w v o' w':=by
 have W:=bY (P:=ax) (Fin:=Fin) (d:=0);have l1:=hF.lt (UU hF);have hz4:4<=w.heap.size:=by have:=hF.size;rw[show ax.globals.size=4 by kernel_rfl]at this;omega
 refine bD W func13 ak ?_;walk_nrmf Tryz.f13;refine ay ?_;refine b5 func32 (X0 hF pow) ?_;rintro v1 o1 w1 ⟨rfl,W1⟩;have akm:jh w1:=λq hq=>(cell_of (W1.same 1 l1 id)).trans (pow q hq);have z1:=W1.size;refine ay ?_;refine b5 func33 (UN W1.aH p b off c rw (hR.keep W1)) ?_;rintro v2 o2 w2 ⟨rs,uU,Hv,hlen⟩;have W2:=Hv.iS.br;have z2:=W2.size;obtain⟨rp,rb,rc,rfl,hH,uT⟩:=Hv.hand hlen;have abv:jh w2:=λq hq=>(cell_of (W2.same 1 aa id)).trans (akm q hq);have Fi:Ak rs (λr:aI=>uU (AZ r.out)):=by
  refine⟨λr hr=>?_,λr hr x hx=>?_,λj hj=>(Hv.each j hj).1⟩
  ·obtain⟨j,hj,rfl⟩:=a8 hr;rw[(Hv.each j hj).1];exact FR j aa
  ·obtain⟨j,hj,rfl⟩:=a8 hr;obtain⟨e1,-,-,e4,-⟩:=Hv.each j hj;simp only[e1,tg (show j<8 by omega)]at hx;rcases e4 x hx with q|⟨i,hi,rfl⟩
   ·exact .inl q
   ·refine .inr (aag.2 ⟨rs[i],aG aa,(Hv.each i aa).1⟩)
 clear Hv;generalize (λr:aI=>uU (AZ r.out))=NM at *;generalize (λr:aI=>(r.sa.map (·.block)).getD 0)=NB at *;refine ay ?_;refine b5 func34 (Zl W2.aH hH abv) ?_;rintro v3 o3 w3 ⟨K,pb,mB,rfl,h3,W3,KD,Bi,hkb⟩;have z3:=W3.size;have hH3:=hH.keep W3.more λg hg=>W3.same g (uT g hg).2 id;refine ay ?_;refine dK bS h3.aH rfl ak ak ?_ rfl (v:=.bool false) (λwl aW=>by simp[go_sem,afm]) λ_=>?_
 ·exact jF (bX h3.own) BC
 refine ay ?_;refine dm bS h3.aH rfl ak ak ?_ rfl (R:=λwl v aX=>v=.pointer (so ⟨wl.heap.size,0,we⟩)/\aX=wl.alloc (Obj.cells #[.pointer (so ⟨K.kb,0,we⟩),.slice rp rs.length rc,.slice we 0 0,.int .i64 0] 39)) (λwl aW=>⟨_,_,by first|(simp[go_sem];done)|(simp[go_sem];rfl),rfl,rfl⟩) λwl v1 aX w4 aW BJ bP=>?_
 ·refine mo ?_;refine fW (vs:=[_,_,_,_]) (λx hx=>?_);simp at hx;rcases hx with rfl|rfl|rfl|rfl
  ·exact bX h3.own
  ·exact hH3.cl
  ·exact iP
  ·exact dV
 obtain⟨rfl,BJ⟩:=BJ;obtain⟨z4,k4,yO⟩:=bP.alloc h3.aH aW BJ;obtain⟨W4,tH⟩:=bC.rC bP.aH z4 k4;rw[aW.size];clear BJ bP aW wl aX;obtain⟨sx,h4,S4,HQ,hn4⟩:=h3.grown (cU.refl h3.aH) W4;have hlA:=hn4 _ (ah _);generalize grow o3 w3 w4=o4 at *;have hWW:=((W1.trans W2).trans W3).trans W4;have hH4:=hH3.keep W4.more λg hg=>W4.same g (by have:=(uT g hg).2;omega) id;clear z4;refine ay ?_;refine⟨.inr trivial,trivial,_,resultsC_tmp (t:=2) ak _,w3.heap.size,K,pb,sx,rp,rb,rc,rs,NM,NB,aK,yO,tH,hlA,h4,hWW,λb hb=>?_,hH4,KD,λg hg=>?_,aa,Fi⟩
 ·rw[HQ b aa];exact Bi b aa
 ·obtain⟨q1,q2⟩:=uT g hg;rw[HQ g aa];exact⟨(Bi g q2).2 aa,aa⟩
end
def uW{α:Type}(x y:af)(v:α):∀l:List (af×α),eR (gi l x v) y=if y=x then so v else eR l y
 | []=>by
  simp only[gi,eR]
 | (k,u)::l=>by
  unfold gi;by_cases hx:x=k
  ·rw[if_pos hx];by_cases hy:y=x
   ·rw[if_pos hy];unfold eR;rw[if_pos hy]
   ·rw[if_neg hy];unfold eR;rw[if_neg hy,if_neg (λe=>hy (e.trans hx.symm))]
  ·rw[if_neg hx];unfold eR;by_cases Ea:y=k
   ·rw[if_pos Ea,if_pos Ea,if_neg (λe=>hx (e.symm.trans Ea))]
   ·rw[if_neg Ea,if_neg Ea,uW x y v l]
def vG{α:Type}{x:af}:∀{l:List (af×α)},x∉l.map (·.1)->eR l x=we
 | [],_=>rfl
 | (k,u)::l,h=>by
  simp only[aC,bM,not_or]at h;unfold eR;rw[if_neg h.1];exact vG h.2
def KF{α:Type}(x y:af):∀l:List (af×α),(l.map (·.1)).Nodup->eR (lZ l x) y=if y=x then we else eR l y
 | [],_=>by simp[lZ,eR]
 | (k,u)::l,hn=>by
  rw[aC,db]at hn;unfold lZ;by_cases hx:x=k
  ·rw[if_pos hx];by_cases hy:y=x
   ·rw[if_pos hy,hy];exact vG (by rw[hx];exact hn.1)
   ·rw[if_neg hy]
    conv=>rhs;unfold eR
    rw[if_neg (λe=>hy (e.trans hx.symm))]
  ·rw[if_neg hx];unfold eR;by_cases Ea:y=k
   ·rw[if_pos Ea,if_pos Ea,if_neg (λe=>hx (e.symm.trans Ea))]
   ·rw[if_neg Ea,if_neg Ea,KF x y l hn.2]
def KG(fs:List (af×af))(x y:af):eR (s9 fs x) y=if y=x then we else eR fs y:=by
 induction fs with
 |nil=>simp[s9,eR]
 |cons f fs ih =>
  obtain⟨k,u⟩:=f;unfold s9 at *;by_cases hk:k=x
  ·rw[List.filter_cons_of_neg (by simp[hk]),ih];by_cases hy:y=x
   ·rw[if_pos hy,if_pos hy]
   ·rw[if_neg hy,if_neg hy]
    conv=>rhs;unfold eR
    rw[if_neg (λe=>hy (e.trans hk))]
  ·rw[List.filter_cons_of_pos (by simp[hk])];unfold eR;by_cases Ea:y=k
   ·rw[if_pos Ea,if_pos Ea,if_neg (λe=>hk (Ea.symm.trans e))]
   ·rw[if_neg Ea,if_neg Ea,ih]
def Al{α:Type}(x y:af)(v:α):∀l:List (af×α),eR (l++[(x,v)]) y=match eR l y with
  |some u=>so u
  |none=>if y=x then so v else we
 | []=>by simp[eR]
 | (k,u)::l=>by
  rw[List.cons_append];unfold eR;by_cases Ea:y=k
  ·rw[if_pos Ea,if_pos Ea]
  ·rw[if_neg Ea,if_neg Ea];exact Al x y v l
def Am(fs:List (af×af))(x t y:af)(there:Bool):eR (oW fs x t there) y=if y=x then(if there then so t else we)else eR fs y:=by
 unfold oW;cases there
 ·simp only[aQ,if_false,List.append_nil];exact KG fs x y
 ·simp only[if_true];rw[Al,KG];by_cases hy:y=x
  ·simp[hy]
  ·simp only[if_neg hy];cases eR fs y<;>rfl
def Ve(fs:List (af×af))(x:af):Hq fs x=true↔eR fs x≠we:=by
 rw[Hq,mf];constructor
 ·intro h
  induction fs with
  |nil=>simp at h
  |cons f fs ih =>
   obtain⟨k,u⟩:=f;unfold eR;by_cases hx:x=k
   ·rw[if_pos hx];simp
   ·rw[if_neg hx];exact ih (by simpa[hx] using h)
 ·intro h;exact aN λq=>h (vG q)
def FW{α:Type}{x:af}{v:α}:∀{l:List (af×α)},(l.map (·.1)).Nodup->((gi l x v).map (·.1)).Nodup/\∀y,y∈(gi l x v).map (·.1)↔y=x\/y∈l.map (·.1)
 | [],_=>by simp[gi]
 | (k,u)::l,hn=>by
  rw[aC,db]at hn;unfold gi;by_cases hx:x=k
  ·rw[if_pos hx];subst hx;refine⟨by rw[aC,db];exact hn,λy=>?_⟩;simp
  ·rw[if_neg hx];obtain⟨h1,h2⟩:=FW (x:=x) (v:=v) hn.2;refine⟨?_,λy=>?_⟩
   ·rw[aC,db];exact⟨λq=>((h2 k).1 q).elim (λe=>hx e.symm) hn.1,h1⟩
   ·rw[aC,bM,h2 y,aC,bM];constructor
    ·rintro(q|q|q)
     ·exact .inr (.inl q)
     ·exact .inl q
     ·exact .inr (.inr q)
    ·rintro(q|q|q)
     ·exact .inr (.inl q)
     ·exact .inl q
     ·exact .inr (.inr q)
def FX{α:Type}{x:af}:∀{l:List (af×α)},(l.map (·.1)).Nodup->((lZ l x).map (·.1)).Nodup/\∀y,y∈(lZ l x).map (·.1)->y∈l.map (·.1)
 | [],_=>by simp[lZ]
 | (k,u)::l,hn=>by
  rw[aC,db]at hn;unfold lZ;by_cases hx:x=k
  ·rw[if_pos hx];exact⟨hn.2,λy hy=>bE _ hy⟩
  ·rw[if_neg hx];obtain⟨h1,h2⟩:=FX (x:=x) hn.2;refine⟨?_,λy hy=>?_⟩
   ·rw[aC,db];exact⟨λq=>hn.1 (h2 k q),h1⟩
   ·rw[aC,bM]at hy |-;exact hy.imp id (h2 y)
def qk:∀(l m:List af),l.Nodup->(∀x∈l,x∈m)->l.length<=m.length
 | [],m,_,_=>ar
 |x::l,m,hn,h=>by
  rw[db]at hn;have hx:=h x ar;obtain⟨m1,m2,rfl⟩:=List.append_of_mem hx;have:=qk l (m1++m2) hn.2 (λy hy=>by
   have hy2:=h y (bE _ hy);rw[fN,bM]at hy2;rw[fN];rcases hy2 with q|q|q
   ·exact .inl q
   ·rw[q]at hy;exact absurd hy hn.1
   ·exact .inr q)
  simp only[List.length_append,List.length_cons]at this |-;omega
structure gf(s:fO)(fs:List (af×af)):Prop where
 get:∀x,eR s.th x=eR fs x
 tk:(s.th.map (·.1)).Nodup/\∀x∈s.th.map (·.1),x∈kj
 fk:(fs.map (·.1)).Nodup/\∀x∈fs.map (·.1),x∈kj
def gf.gF{s:fO}{fs:List (af×af)}(h:gf s fs):s.th.length<=6/\fs.length<=6:=by
 have h1:=qk _ _ h.tk.1 h.tk.2;have h2:=qk _ _ h.fk.1 h.fk.2;simp[kj]at h1 h2;exact⟨h1,h2⟩
def Vf{fs:List (af×af)}(x:af)(h:(fs.map (·.1)).Nodup):((s9 fs x).map (·.1)).Nodup/\(∀y∈(s9 fs x).map (·.1),y∈fs.map (·.1))/\x∉(s9 fs x).map (·.1):=by
 refine⟨(List.Sublist.map _ List.filter_sublist).nodup h,λy hy=>?_,λq=>?_⟩
 ·obtain⟨f,hf,rfl⟩:=aag.1 hy;exact aag.2 ⟨f,(aay.1 hf).1,rfl⟩
 ·obtain⟨f,hf,e⟩:=aag.1 q;have:=(aay.1 hf).2;simp at this;exact this e
def DN{fs:List (af×af)}(x t:af)(there:Bool)(h:(fs.map (·.1)).Nodup/\∀y∈fs.map (·.1),y∈kj)(hx:x∈kj):((oW fs x t there).map (·.1)).Nodup/\∀y∈(oW fs x t there).map (·.1),y∈kj:=by
 obtain⟨h1,h2,h3⟩:=Vf x h.1;unfold oW;cases there
 ·simp only[aQ,if_false,List.append_nil];exact⟨h1,λy hy=>h.2 y (h2 y hy)⟩
 ·simp only[if_true,List.map_append,aC,aP];refine⟨aaB.2 ⟨h1,ar,λa ha b hb e=>?_⟩,λy hy=>?_⟩
  ·have ex:a=x:=e.trans (by simpa using hb);rw[ex]at ha;exact h3 ha
  ·rcases fN.1 hy with hy|hy
   ·exact h.2 y (h2 y hy)
   ·simp at hy;rw[hy];exact hx
def gf.edit{s:fO}{fs:List (af×af)}(h:gf s fs){x:af}(t:af)(hx:x∈kj){s':fO}(hs:s'.th=gi s.th x t):gf s' (oW fs x t true):=by
 obtain⟨k1,k2⟩:=FW (x:=x) (v:=t) h.tk.1;refine⟨λy=>?_,⟨by rw[hs];exact k1,λy hy=>?_⟩,DN x t true h.fk hx⟩
 ·rw[hs,uW,Am,h.get];simp
 ·rw[hs,k2]at hy;rcases hy with rfl|hy
  ·exact hx
  ·exact h.tk.2 y hy
def gf.remove{s:fO}{fs:List (af×af)}(h:gf s fs){x:af}(t:af)(hx:x∈kj){s':fO}(hs:s'.th=lZ s.th x):gf s' (oW fs x t false):=by
 obtain⟨k1,k2⟩:=FX (x:=x) h.tk.1;refine⟨λy=>?_,⟨by rw[hs];exact k1,λy hy=>?_⟩,DN x t false h.fk hx⟩
 ·rw[hs,KF x y _ h.tk.1,Am,h.get];simp
 ·rw[hs]at hy;exact h.tk.2 y (k2 y hy)
def gf.aai{s:fO}{fs:List (af×af)}(h:gf s fs){x:af}(t:af)(hx:x∈kj)(hn:eR s.th x=we):gf s (oW fs x t false):=by
 refine⟨λy=>?_,h.tk,DN x t false h.fk hx⟩;rw[Am];by_cases e:y=x
 ·rw[if_pos e,e,hn];simp
 ·rw[if_neg e];exact h.get y
def gf.same{s s':fO}{fs:List (af×af)}(h:gf s fs)(e:s'.th=s.th):gf s' fs:=⟨λx=>by rw[e];exact h.get x,by rw[e];exact h.tk,h.fk⟩
end Go.Proofs.Kz
