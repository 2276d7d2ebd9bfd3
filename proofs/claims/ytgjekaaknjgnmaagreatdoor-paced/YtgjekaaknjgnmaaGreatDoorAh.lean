import Derived.Test.YtgjekaaknjgnmaaGreatDoorAg
import Derived.Carry
import Derived.Conc.HoldsTime
import Derived.LaidLaws
import Derived.LaidMore
import Derived.Stop.Joined
import Derived.Test.YtgjekaaknjgnmaaGreatDoorCards
import Derived.Test.YtgjekaaknjgnmaaGreatDoorTie
set_option linter.all false
set_option maxHeartbeats 40000000
set_option maxRecDepth 200000
namespace Go.Proofs.Kz
open Go.Proofs.Tryz
open Go.Proofs.Tryz renaming prog → ar
open _root_.ByteArray renaming empty → aN
open Go.Ren Go.Conc Go.Proofs Go.ConcN
structure FF where
 eD:Int
 ins:List Int
 sa:Option Addr
 ib:Nat
 RU:Nat
 sc:Nat
structure uZ(Fin:bH)(w:ae)(p:Option Addr)(b off:Nat)(rw:List FF):Prop where
 ptr:rw≠[]->p=some ⟨b,off,none⟩/\wC Fin b/\b<w.heap.size
 at_:∀i (h:i<rw.length),w.cell? ⟨b,off+i*2,none⟩=some (.int .i64 rw[i].eD)/\w.cell? ⟨b,off+i*2+1,none⟩=some (.slice rw[i].sa rw[i].ins.length rw[i].sc)
 ins:∀r∈rw,(r.ins≠[]->r.sa=some ⟨r.ib,r.RU,none⟩/\wC Fin r.ib/\r.ib<w.heap.size)/\∀j (h:j<r.ins.length),w.cell? ⟨r.ib,r.RU+j,none⟩=some (.int .i64 r.ins[j])
 Wp:∀r∈rw,(-9223372036854775808<=r.eD/\r.eD<=9223372036854775807)/\∀x∈r.ins,-9223372036854775808<=x/\x<=9223372036854775807
 Eu:rw.length<=9223372036854775807/\∀r∈rw,r.ins.length<=9223372036854775807
def yA(k:Nat)(x:ah):Prop:=x∈je\/∃q,q<k/\x=gu q
section
variable {Fin:bH} {o o' o1 o2:aM} {w w' w1 w2:ae}
structure RB(o:aM)(w:ae)(v:Value)(rs:List aL)(tC:Nat->List ah)(o':aM)(w':ae):Prop where
 gO:gi o w o' w'
 nb:w'.heap[w.heap.size]?=some (.cells iG 9)
 SZ:w.heap.size<w'.heap.size/\v.ownBlock≠some w.heap.size
 row:lJ o' w' w.heap.size 42 3 v rs.length (dM rs)
 each:∀j (h:j<rs.length),rs[j].out=gu j/\(1<=rs[j].eD/\rs[j].eD<=5)/\(tC j).length<=4/\(∀x∈tC j,yA j x)/\rs[j].sl=(tC j).length/\((rs[j].sa=none/\tC j=[])\/∃g,rs[j].sa=some ⟨g,0,none⟩/\w.heap.size<=g/\g<w'.heap.size/\v.ownBlock≠some g/\dP w' g 0 (tC j))
theorem RB.keep{v:Value}{rs:List aL}{tC:Nat->List ah}(h:RB o w v rs tC o1 w1)(G:gi o1 w1 o' w'):RB o w v rs tC o' w':=by
 have z:=G.aU.size;refine⟨h.gO.trans G,(G.aU.same _ h.SZ.1 id).trans h.nb,⟨by have:=h.SZ.1;omega,h.SZ.2⟩,h.row.gO G,fun j hj=>?_⟩;obtain⟨e1,e2,e3,e4,e5,e6⟩:=h.each j hj;refine⟨e1,e2,e3,e4,e5,e6.imp id fun⟨g,q1,q2,q3,q4,q5⟩=>⟨g,q1,q2,aa,q4,cI q5 (G.aU.same g q3 id)⟩⟩
structure RI(o1:aM)(w1:ae)(A:Nat)(hd:ah)(rc:Int)(u:Value)(ts:List ah)(o':aM)(w':ae):Prop where
 gO:gi o1 w1 o' w'
 blk:w'.heap[A]?=some (.cells #[.string hd,.int .i64 rc,u] 42)
 al:w1.heap.size<=A/\A<w'.heap.size/\u.ownBlock≠some A
 row:lJ o' w' w1.heap.size 9 1 u ts.length (ts.map .string)
theorem RI.keep{A:Nat}{hd:ah}{rc:Int}{u:Value}{ts:List ah}(h:RI o1 w1 A hd rc u ts o2 w2)(G:gi o2 w2 o' w'):RI o1 w1 A hd rc u ts o' w' :=
 ⟨h.gO.trans G,(G.aU.same _ h.al.2.1 id).trans h.blk,⟨h.al.1,by have:=G.aU.size;have:=h.al.2.1;omega,h.al.2.2⟩,h.row.gO G⟩
structure agF(o1:aM)(w1:ae)(A:Nat)(hd:ah)(rc:Int)(u u':Value)(ts:List ah)(o':aM)(w':ae):Prop where
 gO:gi o1 w1 o' w'
 blk:w'.heap[A]?=some (.cells #[.string hd,.int .i64 rc,u] 42)
 al:w1.heap.size<=A/\A<w'.heap.size/\u'.ownBlock≠some A
 row:lJ o' w' w1.heap.size 9 1 u' ts.length (ts.map .string)
def RV(o1:aM)(w1:ae)(o2:aM)(w2:ae)(A:Nat)(hd:ah)(rc:Int)(u:Value)(ts:List ah)(x:ah)(ib ia is:Nat)(σ:Nat->Option Value)(o':aM)(w':ae):Prop :=
 (σ ia=none/\σ is=none/\gi o2 w2 o' w'/\∀y,σ ib=some y->∃Nb,y=.slice (some ⟨Nb,0,none⟩) 1 1/\w2.heap.size<=Nb/\o' Nb/\w'.heap[Nb]?=some (.cells #[.string x] 9)) \/
 (∃u',σ ia=some u'/\σ is=none/\agF o1 w1 A hd rc u u' (ts++[x]) o' w') \/
 (∃u',σ ia=some u'/\σ is≠none/\RI o1 w1 A hd rc u' (ts++[x]) o' w')
theorem RB.step{v y:Value}{rs:List aL}{tC:Nat->List ah}{A:Nat}{rc:Int}{up:Option Addr}{uc:Nat}{ts:List ah}{o3:aM}{w3 w4:ae}(h0:RB o w v rs tC o1 w1)(h:RB o w v rs tC o3 w3)(hI:RI o1 w1 A (gu rs.length) rc (.slice up ts.length uc) ts o3 w3)(DH:1<=rc/\rc<=5)(Pe:ts.length<=4)(Uo:∀x∈ts,yA rs.length x)(q1:lJ (grow o3 w3 w4) w4 w.heap.size 42 3 y (rs++[(⟨gu rs.length,rc,up,ts.length,uc⟩:aL)]).length (dM (rs++[(⟨gu rs.length,rc,up,ts.length,uc⟩:aL)])))(q2:bu (fun b=>v.ownBlock=some b) o3 w3 (grow o3 w3 w4) w4)(q3:∀b,y.ownBlock=some b->v.ownBlock=some b\/w3.heap.size<=b):
  RB o w y (rs++[(⟨gu rs.length,rc,up,ts.length,uc⟩:aL)]) (fun i=>if i=rs.length then ts else tC i) (grow o3 w3 w4) w4:=by
 have z4:=q2.size;have z1:=h0.gO.aU.size;have hyn:∀g,g<w3.heap.size->v.ownBlock≠some g->y.ownBlock≠some g:=fun g hg hv e=>(q3 g e).elim hv fun q=>aa;refine⟨h.gO.row (fun b hb=>(h.row.lt b hb).1) q2,(q2.same _ h.SZ.1 h.SZ.2).trans h.nb,⟨by have:=h.SZ.1;omega,hyn _ h.SZ.1 h.SZ.2⟩,q1,fun j hj=>?_⟩;by_cases e:j=rs.length
 ·subst e;simp only[List.getElem_append_right (Nat.le_refl _),Nat.sub_self,List.getElem_cons_zero,if_true];refine⟨trivial,DH,Pe,Uo,trivial,?_⟩;obtain⟨MX,hc⟩:=hI.row.row;rcases hc with⟨e1,e2⟩|⟨g,cap,cur,e1,k1,k2,k3,k4,k5,k6⟩
  ·injection e1 with e1;exact .inl ⟨e1,List.length_eq_zero_iff.1 e2⟩
  ·have hg:g<w3.heap.size:=(Array.getElem?_eq_some_iff.1 k2).1;have hv:v.ownBlock≠some g:=fun e=>by have:=(h0.row.lt g e).2;omega
   have kZ:=hI.row.row.cells (g:=g) (by rw[e1];rfl);injection e1 with e1;refine .inr ⟨g,e1,aa,aa,hyn g hg hv,fun i hi=>?_⟩;refine(cell_of (q2.same g hg hv)).trans ?_;have:=kZ i (.string ts[i]) (by simp[hi]);have ha:(⟨g,0,none⟩:Addr).add i=⟨g,i,none⟩:=by simp[Addr.add];omega
   rw[ha] at this;rw[bh];exact this
 ·have rY:j<rs.length:=by simp at hj;omega
  simp only[List.getElem_append_left rY,if_neg e];obtain⟨e1,e2,e3,e4,e5,e6⟩:=h.each j rY;exact⟨e1,e2,e3,e4,e5,e6.imp id fun⟨g,k1,k2,k3,k4,k5⟩=>⟨g,k1,k2,aa,hyn g k3 k4,cI k5 (q2.same g k3 k4)⟩⟩
theorem RX(hF:bE ar L0 o w)(p:Option Addr)(b off c:Nat)(rw:List FF)(hR:uZ Fin w p b off rw):
  bp ar (XB ar Fin 0) 33 #[.slice p rw.length c] o w fun v o' w'=>∃rs tC,RB o w v rs tC o' w'/\rs.length<=8:=by
 have W:=bJ (P:=ar) (Fin:=Fin) (d:=0);have Bt:=hR.Eu.1;refine bA W func33 ai ?_;walk_nrmf Tryz.f33;refine aA ?_;refine aF W rfl ai rfl func18 af rfl aC rfl ((FD hF).mono ?_);rintro v1 o1 w1 ⟨N1,rfl,z1,k1⟩;have FG:RB o w (.slice none 0 0) [] (fun _=>[]) o1 w1:=⟨gi.dL N1,k1,⟨aa,(fun e=>by cases e)⟩,lJ.nil _ _ _ _ _ aa,fun j hj=>by simp at hj⟩;clear z1 k1 N1;refine aA ?_;refine nu W (fun m a o' w'=>∃k,m+k=min rw.length 8/\a.tmps.size=84/\a.defers=[]/\a.eval (.tmp 0)=.slice p rw.length c/\a.eval (.tmp 3)=.slice (some ⟨w.heap.size,0,none⟩) 6 6/\a.eval (.tmp 5)=.int .i64 k/\∃v rs tC,a.eval (.tmp 4)=v/\rs.length=k/\RB o w v rs tC o' w') (N:=min rw.length 8) ⟨0,an,rfl,rfl,aC,aC,aC,_,_,_,aC,rfl,FG⟩ ?_;clear FG o1 w1;rintro m a o1 w1 ⟨k,LV,ft,pF,i0,i3,i5,v,rs,tC,i4,hlen,FG⟩;obtain⟨tm,df⟩:=a;simp only at ft pF;subst pF;obtain⟨gs,rfl⟩:=fA ft;clear ft;simp only[List.range,List.range.loop,bU,oe] at i0 i3 i4 i5 |-;simp[Act.eval] at i0 i3 i4 i5;simp only[i0,i3,i4,i5];clear i0 i3 i4 i5;have mw:=FG.gO.aU.ay;have z1:=FG.gO.aU.size;by_cases hk:k<min rw.length 8;rotate_left
 ·by_cases J5:k<rw.length
  ·have acm:(k:Int)<(rw.length:Int):=aa;have hk8:¬(k:Int)<8:=aa;refine aA ?_;exact⟨.inr trivial,trivial,_,resultsC_tmp (t:=2) ai _,rs,tC,by simpa[Act.eval] using FG,aa⟩
  ·have acm:¬(k:Int)<(rw.length:Int):=aa;refine aA ?_;exact⟨.inr trivial,trivial,_,resultsC_tmp (t:=2) ai _,rs,tC,by simpa[Act.eval] using FG,aa⟩
 have J5:k<rw.length:=aa;have hk8:k<8:=aa;have acm:(k:Int)<(rw.length:Int):=aa;have ang:(k:Int)<8:=aa;obtain⟨ep,ob,Uf⟩:=hR.ptr (fun e=>by rw[e] at J5;simp at J5);subst ep;have ZG:=FG.gO.aU.same b Uf id;obtain⟨c0,c1⟩:=hR.at_ k J5;have c0':=(cell_of ZG).trans c0;have Cp:=(cell_of ZG).trans c1;obtain⟨⟨ZH,ZI⟩,rg3⟩:=hR.Wp rw[k] (aD J5);obtain⟨in1,in2⟩:=hR.ins rw[k] (aD J5);have anj:=hR.Eu.2 rw[k] (aD J5);clear c0 c1;generalize rw[k]=r at *;have hpk:=lv r.eD (n:=5) aa;have CP:IntKind.i64.wrap (1+(cW r.eD 5:Int))=1+(cW r.eD 5:Int):=by rw[IntKind.wrap_i64]<;>omega
 refine aA ?_;refine dq mixed af [some none,some (some (.string (gu k))),some none,some none,some none,some none,some (some (.int .i64 r.eD)),some (some (.int .i64 (cW r.eD 5:Nat))),some none,some none,none,none]
  (S:=fun σ o' w'=>gi o1 w1 o' w'/\∀y,σ 10=some y->∃A,y=.pointer (some ⟨A,0,none⟩)/\w1.heap.size<=A/\A<w'.heap.size/\w'.heap[A]?=some (.cells (if (σ 11).isSome then #[.string (gu k),.int .i64 (1+(cW r.eD 5:Int)),.slice none 0 0] else #[.string aN,.int .i64 0,.slice none 0 0]) 42)) ⟨gi.refl mw,(fun y hy=>by cases hy)⟩ fun v9=>?_
 refine dp ?_;refine bO ?_;refine iL rfl rfl ai rfl func15 af rfl (av:=#[.int .i64 k]) aC (fun σ o' w' H hS=>?_) ?_
 ·refine(Wo hS.1.aU.ay k hk8).mono ?_;rintro y o3 w3 ⟨rfl,N3⟩;refine⟨rfl,hS.1.trans (gi.dL N3),fun y hy=>?_⟩;obtain⟨A,q1,q2,q3,q4⟩:=hS.2 y hy;exact⟨A,q1,q2,bm q3 N3.size,(N3.old A q3).trans q4⟩
 refine bO ?_;refine UZ ob rfl rfl rfl ai (fun σ o' w' H hS=>?_) ?_
 ·have cc:=(cell_of (hS.1.aU.same b aa id)).trans c0';refine⟨fun wl aE=>by simp[go_sem,aE.cell.trans cc],fun wl aE x hx=>?_⟩;simp[go_sem,aE.cell.trans cc] at hx;subst hx;exact⟨_,_,_,rfl,rfl⟩
 refine bO ?_;refine iL rfl rfl ai rfl func19 af rfl (av:=#[.int .i64 r.eD,.int .i64 5]) aC (fun σ o' w' H hS=>?_) ?_
 ·refine(vC hS.1.aU.ay r.eD 5 ZH ZI aa aa).mono ?_;rintro y o3 w3 ⟨rfl,N3⟩;refine⟨rfl,hS.1.trans (gi.dL N3),fun y hy=>?_⟩;obtain⟨A,q1,q2,q3,q4⟩:=hS.2 y hy;exact⟨A,q1,q2,bm q3 N3.size,(N3.old A q3).trans q4⟩
 refine bO ?_;refine mJ aX rfl rfl rfl ai ai (fun σ o' w' H oq hS=>?_) ?_
 ·refine⟨hS.1.aU.ay,kp,fun wl v aI=>v=.pointer (some ⟨wl.heap.size,0,none⟩)/\aI=wl.alloc (.cells #[.string aN,.int .i64 0,.slice none 0 0] 42),fun wl aE=>⟨_,_,by first|(simp[go_sem];done)|(simp[go_sem];rfl),rfl,rfl⟩,fun wl y aI w3 aE oR ba=>?_⟩;obtain⟨rfl,oR⟩:=oR;obtain⟨z3,k3,vz⟩:=ba.alloc hS.1.aU.ay aE oR;refine⟨hS.1.trans (gi.tY ba.ay aa k3),fun y hy=>?_⟩;simp only[dB,if_true,en] at hy;have Pr:=H.sg 11 af;refine⟨w'.heap.size,by rw[<- hy,aE.size],hS.1.aU.size,aa,?_⟩;simp[dB,Pr,vz]
 walk_nrm;refine jg aX rfl rfl rfl ai ai (fun σ o' w' H h11 hS=>?_) ?_
 ·obtain⟨A,q1,q2,q3,q4⟩:=hS.2 _ (H.done 10 af rfl);have oA:=hS.1.all A q2 q3;simp only[h11,Option.isSome_none,fl,if_false] at q4;refine⟨hS.1.aU.ay,fun x hx=>?_,fun wl aI=>aI=((wl.setCell ⟨A,0,none⟩ (.string (gu k))).setCell ⟨A,1,none⟩ (.int .i64 (1+(cW r.eD 5:Int)))).setCell ⟨A,2,none⟩ (.slice none 0 0),fun wl aE=>⟨_,?_,rfl⟩,fun wl aI w3 aE oR ba=>?_⟩
  ·simp[Op.operands] at hx;rcases hx with rfl|rfl
   ·simp[Act.eval];rw[q1];exact aH oA
   ·simp[Act.eval];refine cJ (vs:=[_,_,_]) (fun x hx=>?_);simp at hx;rcases hx with rfl|rfl|rfl
    ·exact bf
    ·exact bN
    ·exact gS
  ·obtain⟨e0,e1,e2,f0,f1,f2⟩:=eE ((aE.heap _ oA).trans q4);simp[go_sem,Act.eval,q1,e0,e1,e2,f0,f1,f2,CP]
  ·have hO:cN A wl aI:=by rw[oR];exact uR _ _ _ _ _ _ _ _
   obtain⟨on,kr,e9⟩:=ba.only aE oA hO;have gw:=ba.ay;rw[e9] at gw |-;rw[oR,KL ((aE.heap _ oA).trans q4)] at kr;refine⟨hS.1.wrote q2 gw on,fun y hy=>?_⟩;have Y8:y=v9 10:=by
    simp[dB] at hy;exact(aK ((H.done 10 af rfl).symm.trans hy)).symm
   exact⟨A,Y8.trans q1,q2,by rw[on.1];exact q3,by simp[dB,kr]⟩
 walk_nrm;refine cd fun σ o2 w2 kP hS=>?_;obtain⟨G2,QL⟩:=hS;obtain⟨A,q1,q2,q3,q4⟩:=QL _ (kP 10 dh rfl);simp only[kP 11 dh rfl,Option.isSome_some,if_true] at q4;have pW:RI o1 w1 A (gu k) (1+(cW r.eD 5:Int)) (.slice none 0 0) [] o2 w2:=⟨G2,q4,⟨q2,q3,(fun e=>by cases e)⟩,lJ.nil _ _ _ _ _ (by have:=G2.aU.size;omega)⟩;simp only[q1];clear kP QL q1 q2 q3 q4 G2;have DH:1<=1+(cW r.eD 5:Int)/\1+(cW r.eD 5:Int)<=5:=aa;clear CP;generalize (1+(cW r.eD 5:Int))=rc at *;simp only[gN,cZ,if_true,if_false,reduceIte,Nat.reduceEqDiff];refine aA ?_;refine nu W (fun m a o' w'=>∃j,m+j=min r.ins.length 4/\a.tmps.size=84/\a.defers=[]/\a.eval (.tmp 0)=.slice (some ⟨b,off,none⟩) rw.length c/\a.eval (.tmp 3)=.slice (some ⟨w.heap.size,0,none⟩) 6 6/\a.eval (.tmp 4)=v/\a.eval (.tmp 5)=.int .i64 k/\a.eval (.tmp 6)=.pointer (some ⟨A,0,none⟩)/\a.eval (.tmp 7)=.int .i64 j/\∃u ts,ts.length=j/\(∀x∈ts,yA k x)/\RI o1 w1 A (gu k) rc u ts o' w') (N:=min r.ins.length 4) ⟨0,an,rfl,rfl,aC,aC,aC,aC,aC,aC,_,_,rfl,an,pW⟩ ?_;clear pW o2 w2;rintro m2 a o2 w2 ⟨j,hmj,ft,pF,i0,i3,i4,i5,i6,i7,u,ts,Zs,Uo,pW⟩;subst Zs;obtain⟨tm,df⟩:=a;simp only at ft pF;subst pF;obtain⟨Zh,rfl⟩:=fA ft;clear ft;simp only[List.range,List.range.loop,bU,oe] at i0 i3 i4 i5 i6 i7 |-;simp[Act.eval] at i0 i3 i4 i5 i6 i7;simp only[i0,i3,i4,i5,i6,i7];clear i0 i3 i4 i5 i6 i7;have rh:=pW.gO.aU.ay;have eb2:=pW.gO.aU.same b aa id;have RY:=(cell_of eb2).trans Cp;have oA:=pW.gO.all A pW.al.1 pW.al.2.1;have IQ:=FG.keep pW.gO;refine aA ?_;refine oQ ob rfl ai rfl (v:=.slice r.sa r.ins.length r.sc) (fun wl aE=>by simp[go_sem,aE.cell.trans RY]) (fun wl aE x hx=>?_) ?_
 ·simp[go_sem,aE.cell.trans RY] at hx;subst hx;exact⟨_,_,_,rfl,rfl⟩
 walk_nrm;by_cases hj:ts.length<min r.ins.length 4;rotate_left
 ·obtain⟨up,ul,uc,OL⟩:=jV pW.row.row;have hul:=Ak pW.row.row OL;subst hul;subst OL;have Ja:IntKind.i64.wrap ((k:Int)+1)=((k+1:Nat):Int):=by rw[IntKind.wrap_i64]<;>omega
  obtain⟨d0,d1,d2,-⟩:=eE pW.blk;by_cases SE:ts.length<r.ins.length
  ·have acp:(ts.length:Int)<(r.ins.length:Int):=aa;have hj4:¬(ts.length:Int)<4:=aa;refine aA ?_;refine aP aX rh rfl ai ai ?_ rfl (v:=.agg #[.string (gu k),.int .i64 rc,.slice up ts.length uc]) (fun wl aE=>by simp[go_sem,(aE.cell oA).trans d0,(aE.cell oA).trans d1,(aE.cell oA).trans d2]) fun _=>?_
   ·exact cj (aH oA)
   refine aA ?_;refine cq aX rh rfl ai ai ?_ rfl (R:=fun wl v aI=>v=.slice (some ⟨wl.heap.size,0,none⟩) 1 1/\aI=wl.alloc (.cells #[.string (gu k),.int .i64 rc,.slice up ts.length uc] 42)) (fun wl aE=>⟨_,_,by simp[go_sem,Act.eval],rfl,rfl⟩) fun wl y aI w3 aE oR ba=>?_
   ·refine cj ?_;refine cJ (vs:=[_,_,_]) (fun x hx=>?_);simp at hx;rcases hx with rfl|rfl|rfl
    ·exact bf
    ·exact bN
    ·exact pW.row.cl
   obtain⟨rfl,oR⟩:=oR;obtain⟨z3,k3,vz⟩:=ba.alloc rh aE oR;rw[aE.size];have G3:=gi.tY ba.ay aa k3;have hN3:grow o2 w2 w3 w2.heap.size:=G3.all _ (ag _) aa;clear oR ba aE wl aI z3;generalize grow o2 w2 w3=o3 at *;have yB:=IQ.keep G3;have YE:=pW.keep G3;refine aA ?_;subst hlen;refine cq aX G3.aU.ay rfl ai ai ?_ rfl (R:=fun wl y aI=>aI.ownsRow w.heap.size 42 3 y (rs++[(⟨gu rs.length,rc,up,ts.length,uc⟩:aL)]).length (dM (rs++[(⟨gu rs.length,rc,up,ts.length,uc⟩:aL)]))/\wl.grownBy aI v.ownBlock/\(y.ownBlock=v.ownBlock\/y.ownBlock=some wl.heap.size)) (fun wl aE=>?_) fun wl y aI w4 aE K0 ba=>?_
   ·intro y hy;simp[Op.operands,Call.operands] at hy;rcases hy with rfl|rfl
    ·simp[Act.eval];exact yB.row.cl
    ·simp[Act.eval];exact di hN3
   ·obtain⟨v',W',e1,e2,e3,e4⟩:=IP wl w.heap.size v rs ⟨gu rs.length,rc,up,ts.length,uc⟩ w2.heap.size (cQ yB.row.row fun g hg _=>aE.heap g (fO G3.aU.ay yB.row.cl g hg.symm)) aa (by rw[aE.size];exact yB.row.low) ((aE.heap _ hN3).trans vz);exact⟨v',W',gm (.tmp 79) (.tmp 81) 35 rfl aC aC e1,e2,e3,e4⟩
   obtain⟨r1,r2,r3⟩:=K0;obtain⟨q1,q2,q3⟩:=lJ.add G3.aU.ay yB.row aE ba r1 r2 r3;have YF:=RB.step FG yB YE DH aa Uo q1 q2 q3;clear r1 r2 r3 q1 q2 q3 ba aE wl aI;refine aA ?_;exact⟨m-1,aa,rs.length+1,aa,eX,eX,aC,aC,by simp[Act.eval,Ja],y,_,_,aC,an,YF⟩
  ·have acp:¬(ts.length:Int)<(r.ins.length:Int):=aa;refine aA ?_;refine aP aX rh rfl ai ai ?_ rfl (v:=.agg #[.string (gu k),.int .i64 rc,.slice up ts.length uc]) (fun wl aE=>by simp[go_sem,(aE.cell oA).trans d0,(aE.cell oA).trans d1,(aE.cell oA).trans d2]) fun _=>?_
   ·exact cj (aH oA)
   refine aA ?_;refine cq aX rh rfl ai ai ?_ rfl (R:=fun wl v aI=>v=.slice (some ⟨wl.heap.size,0,none⟩) 1 1/\aI=wl.alloc (.cells #[.string (gu k),.int .i64 rc,.slice up ts.length uc] 42)) (fun wl aE=>⟨_,_,by simp[go_sem,Act.eval],rfl,rfl⟩) fun wl y aI w3 aE oR ba=>?_
   ·refine cj ?_;refine cJ (vs:=[_,_,_]) (fun x hx=>?_);simp at hx;rcases hx with rfl|rfl|rfl
    ·exact bf
    ·exact bN
    ·exact pW.row.cl
   obtain⟨rfl,oR⟩:=oR;obtain⟨z3,k3,vz⟩:=ba.alloc rh aE oR;rw[aE.size];have G3:=gi.tY ba.ay aa k3;have hN3:grow o2 w2 w3 w2.heap.size:=G3.all _ (ag _) aa;clear oR ba aE wl aI z3;generalize grow o2 w2 w3=o3 at *;have yB:=IQ.keep G3;have YE:=pW.keep G3;refine aA ?_;subst hlen;refine cq aX G3.aU.ay rfl ai ai ?_ rfl (R:=fun wl y aI=>aI.ownsRow w.heap.size 42 3 y (rs++[(⟨gu rs.length,rc,up,ts.length,uc⟩:aL)]).length (dM (rs++[(⟨gu rs.length,rc,up,ts.length,uc⟩:aL)]))/\wl.grownBy aI v.ownBlock/\(y.ownBlock=v.ownBlock\/y.ownBlock=some wl.heap.size)) (fun wl aE=>?_) fun wl y aI w4 aE K0 ba=>?_
   ·intro y hy;simp[Op.operands,Call.operands] at hy;rcases hy with rfl|rfl
    ·simp[Act.eval];exact yB.row.cl
    ·simp[Act.eval];exact di hN3
   ·obtain⟨v',W',e1,e2,e3,e4⟩:=IP wl w.heap.size v rs ⟨gu rs.length,rc,up,ts.length,uc⟩ w2.heap.size (cQ yB.row.row fun g hg _=>aE.heap g (fO G3.aU.ay yB.row.cl g hg.symm)) aa (by rw[aE.size];exact yB.row.low) ((aE.heap _ hN3).trans vz);exact⟨v',W',gm (.tmp 79) (.tmp 81) 35 rfl aC aC e1,e2,e3,e4⟩
   obtain⟨r1,r2,r3⟩:=K0;obtain⟨q1,q2,q3⟩:=lJ.add G3.aU.ay yB.row aE ba r1 r2 r3;have YF:=RB.step FG yB YE DH aa Uo q1 q2 q3;clear r1 r2 r3 q1 q2 q3 ba aE wl aI;refine aA ?_;exact⟨m-1,aa,rs.length+1,aa,eX,eX,aC,aC,by simp[Act.eval,Ja],y,_,_,aC,an,YF⟩
 have SE:ts.length<r.ins.length:=aa;have hj4:ts.length<4:=aa;have acp:(ts.length:Int)<(r.ins.length:Int):=aa;have anm:(ts.length:Int)<4:=aa;obtain⟨es,oi,VO⟩:=in1 (fun e=>by rw[e] at SE;simp at SE);rw[es];rw[es] at RY;have ei2:=(pW.gO.aU.same r.ib aa id).trans (FG.gO.aU.same r.ib VO id);have ci:=(cell_of ei2).trans (in2 ts.length SE);obtain⟨xr1,xr2⟩:=rg3 r.ins[ts.length] (aD SE);generalize r.ins[ts.length]=x at *;refine aA ?_;refine oQ ob rfl ai rfl (v:=.slice (some ⟨r.ib,r.RU,none⟩) r.ins.length r.sc) (fun wl aE=>by simp[go_sem,aE.cell.trans RY]) (fun wl aE x hx=>?_) ?_
 ·simp[go_sem,aE.cell.trans RY] at hx;subst hx;exact⟨_,_,_,rfl,rfl⟩
 refine aA ?_;refine oQ oi rfl ai rfl (v:=.int .i64 x) (fun wl aE=>by simp[go_sem,aE.cell.trans ci]) (fun wl aE x hx=>?_) ?_
 ·simp[go_sem,aE.cell.trans ci] at hx;subst hx;exact⟨_,_,_,rfl,rfl⟩
 walk_nrm;obtain⟨up,ul,uc,OL⟩:=jV pW.row.row;have hul:=Ak pW.row.row OL;subst hul;have c2:=(eE pW.blk).2.2.1;have hwj:IntKind.i64.wrap ((ts.length:Int)+1)=((ts.length+1:Nat):Int):=by rw[IntKind.wrap_i64]<;>omega
 by_cases FP:x<0;rotate_left
 ·have ano:¬x<0:=FP;refine aA ?_;have hp:=lv x (n:=6) aa;have RZ:yA k (je[cW x 6]'hp):=.inl (aD _);have sd:w2.cell? ⟨w.heap.size,cW x 6,none⟩=some (.string (je[cW x 6]'hp)):=by
   have e:=IQ.nb;have YG:iG[cW x 6]?=some (.string (je[cW x 6]'hp)):=by
    rw[iG,fE,fB,cp hp];rfl
   simp[World.cell?,e,YG]
  have hpI:((cW x 6:Nat):Int)<6:=aa;have R1:w.heap.size<w2.heap.size:=IQ.SZ.1;have ZJ:o2 w.heap.size:=IQ.gO.all _ (ag _) R1;generalize je[cW x 6]'hp=nm at *;rw[OL] at c2;refine dq mixed af [some none,some (some (.slice up ts.length uc)),some none,some none,some none,some none,some (some (.int .i64 (cW x 6:Nat))),some none,some (some (.string nm)),none,none,some none,none]
   (S:=RV o1 w1 o2 w2 A (gu k) rc u ts nm 9 10 12) (.inl ⟨rfl,rfl,gi.refl rh,(fun y hy=>by cases hy)⟩) fun v9=>?_
  refine dp ?_;refine bO ?_;refine bK aX rfl rfl rfl ai ai (fun σ o' w' H hS=>?_) ?_
  ·rcases hS with⟨-,-,G,-⟩|⟨u',q,-⟩|⟨u',q,-⟩
   ·have hx:=G.aU.more _ oA;exact rd3 G.aU.ay hx ((cell_of (G.aU.same A pW.al.2.1 id)).trans c2)
   ·rw[H.sg 10 af] at q;cases q
   ·rw[H.sg 10 af] at q;cases q
  refine bO ?_;refine iL rfl rfl ai rfl func19 af rfl (av:=#[.int .i64 x,.int .i64 6]) aC (fun σ o' w' H hS=>?_) ?_
  ·rcases hS with⟨h7,h9,G,-⟩|⟨u',q,-⟩|⟨u',q,-⟩
   ·refine(vC G.aU.ay x 6 xr1 xr2 aa aa).mono ?_;rintro y o3 w3 ⟨rfl,N3⟩;exact⟨rfl,.inl ⟨h7,h9,G.trans (gi.dL N3),fun y hy=>by rw[H.kF [8,7] 9 af] at hy;cases hy⟩⟩
   ·rw[H.sg 10 af] at q;cases q
   ·rw[H.sg 10 af] at q;cases q
  refine bO ?_;refine bK aX rfl rfl rfl ai ai (fun σ o' w' H hS=>?_) ?_
  ·rcases hS with⟨-,-,G,-⟩|⟨u',q,-⟩|⟨u',q,-⟩
   ·have hx:=G.aU.more _ ZJ;exact rd3 G.aU.ay hx ((cell_of (G.aU.same _ R1 id)).trans sd)
   ·rw[H.kF [9] 10 af] at q;cases q
   ·rw[H.kF [9] 10 af] at q;cases q
  walk_nrm;refine mJ aX rfl rfl rfl ai ai (fun σ o' w' H hib hS=>?_) ?_
  ·rcases hS with⟨h7,h9,G,-⟩|⟨u',q,-⟩|⟨u',q,-⟩
   ·refine⟨G.aU.ay,fun y hy=>?_,fun wl v aI=>v=.slice (some ⟨wl.heap.size,0,none⟩) 1 1/\aI=wl.alloc (.cells #[.string nm] 9),fun wl aE=>⟨_,_,by simp[go_sem,Act.eval],rfl,rfl⟩,fun wl y aI w3 aE oR ba=>?_⟩
    ·simp[Op.operands] at hy;subst hy;simp[Act.eval];exact bf
    ·obtain⟨rfl,oR⟩:=oR;obtain⟨z3,k3,vz⟩:=ba.alloc G.aU.ay aE oR;refine .inl ⟨by simpa[dB] using h7,by simpa[dB] using h9,G.trans (gi.tY ba.ay aa k3),fun y hy=>?_⟩;simp only[dB,if_true,en] at hy;exact⟨w'.heap.size,by rw[<- hy,aE.size],G.aU.size,.inr ⟨ag _,aa⟩,vz⟩
   ·rw[H.sg 10 af] at q;cases q
   ·rw[H.sg 10 af] at q;cases q
  walk_nrm;refine mJ aX rfl rfl rfl ai ai (fun σ o' w' H SV hS=>?_) ?_
  ·rcases hS with⟨-,h9,G,hN⟩|⟨u',q,-⟩|⟨u',q,-⟩
   ·obtain⟨Nb,hy,hNz,RE,Ri⟩:=hN _ (H.done 9 af rfl);have hq:=pW.row.gO G;have Yv:=fO G.aU.ay hq.cl;refine⟨G.aU.ay,fun y Fo=>?_,fun wl v aI=>aI.ownsRow w1.heap.size 9 1 v (ts++[nm]).length ((ts++[nm]).map .string)/\wl.grownBy aI u.ownBlock/\(v.ownBlock=u.ownBlock\/v.ownBlock=some wl.heap.size),fun wl aE=>?_,fun wl y aI w3 aE oR ba=>?_⟩
    ·simp[Op.operands,Call.operands] at Fo;rcases Fo with rfl|rfl
     ·simp[Act.eval];rw[<- OL];exact hq.cl
     ·simp[Act.eval];rw[hy];exact di RE
    ·obtain⟨v',W',e1,e2,e3,e4⟩:=xp wl w1.heap.size u ts (nm) Nb (cQ hq.row fun g hg _=>aE.heap g (Yv g hg.symm)) aa (by rw[aE.size];exact hq.low) ((aE.heap _ RE).trans Ri);refine⟨v',W',gm (v:=u) (.tmp 68) (.tmp 76) 40 rfl ?_ (by simp[Act.eval];exact hy) e1,e2,e3,e4⟩;simp[Act.eval];exact OL.symm
    ·obtain⟨r1,r2,r3⟩:=oR;obtain⟨q1,q2,q3⟩:=lJ.add G.aU.ay hq aE ba r1 r2 r3;have zg:=G.aU.size;have z3:=q2.size;have JO:=pW.al.2.1;refine .inr (.inl ⟨y,by simp[dB],by simpa[dB] using h9,(pW.gO.trans G).row (fun b hb=>(hq.lt b hb).1) q2,(q2.same A aa pW.al.2.2).trans ((G.aU.same A JO id).trans pW.blk),⟨pW.al.1,aa,fun e=>?_⟩,q1⟩);rcases q3 A e with q|q
     ·exact pW.al.2.2 q
     ·omega
   ·rw[SV] at q;cases q
   ·rw[SV] at q;cases q
  refine bO ?_;refine jg aX rfl rfl rfl ai ai (fun σ o' w' H his hS=>?_) ?_
  ·rcases hS with⟨q,-⟩|⟨u',q,-,P⟩|⟨u',-,q,-⟩
   ·rw[H.done 10 af rfl] at q;cases q
   ·have hv:v9 10=u':=aK ((H.done 10 af rfl).symm.trans q);have Mq:=P.gO.all A P.al.1 P.al.2.1;obtain⟨p',l',c',hu'⟩:=jV P.row.row;refine⟨P.gO.aU.ay,fun y hy=>?_,fun wl aI=>aI=wl.setCell ⟨A,2,none⟩ u',fun wl aE=>⟨_,?_,rfl⟩,fun wl aI w3 aE oR ba=>?_⟩
    ·simp[Op.operands] at hy;rcases hy with rfl|rfl
     ·simp[Act.eval];exact aH Mq
     ·simp[Act.eval];rw[hv];exact P.row.cl
    ·obtain⟨e0,e1,e2,f0,f1,f2⟩:=eE ((aE.heap _ Mq).trans P.blk);simp[go_sem,Act.eval,hv,hu',e2,f2]
    ·have hO:cN A wl aI:=by rw[oR];exact fW _ _ _ _
     obtain⟨on,kr,e9⟩:=ba.only aE Mq hO;have gw:=ba.ay;rw[e9] at gw |-;have kA:w3.heap[A]?=some (.cells #[.string (gu k),.int .i64 rc,u'] 42):=by
      rw[kr,oR];have e:=(aE.heap _ Mq).trans P.blk;simp[World.setCell,er,e]
     exact .inr (.inr ⟨u',by simpa[dB] using q,by simp[dB],P.gO.wrote P.al.1 gw on,kA,⟨P.al.1,by rw[on.1];exact P.al.2.1,P.al.2.2⟩,P.row.keep (fun _ q=>q) (bq on.1.symm) fun g hg=>on.2 g fun e=>P.al.2.2 (e▸hg)⟩)
   ·exact absurd his q
  walk_nrm;refine cd fun σ o3 w3 kP hS=>?_;rcases hS with⟨q,-⟩|⟨u',-,q,-⟩|⟨u',-,-,P⟩
  ·rw[kP 10 dh rfl] at q;cases q
  ·rw[kP 12 dh rfl] at q;cases q
  clear kP;simp only[gN,cZ,if_true,if_false,reduceIte,Nat.reduceEqDiff];refine aA ?_;exact⟨m2-1,aa,ts.length+1,aa,eX,eX,aC,aC,aC,aC,aC,by simp[Act.eval,hwj],u',ts++[nm],an,(fun z hz=>by
   rcases List.mem_append.1 hz with hz|hz
   ·exact Uo z hz
   ·simp at hz;subst hz;exact RZ),P⟩
 by_cases agL:0<k;rotate_left
 ·have anp:¬(0:Int)<(k:Int):=aa;refine aA ?_;have hp:=lv x (n:=6) aa;have RZ:yA k (je[cW x 6]'hp):=.inl (aD _);have sd:w2.cell? ⟨w.heap.size,cW x 6,none⟩=some (.string (je[cW x 6]'hp)):=by
   have e:=IQ.nb;have YG:iG[cW x 6]?=some (.string (je[cW x 6]'hp)):=by
    rw[iG,fE,fB,cp hp];rfl
   simp[World.cell?,e,YG]
  have hpI:((cW x 6:Nat):Int)<6:=aa;have R1:w.heap.size<w2.heap.size:=IQ.SZ.1;have ZJ:o2 w.heap.size:=IQ.gO.all _ (ag _) R1;generalize je[cW x 6]'hp=nm at *;rw[OL] at c2;refine dq mixed af [some none,some (some (.slice up ts.length uc)),some none,some none,some none,some none,some (some (.int .i64 (cW x 6:Nat))),some none,some (some (.string nm)),none,none,some none,none]
   (S:=RV o1 w1 o2 w2 A (gu k) rc u ts nm 9 10 12) (.inl ⟨rfl,rfl,gi.refl rh,(fun y hy=>by cases hy)⟩) fun v9=>?_
  refine dp ?_;refine bO ?_;refine bK aX rfl rfl rfl ai ai (fun σ o' w' H hS=>?_) ?_
  ·rcases hS with⟨-,-,G,-⟩|⟨u',q,-⟩|⟨u',q,-⟩
   ·have hx:=G.aU.more _ oA;exact rd3 G.aU.ay hx ((cell_of (G.aU.same A pW.al.2.1 id)).trans c2)
   ·rw[H.sg 10 af] at q;cases q
   ·rw[H.sg 10 af] at q;cases q
  refine bO ?_;refine iL rfl rfl ai rfl func19 af rfl (av:=#[.int .i64 x,.int .i64 6]) aC (fun σ o' w' H hS=>?_) ?_
  ·rcases hS with⟨h7,h9,G,-⟩|⟨u',q,-⟩|⟨u',q,-⟩
   ·refine(vC G.aU.ay x 6 xr1 xr2 aa aa).mono ?_;rintro y o3 w3 ⟨rfl,N3⟩;exact⟨rfl,.inl ⟨h7,h9,G.trans (gi.dL N3),fun y hy=>by rw[H.kF [8,7] 9 af] at hy;cases hy⟩⟩
   ·rw[H.sg 10 af] at q;cases q
   ·rw[H.sg 10 af] at q;cases q
  refine bO ?_;refine bK aX rfl rfl rfl ai ai (fun σ o' w' H hS=>?_) ?_
  ·rcases hS with⟨-,-,G,-⟩|⟨u',q,-⟩|⟨u',q,-⟩
   ·have hx:=G.aU.more _ ZJ;exact rd3 G.aU.ay hx ((cell_of (G.aU.same _ R1 id)).trans sd)
   ·rw[H.kF [9] 10 af] at q;cases q
   ·rw[H.kF [9] 10 af] at q;cases q
  walk_nrm;refine mJ aX rfl rfl rfl ai ai (fun σ o' w' H hib hS=>?_) ?_
  ·rcases hS with⟨h7,h9,G,-⟩|⟨u',q,-⟩|⟨u',q,-⟩
   ·refine⟨G.aU.ay,fun y hy=>?_,fun wl v aI=>v=.slice (some ⟨wl.heap.size,0,none⟩) 1 1/\aI=wl.alloc (.cells #[.string nm] 9),fun wl aE=>⟨_,_,by simp[go_sem,Act.eval],rfl,rfl⟩,fun wl y aI w3 aE oR ba=>?_⟩
    ·simp[Op.operands] at hy;subst hy;simp[Act.eval];exact bf
    ·obtain⟨rfl,oR⟩:=oR;obtain⟨z3,k3,vz⟩:=ba.alloc G.aU.ay aE oR;refine .inl ⟨by simpa[dB] using h7,by simpa[dB] using h9,G.trans (gi.tY ba.ay aa k3),fun y hy=>?_⟩;simp only[dB,if_true,en] at hy;exact⟨w'.heap.size,by rw[<- hy,aE.size],G.aU.size,.inr ⟨ag _,aa⟩,vz⟩
   ·rw[H.sg 10 af] at q;cases q
   ·rw[H.sg 10 af] at q;cases q
  walk_nrm;refine mJ aX rfl rfl rfl ai ai (fun σ o' w' H SV hS=>?_) ?_
  ·rcases hS with⟨-,h9,G,hN⟩|⟨u',q,-⟩|⟨u',q,-⟩
   ·obtain⟨Nb,hy,hNz,RE,Ri⟩:=hN _ (H.done 9 af rfl);have hq:=pW.row.gO G;have Yv:=fO G.aU.ay hq.cl;refine⟨G.aU.ay,fun y Fo=>?_,fun wl v aI=>aI.ownsRow w1.heap.size 9 1 v (ts++[nm]).length ((ts++[nm]).map .string)/\wl.grownBy aI u.ownBlock/\(v.ownBlock=u.ownBlock\/v.ownBlock=some wl.heap.size),fun wl aE=>?_,fun wl y aI w3 aE oR ba=>?_⟩
    ·simp[Op.operands,Call.operands] at Fo;rcases Fo with rfl|rfl
     ·simp[Act.eval];rw[<- OL];exact hq.cl
     ·simp[Act.eval];rw[hy];exact di RE
    ·obtain⟨v',W',e1,e2,e3,e4⟩:=xp wl w1.heap.size u ts (nm) Nb (cQ hq.row fun g hg _=>aE.heap g (Yv g hg.symm)) aa (by rw[aE.size];exact hq.low) ((aE.heap _ RE).trans Ri);refine⟨v',W',gm (v:=u) (.tmp 68) (.tmp 76) 40 rfl ?_ (by simp[Act.eval];exact hy) e1,e2,e3,e4⟩;simp[Act.eval];exact OL.symm
    ·obtain⟨r1,r2,r3⟩:=oR;obtain⟨q1,q2,q3⟩:=lJ.add G.aU.ay hq aE ba r1 r2 r3;have zg:=G.aU.size;have z3:=q2.size;have JO:=pW.al.2.1;refine .inr (.inl ⟨y,by simp[dB],by simpa[dB] using h9,(pW.gO.trans G).row (fun b hb=>(hq.lt b hb).1) q2,(q2.same A aa pW.al.2.2).trans ((G.aU.same A JO id).trans pW.blk),⟨pW.al.1,aa,fun e=>?_⟩,q1⟩);rcases q3 A e with q|q
     ·exact pW.al.2.2 q
     ·omega
   ·rw[SV] at q;cases q
   ·rw[SV] at q;cases q
  refine bO ?_;refine jg aX rfl rfl rfl ai ai (fun σ o' w' H his hS=>?_) ?_
  ·rcases hS with⟨q,-⟩|⟨u',q,-,P⟩|⟨u',-,q,-⟩
   ·rw[H.done 10 af rfl] at q;cases q
   ·have hv:v9 10=u':=aK ((H.done 10 af rfl).symm.trans q);have Mq:=P.gO.all A P.al.1 P.al.2.1;obtain⟨p',l',c',hu'⟩:=jV P.row.row;refine⟨P.gO.aU.ay,fun y hy=>?_,fun wl aI=>aI=wl.setCell ⟨A,2,none⟩ u',fun wl aE=>⟨_,?_,rfl⟩,fun wl aI w3 aE oR ba=>?_⟩
    ·simp[Op.operands] at hy;rcases hy with rfl|rfl
     ·simp[Act.eval];exact aH Mq
     ·simp[Act.eval];rw[hv];exact P.row.cl
    ·obtain⟨e0,e1,e2,f0,f1,f2⟩:=eE ((aE.heap _ Mq).trans P.blk);simp[go_sem,Act.eval,hv,hu',e2,f2]
    ·have hO:cN A wl aI:=by rw[oR];exact fW _ _ _ _
     obtain⟨on,kr,e9⟩:=ba.only aE Mq hO;have gw:=ba.ay;rw[e9] at gw |-;have kA:w3.heap[A]?=some (.cells #[.string (gu k),.int .i64 rc,u'] 42):=by
      rw[kr,oR];have e:=(aE.heap _ Mq).trans P.blk;simp[World.setCell,er,e]
     exact .inr (.inr ⟨u',by simpa[dB] using q,by simp[dB],P.gO.wrote P.al.1 gw on,kA,⟨P.al.1,by rw[on.1];exact P.al.2.1,P.al.2.2⟩,P.row.keep (fun _ q=>q) (bq on.1.symm) fun g hg=>on.2 g fun e=>P.al.2.2 (e▸hg)⟩)
   ·exact absurd his q
  walk_nrm;refine cd fun σ o3 w3 kP hS=>?_;rcases hS with⟨q,-⟩|⟨u',-,q,-⟩|⟨u',-,-,P⟩
  ·rw[kP 10 dh rfl] at q;cases q
  ·rw[kP 12 dh rfl] at q;cases q
  clear kP;simp only[gN,cZ,if_true,if_false,reduceIte,Nat.reduceEqDiff];refine aA ?_;exact⟨m2-1,aa,ts.length+1,aa,eX,eX,aC,aC,aC,aC,aC,by simp[Act.eval,hwj],u',ts++[nm],an,(fun z hz=>by
   rcases List.mem_append.1 hz with hz|hz
   ·exact Uo z hz
   ·simp at hz;subst hz;exact RZ),P⟩
 ·have acv:x<0/\0<k:=⟨FP,agL⟩;have Gc:(0:Int)<(k:Int):=aa;have hp:=lv x (n:=k) acv.2;have RZ:yA k (gu (cW x k)):=.inr ⟨_,hp,rfl⟩;refine aA ?_;rw[OL] at c2;refine dq mixed af [some none,some (some (.slice up ts.length uc)),some none,some none,some (some (.int .i64 (cW x k:Nat))),some (some (.string (gu (cW x k)))),none,none,some none,none]
   (S:=RV o1 w1 o2 w2 A (gu k) rc u ts (gu (cW x k)) 6 7 9) (.inl ⟨rfl,rfl,gi.refl rh,(fun y hy=>by cases hy)⟩) fun v9=>?_
  refine dp ?_;refine bO ?_;refine bK aX rfl rfl rfl ai ai (fun σ o' w' H hS=>?_) ?_
  ·rcases hS with⟨-,-,G,-⟩|⟨u',q,-⟩|⟨u',q,-⟩
   ·have hx:=G.aU.more _ oA;exact rd3 G.aU.ay hx ((cell_of (G.aU.same A pW.al.2.1 id)).trans c2)
   ·rw[H.sg 7 af] at q;cases q
   ·rw[H.sg 7 af] at q;cases q
  refine bO ?_;refine iL rfl rfl ai rfl func19 af rfl (av:=#[.int .i64 x,.int .i64 k]) aC (fun σ o' w' H hS=>?_) ?_
  ·rcases hS with⟨h7,h9,G,-⟩|⟨u',q,-⟩|⟨u',q,-⟩
   ·refine(vC G.aU.ay x k xr1 xr2 acv.2 aa).mono ?_;rintro y o3 w3 ⟨rfl,N3⟩;exact⟨rfl,.inl ⟨h7,h9,G.trans (gi.dL N3),fun y hy=>by rw[H.kF [5] 6 af] at hy;cases hy⟩⟩
   ·rw[H.kF [5] 7 af] at q;cases q
   ·rw[H.kF [5] 7 af] at q;cases q
  walk_nrm;refine iL rfl rfl ai rfl func15 af rfl (av:=#[.int .i64 (cW x k:Nat)]) aC (fun σ o' w' H hS=>?_) ?_
  ·rcases hS with⟨h7,h9,G,-⟩|⟨u',q,-⟩|⟨u',q,-⟩
   ·refine(Wo G.aU.ay (cW x k) aa).mono ?_;rintro y o3 w3 ⟨rfl,N3⟩;exact⟨rfl,.inl ⟨h7,h9,G.trans (gi.dL N3),fun y hy=>by rw[H.sg 6 af] at hy;cases hy⟩⟩
   ·rw[H.sg 7 af] at q;cases q
   ·rw[H.sg 7 af] at q;cases q
  walk_nrm;refine mJ aX rfl rfl rfl ai ai (fun σ o' w' H hib hS=>?_) ?_
  ·rcases hS with⟨h7,h9,G,-⟩|⟨u',q,-⟩|⟨u',q,-⟩
   ·refine⟨G.aU.ay,fun y hy=>?_,fun wl v aI=>v=.slice (some ⟨wl.heap.size,0,none⟩) 1 1/\aI=wl.alloc (.cells #[.string (gu (cW x k))] 9),fun wl aE=>⟨_,_,by simp[go_sem,Act.eval],rfl,rfl⟩,fun wl y aI w3 aE oR ba=>?_⟩
    ·simp[Op.operands] at hy;subst hy;simp[Act.eval];exact bf
    ·obtain⟨rfl,oR⟩:=oR;obtain⟨z3,k3,vz⟩:=ba.alloc G.aU.ay aE oR;refine .inl ⟨by simpa[dB] using h7,by simpa[dB] using h9,G.trans (gi.tY ba.ay aa k3),fun y hy=>?_⟩;simp only[dB,if_true,en] at hy;exact⟨w'.heap.size,by rw[<- hy,aE.size],G.aU.size,.inr ⟨ag _,aa⟩,vz⟩
   ·rw[H.sg 7 af] at q;cases q
   ·rw[H.sg 7 af] at q;cases q
  walk_nrm;refine mJ aX rfl rfl rfl ai ai (fun σ o' w' H SV hS=>?_) ?_
  ·rcases hS with⟨-,h9,G,hN⟩|⟨u',q,-⟩|⟨u',q,-⟩
   ·obtain⟨Nb,hy,hNz,RE,Ri⟩:=hN _ (H.done 6 af rfl);have hq:=pW.row.gO G;have Yv:=fO G.aU.ay hq.cl;refine⟨G.aU.ay,fun y Fo=>?_,fun wl v aI=>aI.ownsRow w1.heap.size 9 1 v (ts++[(gu (cW x k))]).length ((ts++[(gu (cW x k))]).map .string)/\wl.grownBy aI u.ownBlock/\(v.ownBlock=u.ownBlock\/v.ownBlock=some wl.heap.size),fun wl aE=>?_,fun wl y aI w3 aE oR ba=>?_⟩
    ·simp[Op.operands,Call.operands] at Fo;rcases Fo with rfl|rfl
     ·simp[Act.eval];rw[<- OL];exact hq.cl
     ·simp[Act.eval];rw[hy];exact di RE
    ·obtain⟨v',W',e1,e2,e3,e4⟩:=xp wl w1.heap.size u ts ((gu (cW x k))) Nb (cQ hq.row fun g hg _=>aE.heap g (Yv g hg.symm)) aa (by rw[aE.size];exact hq.low) ((aE.heap _ RE).trans Ri);refine⟨v',W',gm (v:=u) (.tmp 59) (.tmp 64) 40 rfl ?_ (by simp[Act.eval];exact hy) e1,e2,e3,e4⟩;simp[Act.eval];exact OL.symm
    ·obtain⟨r1,r2,r3⟩:=oR;obtain⟨q1,q2,q3⟩:=lJ.add G.aU.ay hq aE ba r1 r2 r3;have zg:=G.aU.size;have z3:=q2.size;have JO:=pW.al.2.1;refine .inr (.inl ⟨y,by simp[dB],by simpa[dB] using h9,(pW.gO.trans G).row (fun b hb=>(hq.lt b hb).1) q2,(q2.same A aa pW.al.2.2).trans ((G.aU.same A JO id).trans pW.blk),⟨pW.al.1,aa,fun e=>?_⟩,q1⟩);rcases q3 A e with q|q
     ·exact pW.al.2.2 q
     ·omega
   ·rw[SV] at q;cases q
   ·rw[SV] at q;cases q
  refine bO ?_;refine jg aX rfl rfl rfl ai ai (fun σ o' w' H his hS=>?_) ?_
  ·rcases hS with⟨q,-⟩|⟨u',q,-,P⟩|⟨u',-,q,-⟩
   ·rw[H.done 7 af rfl] at q;cases q
   ·have hv:v9 7=u':=aK ((H.done 7 af rfl).symm.trans q);have Mq:=P.gO.all A P.al.1 P.al.2.1;obtain⟨p',l',c',hu'⟩:=jV P.row.row;refine⟨P.gO.aU.ay,fun y hy=>?_,fun wl aI=>aI=wl.setCell ⟨A,2,none⟩ u',fun wl aE=>⟨_,?_,rfl⟩,fun wl aI w3 aE oR ba=>?_⟩
    ·simp[Op.operands] at hy;rcases hy with rfl|rfl
     ·simp[Act.eval];exact aH Mq
     ·simp[Act.eval];rw[hv];exact P.row.cl
    ·obtain⟨e0,e1,e2,f0,f1,f2⟩:=eE ((aE.heap _ Mq).trans P.blk);simp[go_sem,Act.eval,hv,hu',e2,f2]
    ·have hO:cN A wl aI:=by rw[oR];exact fW _ _ _ _
     obtain⟨on,kr,e9⟩:=ba.only aE Mq hO;have gw:=ba.ay;rw[e9] at gw |-;have kA:w3.heap[A]?=some (.cells #[.string (gu k),.int .i64 rc,u'] 42):=by
      rw[kr,oR];have e:=(aE.heap _ Mq).trans P.blk;simp[World.setCell,er,e]
     exact .inr (.inr ⟨u',by simpa[dB] using q,by simp[dB],P.gO.wrote P.al.1 gw on,kA,⟨P.al.1,by rw[on.1];exact P.al.2.1,P.al.2.2⟩,P.row.keep (fun _ q=>q) (bq on.1.symm) fun g hg=>on.2 g fun e=>P.al.2.2 (e▸hg)⟩)
   ·exact absurd his q
  walk_nrm;refine cd fun σ o3 w3 kP hS=>?_;rcases hS with⟨q,-⟩|⟨u',-,q,-⟩|⟨u',-,-,P⟩
  ·rw[kP 7 dh rfl] at q;cases q
  ·rw[kP 9 dh rfl] at q;cases q
  clear kP;simp only[gN,cZ,if_true,if_false,reduceIte,Nat.reduceEqDiff];refine aA ?_;exact⟨m2-1,aa,ts.length+1,aa,eX,eX,aC,aC,aC,aC,aC,by simp[Act.eval,hwj],u',ts++[(gu (cW x k))],an,(fun z hz=>by
   rcases List.mem_append.1 hz with hz|hz
   ·exact Uo z hz
   ·simp at hz;subst hz;exact RZ),P⟩
end
section
open Go.ChangeShapes Go.WideShapes Go.Deep
section
variable {H:Type} {enc:TypeId×Value->H} {W:ae} {base:Nat}
theorem rV{P:Program}{t e:TypeId}{v:Value}(ht:P.underlying t=some (.slice e))(h:Value.okWide P W .any base t v):∃a l c,v=.slice a l c:=by
 unfold Value.okWide at h;rw[ht] at h;simp only at h;unfold Cell.okWide at h;rw[ht] at h;cases v with
 |slice a l c=>exact⟨a,l,c,rfl⟩
 |_=>simp[Cell.ok,ht] at h
theorem IS{n:Int}(h:(Lit.int .i64 n).wf=true):-9223372036854775808<=n/\n<=9223372036854775807:=by
 simp[Lit.wf,IntKind.min,IntKind.max,IntKind.signed,IntKind.bits] at h;omega
structure Mr(W:ae)(a:Addr)(i:Nat)(r:FF):Prop where
 c0:W.cell? (a.add (i*2))=some (.int .i64 r.eD)
 c1:W.cell? (a.add (i*2+1))=some (.slice r.sa r.ins.length r.sc)
 ptr:r.ins≠[]->r.sa=some ⟨r.ib,r.RU,none⟩/\r.ib<W.heap.size
 ins:∀j (h:j<r.ins.length),W.cell? ⟨r.ib,r.RU+j,none⟩=some (.int .i64 r.ins[j])
 Wp:(-9223372036854775808<=r.eD/\r.eD<=9223372036854775807)/\∀x∈r.ins,-9223372036854775808<=x/\x<=9223372036854775807
 Eu:r.ins.length<=9223372036854775807
theorem Cg{b off i:Nat}:(⟨b,off,none⟩:Addr).add i=⟨b,off+i,none⟩:=by
 unfold Addr.add;split
 ·rename_i h;subst h;rfl
 ·rfl
theorem R2{v:Value}{d:DataW H}{ps:List MemPlace}(hv:Value.okWide ar W .any base 25 v)(h:DataW.Trod enc ar W 0 (fun _=>true) true 25 v d ps):
  ∃p b off c rw,v=.slice p (List.length rw) c/\(rw≠[]->p=some ⟨b,off,none⟩/\b<W.heap.size)/\(∀i (h:i<rw.length),Mr W ⟨b,off,none⟩ i rw[i])/\rw.length<=9223372036854775807:=by
 haveI:Inhabited FF:=⟨⟨0,[],none,0,0,0⟩⟩
 obtain⟨a0,l0,cp0,rfl⟩:=rV underlying25 hv;obtain⟨fuel,h⟩:=h;have hc:(Value.slice a0 l0 cp0).cells.toList=[.slice a0 l0 cp0]:=rfl;rw[hc] at h;rcases open_slice_pairs underlying25 underlying132 af rfl rfl af af h with⟨e,-⟩|⟨a,len,cap,m,n,V0,V1,D0,D1,P0,P1,e,-,hl,hm,hmm,-,gY⟩
 ·simp only[aac,Value.slice.injEq,and_true] at e;obtain⟨rfl,rfl,rfl⟩:=e;exact⟨none,0,0,0,[],rfl,fun q=>absurd rfl q,fun i hi=>by simp at hi,an⟩
 simp only[aac,Value.slice.injEq,and_true] at e;obtain⟨rfl,rfl,rfl⟩:=e;simp only[if_true] at hmm;subst hmm;have each:∀i,i<l0->∃r,Mr W a i r:=by
  intro i hi;obtain⟨k0,k1,t0,t1⟩:=gY i aa;obtain⟨x,ex,-,wx⟩:=DataW.trod_int underlying3 t0;simp only[aac,and_true] at ex;rw[ex] at k0;rcases open_ints underlying130 underlying3 af t1 with⟨e1,-⟩|⟨a1,R3,agM,zs,e1,-,uW,hm1,hz,-,hcz,hwz⟩
  ·simp only[aac,and_true] at e1;rw[e1] at k1;exact⟨⟨x,[],none,0,0,0⟩,k0,k1,fun q=>absurd rfl q,fun j hj=>by simp at hj,⟨IS wx,an⟩,an⟩
  ·simp only[aac,and_true] at e1;rw[e1] at k1;simp only[if_true] at hz;have hlz:(zs.take R3).length=R3:=eR;refine⟨⟨x,zs.take R3,some a1,a1.block,a1.off,agM⟩,k0,by rw[k1];simp only[hlz],fun q=>?_,fun j hj=>?_,⟨IS wx,fun y hy=>IS (hwz y (List.mem_of_mem_take hy))⟩,by simp only[hlz];have:=hm1;simp only[maxLen] at this;omega⟩
   ·have h0:0<R3:=by
     rcases aZ R3 with h0|h0
     ·subst h0;exact absurd an q
     ·exact h0
    have MX:=hcz 0 aa;have hs:=World.cell?_spot MX;have hb:=World.block_lt_of_cell? W _ MX;rw[block_add] at hb;obtain⟨b1,o1,s1⟩:=a1;have:s1=none:=by simpa[Addr.add] using hs
    subst this;exact⟨rfl,hb⟩
   ·simp only[hlz] at hj;have MX:=hcz 0 aa;have hs:=World.cell?_spot MX;obtain⟨b1,o1,s1⟩:=a1;have:s1=none:=by simpa[Addr.add] using hs
    subst this;have:=hcz j aa;rw[Cg] at this;rw[this];simp[List.getD,cp (show j<zs.length by omega)]
 obtain⟨q,hq⟩:=choose_lt each;have hlen:((List.range l0).map q).length=l0:=an;refine⟨some a,a.block,a.off,m,(List.range l0).map q,by rw[hlen],fun cV=>?_,fun i hi=>?_,by rw[hlen];simp only[maxLen] at hm;omega⟩
 ·have h0:0<l0:=by
   rcases aZ l0 with h0|h0
   ·subst h0;exact absurd an cV
   ·exact h0
  have MX:=(hq 0 h0).c0;have hs:=World.cell?_spot MX;have hb:=World.block_lt_of_cell? W _ MX;rw[block_add] at hb;obtain⟨b1,o1,s1⟩:=a;have:s1=none:=by simpa[Addr.add] using hs
  subst this;exact⟨rfl,hb⟩
 ·rw[hlen] at hi;have hs:=World.cell?_spot (hq 0 aa).c0;obtain⟨b1,o1,s1⟩:=a;have:s1=none:=by simpa[Addr.add] using hs
  subst this;simpa using hq i hi
structure Lh(W:ae)(a:Addr)(i:Nat)(x:Int×Int×Int):Prop where
 c0:W.cell? (a.add (i*3))=some (.int .i64 x.1)
 c1:W.cell? (a.add (i*3+1))=some (.int .i64 x.2.1)
 c2:W.cell? (a.add (i*3+2))=some (.int .i64 x.2.2)
 Wp:(-9223372036854775808<=x.2.1/\x.2.1<=9223372036854775807)/\(-9223372036854775808<=x.2.2/\x.2.2<=9223372036854775807)
theorem R4{v:Value}{d:DataW H}{ps:List MemPlace}(hv:Value.okWide ar W .any base 26 v)(h:DataW.Trod enc ar W 0 (fun _=>true) true 26 v d ps)(hw:∀x∈d.weights ar 26,x<=reachBytes):
  ∃p b off c xs,v=.slice p (List.length xs) c/\(xs≠[]->p=some ⟨b,off,none⟩/\b<W.heap.size)/\(∀i (h:i<xs.length),Lh W ⟨b,off,none⟩ i xs[i])/\xs.length*24<=140737488355328:=by
 obtain⟨a0,l0,cp0,rfl⟩:=rV underlying26 hv;obtain⟨fuel,h⟩:=h;have hc:(Value.slice a0 l0 cp0).cells.toList=[.slice a0 l0 cp0]:=rfl;rw[hc] at h;have ce:ar.cellsOf 30=3:=af;have c3:ar.cellsOf 3=1:=af;have by_:ar.bytesOf 30=24:=af;rcases open_slice underlying26 h with⟨e,-⟩|⟨a,len,cap,m,n,D,Pl,e,-,hl,hm,hmm,hx,gY⟩
 ·simp only[aac,Value.slice.injEq,and_true] at e;obtain⟨rfl,rfl,rfl⟩:=e;exact⟨none,0,0,0,[],rfl,fun q=>absurd rfl q,fun i hi=>by simp at hi,an⟩
 simp only[aac,Value.slice.injEq,and_true] at e;obtain⟨rfl,rfl,rfl⟩:=e;simp only[if_true] at hmm;subst hmm;have each:∀i,i<l0->∃x:Int×Int×Int,Lh W a i x:=by
  intro i hi;obtain⟨Ct,h1,h2⟩:=gY i aa;rw[ce] at h1;obtain⟨_,hlen,kZ⟩:=World.cells?_some h1;obtain⟨xs,k,hk,Vr,_,Zv,hf⟩:=DataW.trod_struct underlying30 h2
  match Ct,hlen with
  | [v0,v1,v2],_ =>
   have g0:=hf 0 _ rfl;have g1:=hf 1 _ rfl;have g2:=hf 2 _ rfl;have e0:=kZ 0 aa;have e1:=kZ 1 aa;have e2:=kZ 2 aa;rw[add_add] at e0 e1 e2
   match xs,Zv with
   | [y0,y1,y2],_ =>
    simp[c3] at g0 g1 g2;obtain⟨n0,k0,-,w0⟩:=DataW.trod_int underlying3 g0;obtain⟨n1,k1,-,w1⟩:=DataW.trod_int underlying3 g1;obtain⟨n2,k2,-,w2⟩:=DataW.trod_int underlying3 g2;simp only[aac,and_true] at k0 k1 k2;subst k0 k1 k2;exact⟨(n0,n1,n2),by simpa using e0,by simpa using e1,by simpa using e2,IS w1,IS w2⟩
 obtain⟨q,hq⟩:=choose_lt each;have hlen:((List.range l0).map q).length=l0:=an;have Bt:l0*24<=140737488355328:=by
  have hd:=(Prod.mk.inj hx).1;have:=hw ((l0+(m-l0))*24) (by
   rw[hd];simp only[DataW.weights,underlying26,by_,List.length_map,List.length_range];exact iY)
  simp only[reachBytes] at this;omega
 refine⟨some a,a.block,a.off,m,(List.range l0).map q,by rw[hlen],fun cV=>?_,fun i hi=>?_,by rw[hlen];exact Bt⟩
 ·have h0:0<l0:=by
   rcases aZ l0 with h0|h0
   ·subst h0;exact absurd an cV
   ·exact h0
  have MX:=(hq 0 h0).c0;have hs:=World.cell?_spot MX;have hb:=World.block_lt_of_cell? W _ MX;rw[block_add] at hb;obtain⟨b1,o1,s1⟩:=a;have:s1=none:=by simpa[Addr.add] using hs
  subst this;exact⟨rfl,hb⟩
 ·rw[hlen] at hi;have hs:=World.cell?_spot (hq 0 aa).c0;obtain⟨b1,o1,s1⟩:=a;have:s1=none:=by simpa[Addr.add] using hs
  subst this;simpa using hq i hi
end
end
def FH(x:ah):Nat:=if x=gu 1 then 1 else if x=gu 2 then 2 else if x=gu 3 then 3 else if x=gu 4 then 4 else if x=gu 5 then 5 else if x=gu 6 then 6 else if x=gu 7 then 7 else 0
theorem xq{i:Nat}(h:i<8):FH (gu i)=i:=by
 have cV:∀j,j<8->i≠j->gu i≠gu j:=fun j hj e q=>e (IB h hj q);unfold FH;rcases B9 h with rfl|rfl|rfl|rfl|rfl|rfl|rfl|rfl;all_goals simp[cV 1 aa,cV 2 aa,cV 3 aa,cV 4 aa,cV 5 aa,cV 6 aa,cV 7 aa]
theorem tZ{x:ah}(h1:1<=x.data.size)(h4:x.data.size<=4)(h:∀u∈x.data.toList,97<=u.toNat/\u.toNat<=122):isName x:=by
 refine⟨h1,h4,fun j hj _=>?_⟩;have:x[j]∈x.data.toList:=by
  show x.data[j]∈x.data.toList;simp
 exact h _ this
theorem zt{i:Nat}(h:i<8):isName (gu i):=by
 have e:=tW i h;refine tZ (by rw[e];simp) (by rw[e];simp) (fun u hu=>?_);rw[e] at hu;rcases B9 h with rfl|rfl|rfl|rfl|rfl|rfl|rfl|rfl;all_goals (simp at hu;rcases hu with rfl|rfl<;>decide)
theorem xr{x:ah}(h:x∈je):isName x:=by
 simp only[je,gQ,aad,or_false] at h;rcases h with rfl|rfl|rfl|rfl|rfl|rfl;all_goals exact tZ dh dh (fun u hu=>by simp at hu;subst hu;decide)
def xu(rs:List aL)(NM:aL->List ah)(NB:aL->Nat)(b g:Nat):Prop:=(rs≠[]/\g=b)\/∃r∈rs,NM r≠[]/\g=NB r
section
variable {Fin:bH} {o o':aM} {w w':ae} {K:sj} {s s':kT}
theorem RB.hand{v:Value}{rs:List aL}{tC:Nat->List ah}(h:RB o w v rs tC o' w')(hl:rs.length<=8):∃p b c,v=.slice p rs.length c/\Hand o' w' p b c rs (fun r=>tC (FH r.out)) (fun r=>(r.sa.map (·.block)).getD 0) FH/\(∀g,xu rs (fun r=>tC (FH r.out)) (fun r=>(r.sa.map (·.block)).getD 0) b g->w.heap.size<=g/\g<w'.heap.size):=by
 have nT:∀j (hj:j<rs.length),tC (FH rs[j].out)=tC j:=fun j hj=>by rw[(h.each j hj).1,xq aa]
 have hY:Cc rs (fun r=>tC (FH r.out)) FH:=by
  refine⟨fun r hr=>?_,fun r hr x hx=>?_,fun r hr=>?_,?_,fun r hr x hx ho=>?_⟩
  ·obtain⟨j,hj,rfl⟩:=a8 hr;rw[(h.each j hj).1];exact zt aa
  ·obtain⟨j,hj,rfl⟩:=a8 hr;simp only[nT j hj] at hx;rcases(h.each j hj).2.2.2.1 x hx with q|⟨q,hq,rfl⟩
   ·exact xr q
   ·exact zt aa
  ·obtain⟨j,hj,rfl⟩:=a8 hr;exact(h.each j hj).2.1
  ·refine List.pairwise_iff_getElem.2 fun i j hi hj DU e=>?_;have lQ:i<rs.length:=by simpa using hi
   have rY:j<rs.length:=by simpa using hj
   simp only[List.getElem_map,(h.each i lQ).1,(h.each j rY).1] at e;have:=IB aa aa e;omega
  ·obtain⟨j,hj,rfl⟩:=a8 hr;simp only[nT j hj] at hx;rw[(h.each j hj).1,xq aa];rcases(h.each j hj).2.2.2.1 x hx with q|⟨q,hq,rfl⟩
   ·obtain⟨r2,Kp,rfl⟩:=List.mem_map.1 ho;obtain⟨i,hi,rfl⟩:=a8 Kp;rw[(h.each i hi).1] at q;exact absurd q (Ej i aa)
   ·rw[xq aa];exact hq
 have CU:∀r∈rs,FH r.out<rs.length:=fun r hr=>by
  obtain⟨j,hj,rfl⟩:=a8 hr;rw[(h.each j hj).1,xq aa];exact hj
 have xV:∀r∈rs,r.sl=(tC (FH r.out)).length/\(tC (FH r.out)≠[]->r.sa=some ⟨(r.sa.map (·.block)).getD 0,0,none⟩/\o' ((r.sa.map (·.block)).getD 0))/\dP w' ((r.sa.map (·.block)).getD 0) 0 (tC (FH r.out))/\(tC (FH r.out)).length<=4:=fun r hr=>by
  obtain⟨j,hj,rfl⟩:=a8 hr;obtain⟨e1,e2,e3,e4,e5,e6⟩:=h.each j hj;rw[nT j hj];rcases e6 with⟨q1,q2⟩|⟨g,q1,q2,q3,q4,q5⟩
  ·rw[q2];exact⟨by rw[e5,q2],fun q=>absurd rfl q,(fun i hi=>by simp at hi),an⟩
  ·rw[q1];exact⟨e5,fun _=>⟨rfl,h.gO.all g q2 q3⟩,q5,e3⟩
 have PT:∀r∈rs,r.sa=none->tC (FH r.out)=[]:=fun r hr e=>by
  obtain⟨j,hj,rfl⟩:=a8 hr;rw[nT j hj];rcases(h.each j hj).2.2.2.2.2 with⟨q1,q2⟩|⟨g,q1,-⟩
  ·exact q2
  ·rw[q1] at e;cases e
 have Nc:∀b,(rs≠[]->w.heap.size<=b/\b<w'.heap.size)->∀g,xu rs (fun r=>tC (FH r.out)) (fun r=>(r.sa.map (·.block)).getD 0) b g->w.heap.size<=g/\g<w'.heap.size:=fun b hb g hg=>by
  rcases hg with⟨q1,rfl⟩|⟨r,hr,q1,rfl⟩
  ·exact hb q1
  ·obtain⟨j,hj,rfl⟩:=a8 hr;simp only[nT j hj] at q1;rcases(h.each j hj).2.2.2.2.2 with⟨-,q2⟩|⟨g,q2,q3,q4,-⟩
   ·exact absurd q2 q1
   ·simp only[q2,cR,y7];exact⟨q3,q4⟩
 have b6:=h.row.row;have eY:=h.row.cl;obtain⟨h0,hc⟩:=h.row.row;rcases hc with⟨e1,e2⟩|⟨g,cap,cur,e1,k1,k2,k3,k4,k5,k6⟩
 ·have OJ:=List.length_eq_zero_iff.1 e2;subst e1;refine⟨none,0,0,by rw[e2],⟨hl,fun q=>absurd OJ q,fun _=>OJ,fun i hi=>by rw[OJ] at hi;simp at hi,by rw[e2];exact gS,aa,xV,PT,hY,CU⟩,Nc 0 fun q=>absurd OJ q⟩
 ·subst e1;have QV:g<w'.heap.size:=(Array.getElem?_eq_some_iff.1 k2).1;refine⟨some ⟨g,0,none⟩,g,cap,rfl,⟨hl,fun _=>⟨rfl,h.gO.all g k1 QV⟩,(fun e=>by cases e),fun i hi=>?_,eY,k3,xV,PT,hY,CU⟩,Nc g fun _=>⟨k1,QV⟩⟩;have kZ:∀j u,(dM rs)[j]?=some u->w'.cell? ⟨g,j,none⟩=some u:=fun j u hu=>by
   have:=b6.cells (g:=g) rfl j u hu;have ha:(⟨g,0,none⟩:Addr).add j=⟨g,j,none⟩:=by simp[Addr.add];omega
   rw[ha] at this;exact this
  obtain⟨c0,c1,c2⟩:=na rs i hi;exact⟨kZ _ _ c0,kZ _ _ c1,kZ _ _ c2⟩
theorem kX.YH{F:dm}{file:ah->V}{v:Value}(h:kX K s s' F file v)(hp:s.phase<=1)(hq:0<s.qn.length):v=did 1 aN/\s'=kT.stand {s with qv:=.slice none 0 0,qn:=[],lost:=false} 1 s.time:=by
 rcases h with⟨h2,-⟩|⟨h2,-⟩|⟨-,-,h4⟩
 ·omega
 ·omega
 ·rcases h4 with⟨-,e1,e2⟩|⟨q,-⟩|⟨q,-⟩
  ·exact⟨e1,e2⟩
  ·exact absurd (.inl hq) q
  ·exact absurd (.inl hq) q
theorem kX.start{F:dm}{file:ah->V}{v:Value}(h:kX K s s' F file v)(hp:s.phase=1)(hq:s.qn=[])(hl:s.lost=false)(ht:s.since+5<=s.time):v=did 2 aN/\∃lo F' SX,s'={s.stand 2 0 with fd:=some (lo,F'),sv:=SX,src:=iq K.B.NM K.B.rs}:=by
 have hn:¬(0<s.qn.length\/s.lost=true):=by rw[hq,hl];simp
 rcases h with⟨h2,-⟩|⟨h2,-⟩|⟨-,-,h4⟩
 ·omega
 ·omega
 ·rcases h4 with⟨q,-⟩|⟨-,-,e1,e2⟩|⟨-,q,-⟩
  ·exact absurd q hn
  ·exact⟨e1,e2⟩
  ·exact absurd ⟨hp,ht⟩ q
theorem kX.acy{F:dm}{file:ah->V}{v:Value}(h:kX K s s' F file v)(hp:s.phase=2)(hr:s.rd.length<s.src.length):v=did 3 s.src[s.rd.length]/\∃SW,s'={s with rv:=SW,rd:=s.rd++[(jE s.th s.src[s.rd.length],dC s.st s.src[s.rd.length])]}:=by
 rcases h with⟨-,h3⟩|⟨h2,-⟩|⟨h2,-,-⟩
 ·rcases h3 with⟨q,-⟩|⟨q,e1,e2⟩
  ·omega
  ·exact⟨e1,e2⟩
 ·omega
 ·exact absurd hp h2
theorem kX.check{F:dm}{file:ah->V}{v:Value}(h:kX K s s' F file v)(hp:s.phase=2\/s.phase=3)(hr:s.rd.length=s.src.length)(hc:s.ck<s.src.length)(GG:s.ck<s.rd.length)(he:dC s.st s.src[s.ck]=s.rd[s.ck].2):v=did 4 s.src[s.ck]/\s'={s with phase:=3,ck:=s.ck+1}:=by
 have chk:∀s s':kT,Checked K s s' F file v->s.ck<s.src.length->∀(hc:s.ck<s.src.length) (GG:s.ck<s.rd.length),dC s.st s.src[s.ck]=s.rd[s.ck].2->v=did 4 s.src[s.ck]/\s'={s with ck:=s.ck+1}:=fun s s' h hk hc GG he=>by
  rcases h with⟨q,-⟩|⟨q1,q2,⟨q3,-⟩|⟨-,e1,e2⟩⟩
  ·omega
  ·exact absurd he q3
  ·exact⟨e1,e2⟩
 rcases h with⟨-,h3⟩|⟨h2,h3⟩|⟨h2,h3,-⟩
 ·rcases h3 with⟨-,q⟩|⟨q,-⟩
  ·exact chk {s with phase:=3} s' q hc hc GG he
  ·omega
 ·obtain⟨e1,e2⟩:=chk s s' h3 hc hc GG he;exact⟨e1,by rw[e2,<- h2]⟩
 ·exact absurd hp aa
theorem kX.U0{F:dm}{file:ah->V}{v:Value}(h:kX K s s' F file v)(hp:s.phase=3)(hc:s.ck=s.src.length):v=did 6 aN/\Wk K s s' F file:=by
 rcases h with⟨h2,-⟩|⟨-,h3⟩|⟨-,h3,-⟩
 ·omega
 ·rcases h3 with⟨-,e1,e2⟩|⟨q,-⟩
  ·exact⟨e1,e2⟩
  ·omega
 ·exact absurd hp h3
end
open Go.ConcR (Payload)
section
variable {Fin:bH} {o o' o1 o2 o3:aM} {w w' w1 w2 w3:ae} {K:sj} {lab eN gP lab':Nat->Nat}
def Kept(o:aM)(w:ae)(lab:Nat->Nat)(L:List (Nat×Obj)):Prop:=∀p∈L,o p.1/\lab p.1=7/\w.heap[p.1]?=some p.2
theorem Kept.lt{L:List (Nat×Obj)}(h:Kept o w lab L):∀p∈L,p.1<w.heap.size:=fun p hp=>(Array.getElem?_eq_some_iff.1 (h p hp).2.2).1
theorem Kept.step{L:List (Nat×Obj)}(h:Kept o w lab L)(S:cK o w lab o' w' lab'):Kept o' w' lab' L:=fun p hp=>by
 obtain⟨h1,h2,h3⟩:=h p hp;have hl:=h.lt p hp;exact⟨S.aU.more _ h1,(S.lab _ hl).trans h2,(S.aU.same _ hl (by rw[h2];omega)).trans h3⟩
theorem Kept.new{L:List (Nat×Obj)}{x:Obj}(h:Kept o1 w1 eN L)(W:bu (fun _=>False) o1 w1 o2 w2)(hl:∀b,b<w1.heap.size->gP b=eN b)(hA:o2 w1.heap.size)(uX:gP w1.heap.size=7)(on:cN w1.heap.size w2 w3)(kb:w3.heap[w1.heap.size]?=some x):Kept o2 w3 gP ((w1.heap.size,x)::L):=fun p hp=>by
 rcases List.mem_cons.1 hp with rfl|hp
 ·exact⟨hA,uX,kb⟩
 ·obtain⟨h1,h2,h3⟩:=h p hp;have bZ:=h.lt p hp;exact⟨W.more _ h1,(hl _ bZ).trans h2,((on.2 _ aa).trans (W.same _ bZ id)).trans h3⟩
theorem cK.old(S:cK o1 w1 eN o' w' lab')(hW:bu (fun _=>False) o w o1 w1)(hl:∀b,b<w.heap.size->7<=eN b):bu (fun _=>False) o w o' w':=by
 have z1:=hW.size;have z2:=S.aU.size;exact⟨S.aU.ay,fun b hb=>S.aU.more b (hW.more b hb),fun b hb=>(S.aU.new b hb).elim (fun q=>hW.new b q) fun q=>.inr aa,aa,fun b hb hx=>(S.aU.same b aa (by have:=hl b hb;omega)).trans (hW.same b hb hx)⟩
theorem FI:ar.globals.size=4:=af
theorem Wq(hF:bE ar L0 o w):o 1:=hF.jF 1 (by rw[FI];omega)
theorem acz:ar.underlying 36=some (.pointer (ar.pointee 36)):=af
theorem agP:ar.underlying 27=some (.pointer (ar.pointee 27)):=af
def aB:ah:=⟨#[97]⟩
def zB:ah:=⟨#[122]⟩
def Ms:ah:=⟨#[120,121]⟩
def ZK:ah:=⟨#[121,120]⟩
theorem R5:aB≠zB:=fun e=>by have:=congrArg ByteArray.data e;revert this;decide
theorem Mt:isName aB:=tZ dh dh (fun u hu=>by simp[aB] at hu;subst hu;decide)
theorem U1:isName zB:=tZ dh dh (fun u hu=>by simp[zB] at hu;subst hu;decide)
theorem R6{l:List ah}{a:ah}(hn:l.Nodup)(h:∀x,x∈l↔x=a):l=[a]:=by
 match l,hn,h with
 | [],_,h=>exact absurd ((h a).2 rfl) an
 | [x],_,h=>rw[(h x).1 an]
 |x::y::l,hn,h =>
  have e1:=(h x).1 an;have e2:=(h y).1 an;rw[cS] at hn;exact absurd (by rw[e1,e2];simp) hn.1
theorem FJ{α:Type}{l:List α}{a:α}(h:l=[a]):∀(i:Nat) (hi:i<l.length),l[i]=a:=by
 subst h;intro i hi;have:i=0:=by simpa using hi
 subst this;rfl
def Mu(Ab:Nat):aL:=⟨zB,2,some ⟨Ab,0,none⟩,1,1⟩
theorem acA{Ab Rl:Nat}(h1:w.heap[Ab]?=some (.cells #[.string aB] 9))(h2:w.heap[Rl]?=some (.cells #[.string zB,.int .i64 2,.slice (some ⟨Ab,0,none⟩) 1 1] 42))(o1:o Ab)(o2:o Rl):Hand o w (some ⟨Rl,0,none⟩) Rl 1 [Mu Ab] (fun _=>[aB]) (fun _=>Ab) (fun _=>0):=by
 refine⟨an,fun _=>⟨rfl,o2⟩,(fun e=>by cases e),fun i hi=>?_,di o2,an,fun r hr=>?_,fun r hr e=>?_,⟨fun r hr=>?_,fun r hr x hx=>?_,fun r hr=>?_,an,fun r hr x hx ho=>?_⟩,an⟩
 ·have Z7:i=0:=by simpa using hi
  subst Z7;obtain⟨c0,c1,c2,-⟩:=eE h2;exact⟨c0,c1,c2⟩
 ·simp at hr;subst hr;exact⟨rfl,fun _=>⟨rfl,o1⟩,(fun k hk=>by
   have Gc:k=0:=by simpa using hk
   subst Gc;exact(BP h1).1),an⟩
 ·simp at hr;subst hr;cases e
 ·simp at hr;subst hr;exact U1
 ·simp at hx;subst hx;exact Mt
 ·simp at hr;subst hr;exact⟨by simp[Mu],by simp[Mu]⟩
 ·simp at hx ho;subst hx;exact absurd ho R5
theorem acB{B:zf}{Ab:Nat}(h:tX [Mu Ab] (fun _=>[aB]) (fun _=>0) B):∃r,B.rs=[r]/\r.out=zB/\r.eD=2/\B.NM r=[aB]:=by
 obtain⟨r,hr⟩:=List.length_eq_one_iff.1 h.len;have:=h.at_ 0 an (by rw[h.len];simp);simp only[hr,List.getElem_cons_zero] at this;exact⟨r,hr,this⟩
theorem agQ{B:zf}{r:aL}(h1:B.rs=[r])(h2:r.out=zB)(h3:B.NM r=[aB]):iq B.NM B.rs=[aB]:=by
 refine R6 (pA _).1.nodup fun x=>?_;rw[tw,h1];simp only[List.mem_singleton,exists_eq_left,bU,oe,h2,h3];exact⟨fun q=>q.1,fun q=>⟨q,by rw[q];exact R5⟩⟩
theorem acC:jC 2 [(true,Ms)]=(true,ZK):=af
theorem agR{B:zf}{r:aL}{F:dm}{file:ah->V}(h1:B.rs=[r])(h2:r.out=zB)(h3:B.NM r=[aB])(h4:r.eD=2)(hp:F.b5.Perm B.rs)(hR:mQ B.rs B.NM B.RK)(hf:file aB=(true,Ms)):zL B F file=[(zB,(true,ZK))]:=by
 have e:F.b5=[r]:=by rw[h1] at hp;exact List.perm_singleton.1 hp
 have hv:valOf B.rs B.NM file zB=(true,ZK):=by
  have:=Ec hR file (r:=r) (by rw[h1];simp);rw[h2,h3,h4] at this;rw[this,bU,oe,Ed file (by rw[h1];simp[h2];exact R5),hf];exact acC
 have ho:qC F.b5 0=zB:=by rw[e];exact h2
 simp only[zL,h1,List.length_singleton,List.range_one,bU,oe,ho,kW];rw[<- h1,hv]
theorem Va[Payload](hF:bE ar L0 o w)(pow:jB w):
  bp ar (XB ar Fin 0) 32 #[] o w fun v o' w'=>v=.bool true/\bu (fun _=>False) o w o' w':=by
 have W:=bJ (P:=ar) (Fin:=Fin) (d:=0);refine bA W func32 ai ?_;walk_nrmf Tryz.f32;refine aA ?_;refine cq aX hF rfl ai ai ?_ rfl (R:=fun wl v aI=>v=.slice (some ⟨wl.heap.size,0,none⟩) 1 1/\aI=wl.alloc (.cells #[.string aB] 9)) (fun wl aE=>⟨_,_,by first|(simp[go_sem,Act.eval,aB];done)|(simp[go_sem,Act.eval,aB];rfl),rfl,rfl⟩) fun wl v1 aI w1 aE hR ba=>?_
 ·exact cj bf
 obtain⟨rfl,hR⟩:=hR;obtain⟨z1,k1,qK⟩:=ba.alloc hF aE hR;obtain⟨W1,pH⟩:=bu.mn ba.ay z1 k1;rw[aE.size];clear hR ba aE wl aI;generalize grow o w w1=o1 at *;refine aA ?_;refine cq aX W1.ay rfl ai ai ?_ rfl (R:=fun wl v aI=>v=.slice (some ⟨wl.heap.size,0,none⟩) 1 1/\aI=wl.alloc (.cells #[.string zB,.int .i64 2,.slice (some ⟨w.heap.size,0,none⟩) 1 1] 42)) (fun wl aE=>⟨_,_,by first|(simp[go_sem,Act.eval,zB];done)|(simp[go_sem,Act.eval,zB];rfl),rfl,rfl⟩) fun wl v1 aI w2 aE hR ba=>?_
 ·refine cj ?_;refine cJ (vs:=[_,_,_]) (fun x hx=>?_);simp at hx;rcases hx with rfl|rfl|rfl
  ·exact bf
  ·exact bN
  ·exact di pH
 obtain⟨rfl,hR⟩:=hR;obtain⟨z2,k2,O6⟩:=ba.alloc W1.ay aE hR;obtain⟨W2,Hi⟩:=bu.mn ba.ay z2 k2;rw[aE.size];clear hR ba aE wl aI;generalize grow o1 w1 w2=o2 at *;have hH:=acA ((k2 _ aa).trans qK) O6 (W2.more _ pH) Hi;have l1:=hF.lt (Wq hF);have YI:jB w2:=fun q hq=>(cell_of ((k2 1 aa).trans (k1 1 l1))).trans (pow q hq);clear z1 z2;refine aA ?_;refine aF W rfl ai rfl func34 af rfl (by first|(simp[Act.eval];done)|(simp[Act.eval];rfl)) rfl ((Wn W2.ay hH YI).mono ?_);rintro v3 o3 w3 ⟨K,pb,oI,rfl,h3,W3,hSR,Cy,-⟩;obtain⟨r,kR,Kp,hr4,C2⟩:=acB hSR;have WN:=(W1.trans W2).trans W3;have z2:=(W1.trans W2).size;have agT:∀b,b<w.heap.size->7<=oI b:=fun b hb=>(Cy b aa).1;have u3:=RQ K pb;have S3:cK o3 w3 oI o3 w3 oI:=cK.refl h3.ay;have P3:Kept o3 w3 oI []:=(fun p hp=>by simp at hp);have e31:(s0 pb).th=[]:=rfl;have Zz:(s0 pb).phase=0:=rfl;have e33:(s0 pb).time=0:=rfl;have e34:(s0 pb).num=0:=rfl;have e35:(s0 pb).st=[]:=rfl;have e36:(s0 pb).qn=[]:=rfl;have e37:(s0 pb).lost=false:=rfl;generalize s0 pb=s3 at *;refine aA ?_;refine aP aX h3.ay rfl ai ai ?_ rfl (v:=.bool false) (fun wl aE=>by simp[go_sem,acz]) fun _=>?_
 ·exact dU (aH h3.own) Aa
 refine aA ?_;refine aF W rfl ai rfl func21 af rfl (by simp[Act.eval,aB,Ms]) rfl ((Rx h3 aB Ms dh).mono ?_);rintro v4 o4 w4 ⟨uu,T4,hq⟩;have uK:isName aB/\Ms.size<=12/\¬(eO s3.th aB=none/\12<=s3.th.length):=⟨Mt,dh,by rw[e31];simp⟩;rcases hq with⟨e,-,-,q,-⟩|⟨rfl,-,rE,h4⟩
 ·exact absurd uK q
 have u4:=u3.edit (x:=aB) (t:=Ms) dh (gU s3.st aB (IntKind.i64.wrap (dC s3.st aB+1))) rE;have S4:=S3.trans T4;have P4:=P3.step T4;obtain⟨s4,YJ⟩:∃s4,s4={s3 with th:=gU s3.th aB Ms,st:=gU s3.st aB (IntKind.i64.wrap (dC s3.st aB+1)),qv:=rE,qn:=(iX s3.qn s3.lost aB).1,lost:=(iX s3.qn s3.lost aB).2}:=⟨_,rfl⟩;rw[<- YJ] at h4 u4;have e41:s4.th=[(aB,Ms)]:=by rw[YJ];simp only[e31];rfl
 have e42:s4.phase=0:=by rw[YJ];exact Zz
 have e43:s4.time=0:=by rw[YJ];exact e33
 have e44:s4.num=0:=by rw[YJ];exact e34
 have e46:0<s4.qn.length:=by rw[YJ];simp only[e36,e37];decide
 clear YJ S3 P3 u3 e31 Zz e33 e34 e35 e36 e37 uK;refine aA ?_;refine aF W rfl ai rfl func38 af rfl aC rfl ((yz h4 u4).mono ?_);rintro v5 o5 w5 ⟨s5,nJ,F5,R7,hw5,u5,h5,T5⟩;have S5:=S4.trans T5;have P5:=P4.step T5;obtain⟨hv,hs⟩:=hw5.YH aa e46;subst hv;have e51:s5.th=[(aB,Ms)]:=by rw[hs];exact e41
 have e52:s5.phase=1:=by rw[hs];rfl
 have e53:s5.time=0:=by rw[hs];exact e43
 have e54:s5.num=0:=by rw[hs];exact e44
 have e55:s5.since=0:=by rw[hs];exact e43
 have e56:s5.qn=[]:=by rw[hs];rfl
 have e57:s5.lost=false:=by rw[hs];rfl
 clear hs hw5 e41 e42 e43 e44 e46;unfold did;refine aA ?_;refine cq aX h5.ay rfl ai ai kp rfl (R:=fun wl v aI=>v=.pointer (some ⟨wl.heap.size,0,none⟩)/\aI=wl.alloc (Obj.cells #[.int .i64 0,.string aN] 32)) (fun wl aE=>⟨_,_,by first|(simp[go_sem];done)|(simp[go_sem];rfl),rfl,rfl⟩) fun wl v1 aI wx aE hR ba=>?_;obtain⟨rfl,hR⟩:=hR;obtain⟨zx,kx,Ch⟩:=ba.alloc h5.ay aE hR;obtain⟨Wx,lY⟩:=bu.mn ba.ay zx kx;rw[aE.size];clear hR ba aE wl aI;obtain⟨Li,hx,Sx,IT,xP⟩:=h5.grown S5 Wx;have uX:=xP _ (ag _);have zj:=S5.aU.size;generalize grow o5 w5 wx=ox at *;clear zx;refine aA ?_;refine bD aX hx.ay rfl ai ai ?_ rfl (R:=fun wl aI=>aI=(wl.setCell ⟨w5.heap.size,0,none⟩ (.int .i64 1)).setCell ⟨w5.heap.size,1,none⟩ (.string aN)) (fun wl aE=>⟨_,?_,rfl⟩) fun wl aI w6 aE hR ba=>?_
 ·refine dU ?_ ?_
  ·exact aH lY
  ·refine cJ (vs:=[_,_]) (fun x hx=>?_);simp at hx;rcases hx with rfl|rfl
   ·exact bN
   ·exact bf
 ·obtain⟨e0,e1,f0,f1⟩:=bT ((aE.heap _ lY).trans Ch)
  first
  | (simp[go_sem,e0,e1,f0,f1];done)
  | (simp[go_sem,e0,e1,f0,f1];rfl)
 have hO:cN w5.heap.size wl aI:=by rw[hR];exact iB _ _ _ _ _ _
 obtain⟨Al,Ci,ey⟩:=ba.only aE lY hO;have Cj:=ba.ay;rw[ey] at Cj |-;rw[hR,nG ((aE.heap _ lY).trans Ch)] at Ci;obtain⟨h6,S6⟩:=hx.wrote Sx uX zj Cj Al;have P6:=P5.new Wx IT lY uX Al Ci;clear hR ba aE hO wl aI ey Cj hx Sx Ch Ci Wx kx IT xP uX Al lY zj;refine aA ?_;refine aF W rfl ai rfl func37 af rfl aC rfl ((Rt h6 5).mono ?_);rintro v7 o7 w7 ⟨rfl,tz,ts,hq⟩;have ja:p9 s5.time 5:=by rw[e53];exact⟨aa,aa,aa⟩
 rcases hq with⟨-,q,-⟩|⟨rfl,-,h7⟩
 ·exact absurd ja q
 have u7:=u5.tick (s5.time+Int.toNat 5);have T7:cK o7 w6 Li o7 w7 Li:=cK.of (bu.db (ex:=(·=K.kb)) h7.ay ⟨tz,ts⟩ rfl) (fun b hb=>by rw[hb,h6.l0];omega);have S7:=S6.trans T7;have P7:=P6.step T7;obtain⟨s7,Wr⟩:∃s7,s7={s5 with time:=s5.time+Int.toNat 5}:=⟨_,rfl⟩;rw[<- Wr] at h7 u7;have e71:s7.th=[(aB,Ms)]:=by rw[Wr];exact e51
 have e72:s7.phase=1:=by rw[Wr];exact e52
 have e73:s7.since+5<=s7.time:=by rw[Wr];simp only[e53,e55];decide
 have e74:s7.num=0:=by rw[Wr];exact e54
 have e76:s7.qn=[]:=by rw[Wr];exact e56
 have e77:s7.lost=false:=by rw[Wr];exact e57
 clear Wr e51 e52 e53 e54 e55 e56 e57 ja tz ts;refine aA ?_;refine aF W rfl ai rfl func38 af rfl aC rfl ((yz h7 u7).mono ?_);rintro v8 o8 w8 ⟨s8,anu,F8,ZL,hw8,u8,h8,T8⟩;have S8:=S7.trans T8;have P8:=P7.step T8;obtain⟨hv,lo8,F8',sv8,hs⟩:=hw8.start e72 e76 e77 e73;subst hv;have e81:s8.th=[(aB,Ms)]:=by rw[hs];exact e71
 have e82:s8.phase=2:=by rw[hs];rfl
 have e83:s8.src=[aB]:=by rw[hs];exact agQ kR Kp C2
 have e84:s8.num=0:=by rw[hs];exact e74
 have e85:s8.rd=[]:=by rw[hs];rfl
 have e86:s8.ck=0:=by rw[hs];rfl
 clear hs hw8 e71 e72 e73 e74 e76 e77;unfold did;refine aA ?_;refine cq aX h8.ay rfl ai ai kp rfl (R:=fun wl v aI=>v=.pointer (some ⟨wl.heap.size,0,none⟩)/\aI=wl.alloc (Obj.cells #[.int .i64 0,.string aN] 32)) (fun wl aE=>⟨_,_,by first|(simp[go_sem];done)|(simp[go_sem];rfl),rfl,rfl⟩) fun wl v1 aI wx aE hR ba=>?_;obtain⟨rfl,hR⟩:=hR;obtain⟨zx,kx,Ch⟩:=ba.alloc h8.ay aE hR;obtain⟨Wx,lY⟩:=bu.mn ba.ay zx kx;rw[aE.size];clear hR ba aE wl aI;obtain⟨Li,hx,Sx,IT,xP⟩:=h8.grown S8 Wx;have uX:=xP _ (ag _);have zj:=S8.aU.size;generalize grow o8 w8 wx=ox at *;clear zx;refine aA ?_;refine bD aX hx.ay rfl ai ai ?_ rfl (R:=fun wl aI=>aI=(wl.setCell ⟨w8.heap.size,0,none⟩ (.int .i64 2)).setCell ⟨w8.heap.size,1,none⟩ (.string aN)) (fun wl aE=>⟨_,?_,rfl⟩) fun wl aI w9 aE hR ba=>?_
 ·refine dU ?_ ?_
  ·exact aH lY
  ·refine cJ (vs:=[_,_]) (fun x hx=>?_);simp at hx;rcases hx with rfl|rfl
   ·exact bN
   ·exact bf
 ·obtain⟨e0,e1,f0,f1⟩:=bT ((aE.heap _ lY).trans Ch)
  first
  | (simp[go_sem,e0,e1,f0,f1];done)
  | (simp[go_sem,e0,e1,f0,f1];rfl)
 have hO:cN w8.heap.size wl aI:=by rw[hR];exact iB _ _ _ _ _ _
 obtain⟨Al,Ci,ey⟩:=ba.only aE lY hO;have Cj:=ba.ay;rw[ey] at Cj |-;rw[hR,nG ((aE.heap _ lY).trans Ch)] at Ci;obtain⟨h9,S9⟩:=hx.wrote Sx uX zj Cj Al;have P9:=P8.new Wx IT lY uX Al Ci;clear hR ba aE hO wl aI ey Cj hx Sx Ch Ci Wx kx IT xP uX Al lY zj;refine aA ?_;refine aF W rfl ai rfl func38 af rfl aC rfl ((yz h9 u8).mono ?_);rintro v10 o10 Ws ⟨KT,ajq,F10,anv,acF,u10,oq,T10⟩;have S10:=S9.trans T10;have P10:=P9.step T10;obtain⟨hv,anx,hs⟩:=acF.acy e82 (by rw[e83,e85];simp);have acG:=FJ e83;rw[acG] at hv hs;subst hv;have ag0:KT.th=[(aB,Ms)]:=by rw[hs];exact e81
 have acH:KT.phase=2:=by rw[hs];exact e82
 have R8:KT.src=[aB]:=by rw[hs];exact e83
 have acI:KT.num=0:=by rw[hs];exact e84
 have R9:KT.rd=[((true,Ms),dC KT.st aB)]:=by
  rw[hs];simp only[e85,e81,List.nil_append];rfl
 have Ve:KT.ck=0:=by rw[hs];exact e86
 clear hs acF e81 e82 e83 e84 e85 e86 acG;unfold did;refine aA ?_;refine cq aX oq.ay rfl ai ai kp rfl (R:=fun wl v aI=>v=.pointer (some ⟨wl.heap.size,0,none⟩)/\aI=wl.alloc (Obj.cells #[.int .i64 0,.string aN] 32)) (fun wl aE=>⟨_,_,by first|(simp[go_sem];done)|(simp[go_sem];rfl),rfl,rfl⟩) fun wl v1 aI wx aE hR ba=>?_;obtain⟨rfl,hR⟩:=hR;obtain⟨zx,kx,Ch⟩:=ba.alloc oq.ay aE hR;obtain⟨Wx,lY⟩:=bu.mn ba.ay zx kx;rw[aE.size];clear hR ba aE wl aI;obtain⟨Li,hx,Sx,IT,xP⟩:=oq.grown S10 Wx;have uX:=xP _ (ag _);have zj:=S10.aU.size;generalize grow o10 Ws wx=ox at *;clear zx;refine aA ?_;refine bD aX hx.ay rfl ai ai ?_ rfl (R:=fun wl aI=>aI=(wl.setCell ⟨Ws.heap.size,0,none⟩ (.int .i64 3)).setCell ⟨Ws.heap.size,1,none⟩ (.string aB)) (fun wl aE=>⟨_,?_,rfl⟩) fun wl aI w11 aE hR ba=>?_
 ·refine dU ?_ ?_
  ·exact aH lY
  ·refine cJ (vs:=[_,_]) (fun x hx=>?_);simp at hx;rcases hx with rfl|rfl
   ·exact bN
   ·exact bf
 ·obtain⟨e0,e1,f0,f1⟩:=bT ((aE.heap _ lY).trans Ch)
  first
  | (simp[go_sem,e0,e1,f0,f1];done)
  | (simp[go_sem,e0,e1,f0,f1];rfl)
 have hO:cN Ws.heap.size wl aI:=by rw[hR];exact iB _ _ _ _ _ _
 obtain⟨Al,Ci,ey⟩:=ba.only aE lY hO;have Cj:=ba.ay;rw[ey] at Cj |-;rw[hR,nG ((aE.heap _ lY).trans Ch)] at Ci;obtain⟨h11,S11⟩:=hx.wrote Sx uX zj Cj Al;have P11:=P10.new Wx IT lY uX Al Ci;clear hR ba aE hO wl aI ey Cj hx Sx Ch Ci Wx kx IT xP uX Al lY zj;refine aA ?_;refine aF W rfl ai rfl func38 af rfl aC rfl ((yz h11 u10).mono ?_);rintro v12 o12 w12 ⟨ZM,ajt,F12,anC,acJ,u12,oa,T12⟩;have S12:=S11.trans T12;have P12:=P11.step T12;have YK:=FJ R8;have acK:=FJ R9;obtain⟨hv,hs⟩:=acJ.check (.inl acH) (by rw[R8,R9];rfl) (by rw[R8,Ve];simp) (by rw[R9,Ve];simp) (by rw[YK,acK]);rw[YK] at hv;subst hv;have YL:ZM.phase=3:=by rw[hs]
 have YM:ZM.src=[aB]:=by rw[hs];exact R8
 have acL:ZM.num=0:=by rw[hs];exact acI
 have acM:ZM.rd.map (·.1)=[(true,Ms)]:=by rw[hs];simp only[R9];rfl
 have acN:ZM.ck=ZM.src.length:=by rw[YM,hs];simp only[Ve];rfl
 clear hs acJ ag0 acH R8 acI R9 Ve YK acK;unfold did;refine aA ?_;refine cq aX oa.ay rfl ai ai kp rfl (R:=fun wl v aI=>v=.pointer (some ⟨wl.heap.size,0,none⟩)/\aI=wl.alloc (Obj.cells #[.int .i64 0,.string aN] 32)) (fun wl aE=>⟨_,_,by first|(simp[go_sem];done)|(simp[go_sem];rfl),rfl,rfl⟩) fun wl v1 aI wx aE hR ba=>?_;obtain⟨rfl,hR⟩:=hR;obtain⟨zx,kx,Ch⟩:=ba.alloc oa.ay aE hR;obtain⟨Wx,lY⟩:=bu.mn ba.ay zx kx;rw[aE.size];clear hR ba aE wl aI;obtain⟨Li,hx,Sx,IT,xP⟩:=oa.grown S12 Wx;have uX:=xP _ (ag _);have zj:=S12.aU.size;generalize grow o12 w12 wx=ox at *;clear zx;refine aA ?_;refine bD aX hx.ay rfl ai ai ?_ rfl (R:=fun wl aI=>aI=(wl.setCell ⟨w12.heap.size,0,none⟩ (.int .i64 4)).setCell ⟨w12.heap.size,1,none⟩ (.string aB)) (fun wl aE=>⟨_,?_,rfl⟩) fun wl aI w13 aE hR ba=>?_
 ·refine dU ?_ ?_
  ·exact aH lY
  ·refine cJ (vs:=[_,_]) (fun x hx=>?_);simp at hx;rcases hx with rfl|rfl
   ·exact bN
   ·exact bf
 ·obtain⟨e0,e1,f0,f1⟩:=bT ((aE.heap _ lY).trans Ch)
  first
  | (simp[go_sem,e0,e1,f0,f1];done)
  | (simp[go_sem,e0,e1,f0,f1];rfl)
 have hO:cN w12.heap.size wl aI:=by rw[hR];exact iB _ _ _ _ _ _
 obtain⟨Al,Ci,ey⟩:=ba.only aE lY hO;have Cj:=ba.ay;rw[ey] at Cj |-;rw[hR,nG ((aE.heap _ lY).trans Ch)] at Ci;obtain⟨zK,S13⟩:=hx.wrote Sx uX zj Cj Al;have P13:=P12.new Wx IT lY uX Al Ci;clear hR ba aE hO wl aI ey Cj hx Sx Ch Ci Wx kx IT xP uX Al lY zj;refine aA ?_;refine aF W rfl ai rfl func38 af rfl aC rfl ((yz zK u12).mono ?_);rintro v14 o14 w14 ⟨s14,ajv,F14,ag1,acO,u14,h14,T14⟩;have S14:=S13.trans T14;have P14:=P13.step T14;obtain⟨hv,ir,Wh,zk,zm,-,hs⟩:=acO.U0 YL acN;subst hv;obtain⟨ag3,KZ⟩:=ag1 (.inr YL);obtain⟨y0,y1,y2,-,hpl⟩:=zK.build.blk;have YN:s14.res=[(zB,(true,ZK))]:=by
  rw[hs];refine agR kR Kp C2 hr4 (hpl ag3 F14 KZ).perm zK.build.right ?_;rw[YM,acM];simp[fileOf]
 have ag4:s14.num=1:=by rw[hs];simp only[acL];decide
 clear hs acO YL YM acL acM acN hpl KZ;unfold did;refine aA ?_;refine cq aX h14.ay rfl ai ai kp rfl (R:=fun wl v aI=>v=.pointer (some ⟨wl.heap.size,0,none⟩)/\aI=wl.alloc (Obj.cells #[.int .i64 0,.string aN] 32)) (fun wl aE=>⟨_,_,by first|(simp[go_sem];done)|(simp[go_sem];rfl),rfl,rfl⟩) fun wl v1 aI wx aE hR ba=>?_;obtain⟨rfl,hR⟩:=hR;obtain⟨zx,kx,Ch⟩:=ba.alloc h14.ay aE hR;obtain⟨Wx,lY⟩:=bu.mn ba.ay zx kx;rw[aE.size];clear hR ba aE wl aI;obtain⟨Li,hx,Sx,IT,xP⟩:=h14.grown S14 Wx;have uX:=xP _ (ag _);have zj:=S14.aU.size;generalize grow o14 w14 wx=ox at *;clear zx;refine aA ?_;refine bD aX hx.ay rfl ai ai ?_ rfl (R:=fun wl aI=>aI=(wl.setCell ⟨w14.heap.size,0,none⟩ (.int .i64 6)).setCell ⟨w14.heap.size,1,none⟩ (.string aN)) (fun wl aE=>⟨_,?_,rfl⟩) fun wl aI w15 aE hR ba=>?_
 ·refine dU ?_ ?_
  ·exact aH lY
  ·refine cJ (vs:=[_,_]) (fun x hx=>?_);simp at hx;rcases hx with rfl|rfl
   ·exact bN
   ·exact bf
 ·obtain⟨e0,e1,f0,f1⟩:=bT ((aE.heap _ lY).trans Ch)
  first
  | (simp[go_sem,e0,e1,f0,f1];done)
  | (simp[go_sem,e0,e1,f0,f1];rfl)
 have hO:cN w14.heap.size wl aI:=by rw[hR];exact iB _ _ _ _ _ _
 obtain⟨Al,Ci,ey⟩:=ba.only aE lY hO;have Cj:=ba.ay;rw[ey] at Cj |-;rw[hR,nG ((aE.heap _ lY).trans Ch)] at Ci;obtain⟨O5,S15⟩:=hx.wrote Sx uX zj Cj Al;have P15:=P14.new Wx IT lY uX Al Ci;clear hR ba aE hO wl aI ey Cj hx Sx Ch Ci Wx kx IT xP uX Al lY zj;refine aA ?_;refine aF W rfl ai rfl func24 af rfl aC rfl ((YB O5).mono ?_);rintro v16 o16 ZN ⟨RO,ajy,h16,T16⟩;have S16:=S15.trans T16;have P16:=P15.step T16;obtain⟨rv,tv,rfl,⟨rp,rb,rc,Jl,Wi,xQ⟩,DH,htv⟩:=RO.ex;rw[ag4] at *;have hlen:s14.res.length=1:=by rw[YN];rfl
 rw[hlen] at Jl;obtain⟨ag5,orb⟩:=Wi (by rw[YN];simp);subst ag5;subst Jl;obtain⟨c0,c1,c2⟩:=xQ 0 (by rw[hlen];decide);simp only[YN,List.getElem_cons_zero] at c0 c1 c2;obtain⟨tp,tb,tc,ag6,-⟩:=htv.row;generalize bZ:s14.ku.length=ln at *;subst ag6;refine aA ?_;refine cq aX h16.ay rfl ai ai kp rfl (R:=fun wl v aI=>v=.pointer (some ⟨wl.heap.size,0,none⟩)/\aI=wl.alloc (Obj.cells #[.int .i64 0,.slice none 0 0,.slice none 0 0] 59)) (fun wl aE=>⟨_,_,by first|(simp[go_sem];done)|(simp[go_sem];rfl),rfl,rfl⟩) fun wl v1 aI wx aE hR ba=>?_;obtain⟨rfl,hR⟩:=hR;obtain⟨zx,kx,Ch⟩:=ba.alloc h16.ay aE hR;obtain⟨Wx,lY⟩:=bu.mn ba.ay zx kx;rw[aE.size];clear hR ba aE wl aI;obtain⟨Li,hx,Sx,IT,xP⟩:=h16.grown S16 Wx;have uX:=xP _ (ag _);have zj:=S16.aU.size;generalize grow o16 ZN wx=ox at *;clear zx;refine aA ?_;refine bD aX hx.ay rfl ai ai ?_ rfl (R:=fun wl aI=>aI=((wl.setCell ⟨ZN.heap.size,0,none⟩ (.int .i64 1)).setCell ⟨ZN.heap.size,1,none⟩ (.slice (some ⟨rb,0,none⟩) 1 rc)).setCell ⟨ZN.heap.size,2,none⟩ (.slice tp ln tc)) (fun wl aE=>⟨_,?_,rfl⟩) fun wl aI w17 aE hR ba=>?_
 ·refine dU ?_ ?_
  ·exact aH lY
  ·refine cJ (vs:=[_,_,_]) (fun x hx=>?_);simp at hx;rcases hx with rfl|rfl|rfl
   ·exact bN
   ·exact DH.up Wx.more
   ·exact htv.cl.up Wx.more
 ·obtain⟨e0,e1,e2,f0,f1,f2⟩:=eE ((aE.heap _ lY).trans Ch)
  first
  | (simp[go_sem,e0,e1,e2,f0,f1,f2];done)
  | (simp[go_sem,e0,e1,e2,f0,f1,f2];rfl)
 have hO:cN ZN.heap.size wl aI:=by rw[hR];exact uR _ _ _ _ _ _ _ _
 obtain⟨Al,Ci,ey⟩:=ba.only aE lY hO;have Cj:=ba.ay;rw[ey] at Cj |-;rw[hR,KL ((aE.heap _ lY).trans Ch)] at Ci;obtain⟨O9,S17⟩:=hx.wrote Sx uX zj Cj Al;have P17:=P16.new Wx IT lY uX Al Ci;have rbl:=h16.ay.lt orb;have erb:w17.heap[rb]?=ZN.heap[rb]?:=(Al.2 rb aa).trans (Wx.same rb rbl id);have Vf:=Wx.more _ orb;have hW:=S17.old WN agT;clear hR ba aE hO wl aI ey Cj hx Sx Ch Ci Wx kx IT xP uX Al lY zj;refine aA ?_;simp only[Kept,gQ,aad,or_false,forall_eq_or_imp,forall_eq] at P17;obtain⟨⟨OM,-,q16⟩,⟨acP,-,q14⟩,⟨acQ,-,q12⟩,⟨acR,-,q10⟩,⟨o8',-,q8⟩,⟨o5',-,q5⟩⟩:=P17;refine rdC O9.ay o5' (bT q5).1 fun _=>?_;refine aA ?_;refine rdC O9.ay o8' (bT q8).1 fun _=>?_;refine aA ?_;refine rdC O9.ay acR (bT q10).1 fun _=>?_;refine aA ?_;refine rdC O9.ay acQ (bT q12).1 fun _=>?_;refine aA ?_;refine rdC O9.ay acP (bT q14).1 fun _=>?_;refine aA ?_;refine rdC O9.ay OM (eE q16).1 fun _=>?_;refine aA ?_;refine rdC O9.ay OM (eE q16).2.1 fun _=>?_;refine aA ?_;refine rdC O9.ay OM (eE q16).2.1 fun _=>?_;refine aA ?_;refine aP aX O9.ay rfl ai ai ?_ rfl (v:=.agg #[.string zB,.string ZK,.bool false]) (fun wl aE=>by simp[go_sem,(aE.cell Vf).trans ((cell_of erb).trans c0),(aE.cell Vf).trans ((cell_of erb).trans c1),(aE.cell Vf).trans ((cell_of erb).trans c2)]) fun _=>?_
 ·exact cj (aH Vf)
 refine aA ?_;refine aP aX O9.ay rfl ai ai ?_ rfl (v:=.bool true) (fun wl aE=>by simp[go_sem,zB,ZK]) fun _=>?_
 ·intro y hy;simp[Op.operands] at hy;rcases hy with rfl|rfl
  ·simp[Act.eval];refine cJ (vs:=[_,_,_]) (fun x hx=>?_);simp at hx;rcases hx with rfl|rfl|rfl
   ·exact bf
   ·exact bf
   ·exact kn
  ·simp[Act.eval];refine cJ (vs:=[_,_,_]) (fun x hx=>?_);simp at hx;rcases hx with rfl|rfl|rfl
   ·exact bf
   ·exact bf
   ·exact kn
 refine aA ?_;exact⟨.inr trivial,trivial,_,resultsC_tmp (t:=0) ai _,aC,hW⟩
end
section
variable {Fin:bH} {o o':aM} {w w':ae}
theorem Hand.keep{p:Option Addr}{b c:Nat}{rs:List aL}{NM:aL->List ah}{NB:aL->Nat}{RK:ah->Nat}(h:Hand o w p b c rs NM NB RK)(mW:∀b,o b->o' b)(e:∀g,xu rs NM NB b g->w'.heap[g]?=w.heap[g]?):Hand o' w' p b c rs NM NB RK:=by
 refine⟨h.gT,fun q=>⟨(h.ptr q).1,mW _ (h.ptr q).2⟩,h.nil,fun i hi=>?_,h.cl.up mW,h.cap,fun r hr=>⟨(h.nm r hr).1,fun q=>⟨((h.nm r hr).2.1 q).1,mW _ ((h.nm r hr).2.1 q).2⟩,fun k hk=>?_,(h.nm r hr).2.2.2⟩,h.nmn,h.yes,h.low⟩
 ·exact gp h.at_ (e b (.inl ⟨(fun q=>by rw[q] at hi;simp at hi),rfl⟩)) i hi
 ·exact cI (h.nm r hr).2.2.1 (e _ (.inr ⟨r,hr,(fun q=>by rw[q] at hk;simp at hk),rfl⟩)) k hk
theorem uZ.keep{p:Option Addr}{b off:Nat}{rw:List FF}(h:uZ Fin w p b off rw)(W:bu (fun _=>False) o w o' w'):uZ Fin w' p b off rw:=by
 refine⟨fun q=>⟨(h.ptr q).1,(h.ptr q).2.1,bm (h.ptr q).2.2 W.size⟩,fun i hi=>?_,fun r hr=>⟨fun q=>⟨((h.ins r hr).1 q).1,((h.ins r hr).1 q).2.1,bm ((h.ins r hr).1 q).2.2 W.size⟩,fun j hj=>?_⟩,h.Wp,h.Eu⟩
 ·have e:=W.same b (h.ptr (fun q=>by rw[q] at hi;simp at hi)).2.2 id;exact⟨(cell_of e).trans (h.at_ i hi).1,(cell_of e).trans (h.at_ i hi).2⟩
 ·have e:=W.same r.ib ((h.ins r hr).1 (fun q=>by rw[q] at hj;simp at hj)).2.2 id;exact(cell_of e).trans ((h.ins r hr).2 j hj)
structure Em(rs:List aL)(NM:aL->List ah):Prop where
 out:∀r∈rs,r.out∉je
 ins:∀r∈rs,∀x∈NM r,x∈je\/x∈rs.map (·.out)
structure YO(o:aM)(w:ae)(v:Value)(o':aM)(w':ae):Prop where
 ex:∃S K pb lab rp rb rc rs NM NB,v=.pointer (some ⟨S,0,none⟩)/\w'.heap[S]?=some (.cells #[.pointer (some ⟨K.kb,0,none⟩),.slice rp rs.length rc,.slice none 0 0,.int .i64 0] 39)/\o' S/\lab S=7/\bg o' w' K (s0 pb) 0 lab/\bu (fun _=>False) o w o' w'/\(∀b,b<w.heap.size->7<=lab b/\(b≠1->lab b=7))/\Hand o' w' rp rb rc rs NM NB FH/\tX rs NM FH K.B/\(∀g,xu rs NM NB rb g->lab g=7/\w.heap.size<=g)/\w.heap.size<=S/\Em rs NM
theorem Sa[Payload](hF:bE ar L0 o w)(pow:jB w)(p:Option Addr)(b off c:Nat)(rw:List FF)(hR:uZ Fin w p b off rw):
  bp ar (XB ar Fin 0) 13 #[.slice p rw.length c] o w fun v o' w'=>YO o w v o' w':=by
 have W:=bJ (P:=ar) (Fin:=Fin) (d:=0);have l1:=hF.lt (Wq hF);have hz4:4<=w.heap.size:=by have:=hF.size;rw[show ar.globals.size=4 by kernel_rfl] at this;omega
 refine bA W func13 ai ?_;walk_nrmf Tryz.f13;refine aA ?_;refine aF W rfl ai rfl func32 af rfl aC rfl ((Va hF pow).mono ?_);rintro v1 o1 w1 ⟨rfl,W1⟩;have ag9:jB w1:=fun q hq=>(cell_of (W1.same 1 l1 id)).trans (pow q hq);have z1:=W1.size;refine aA ?_;refine aF W rfl ai rfl func33 af rfl aC rfl ((RX W1.ay p b off c rw (hR.keep W1)).mono ?_);rintro v2 o2 w2 ⟨rs,tC,FG,hlen⟩;have W2:=FG.gO.aU;have z2:=W2.size;obtain⟨rp,rb,rc,rfl,hH,zp⟩:=FG.hand hlen;have YI:jB w2:=fun q hq=>(cell_of (W2.same 1 aa id)).trans (ag9 q hq);have I4:Em rs (fun r:aL=>tC (FH r.out)):=by
  refine⟨fun r hr=>?_,fun r hr x hx=>?_⟩
  ·obtain⟨j,hj,rfl⟩:=a8 hr;rw[(FG.each j hj).1];exact Ej j aa
  ·obtain⟨j,hj,rfl⟩:=a8 hr;obtain⟨e1,-,-,e4,-⟩:=FG.each j hj;simp only[e1,xq (show j<8 by omega)] at hx;rcases e4 x hx with q|⟨i,hi,rfl⟩
   ·exact .inl q
   ·refine .inr (List.mem_map.2 ⟨rs[i],aD aa,(FG.each i aa).1⟩)
 clear FG;generalize (fun r:aL=>tC (FH r.out))=NM at *;generalize (fun r:aL=>(r.sa.map (·.block)).getD 0)=NB at *;refine aA ?_;refine aF W rfl ai rfl func34 af rfl aC rfl ((Wn W2.ay hH YI).mono ?_);rintro v3 o3 w3 ⟨K,pb,oI,rfl,h3,W3,hSR,Cy,hkb⟩;have z3:=W3.size;have hH3:=hH.keep W3.more fun g hg=>W3.same g (zp g hg).2 id;refine aA ?_;refine aP aX h3.ay rfl ai ai ?_ rfl (v:=.bool false) (fun wl aE=>by simp[go_sem,acz]) fun _=>?_
 ·exact dU (aH h3.own) Aa
 refine aA ?_;refine cq aX h3.ay rfl ai ai ?_ rfl (R:=fun wl v aI=>v=.pointer (some ⟨wl.heap.size,0,none⟩)/\aI=wl.alloc (Obj.cells #[.pointer (some ⟨K.kb,0,none⟩),.slice rp rs.length rc,.slice none 0 0,.int .i64 0] 39)) (fun wl aE=>⟨_,_,by first|(simp[go_sem];done)|(simp[go_sem];rfl),rfl,rfl⟩) fun wl v1 aI w4 aE K0 ba=>?_
 ·refine cj ?_;refine cJ (vs:=[_,_,_,_]) (fun x hx=>?_);simp at hx;rcases hx with rfl|rfl|rfl|rfl
  ·exact aH h3.own
  ·exact hH3.cl
  ·exact gS
  ·exact bN
 obtain⟨rfl,K0⟩:=K0;obtain⟨z4,k4,si⟩:=ba.alloc h3.ay aE K0;obtain⟨W4,mq⟩:=bu.mn ba.ay z4 k4;rw[aE.size];clear K0 ba aE wl aI;obtain⟨uu,h4,S4,FX,hn4⟩:=h3.grown (cK.refl h3.ay) W4;have uX:=hn4 _ (ag _);generalize grow o3 w3 w4=o4 at *;have hWW:=((W1.trans W2).trans W3).trans W4;have hH4:=hH3.keep W4.more fun g hg=>W4.same g (by have:=(zp g hg).2;omega) id;clear z4;refine aA ?_;refine⟨.inr trivial,trivial,_,resultsC_tmp (t:=2) ai _,w3.heap.size,K,pb,uu,rp,rb,rc,rs,NM,NB,aC,si,mq,uX,h4,hWW,fun b hb=>?_,hH4,hSR,fun g hg=>?_,aa,I4⟩
 ·rw[FX b aa];exact Cy b aa
 ·obtain⟨q1,q2⟩:=zp g hg;rw[FX g aa];exact⟨(Cy g q2).2 aa,aa⟩
end
theorem IU{α:Type}(x y:ah)(v:α):∀l:List (ah×α),eO (gU l x v) y=if y=x then some v else eO l y
 | []=>by
  simp only[gU,eO]
 | (k,u)::l=>by
  unfold gU;by_cases hx:x=k
  ·rw[if_pos hx];by_cases hy:y=x
   ·rw[if_pos hy];unfold eO;rw[if_pos hy]
   ·rw[if_neg hy];unfold eO;rw[if_neg hy,if_neg (fun e=>hy (e.trans hx.symm))]
  ·rw[if_neg hx];unfold eO;by_cases Cz:y=k
   ·rw[if_pos Cz,if_pos Cz,if_neg (fun e=>hx (e.symm.trans Cz))]
   ·rw[if_neg Cz,if_neg Cz,IU x y v l]
theorem yC{α:Type}{x:ah}:∀{l:List (ah×α)},x∉l.map (·.1)->eO l x=none
 | [],_=>rfl
 | (k,u)::l,h=>by
  simp only[bU,gQ,not_or] at h;unfold eO;rw[if_neg h.1];exact yC h.2
theorem IV{α:Type}(x y:ah):∀l:List (ah×α),(l.map (·.1)).Nodup->eO (lI l x) y=if y=x then none else eO l y
 | [],_=>by simp[lI,eO]
 | (k,u)::l,hn=>by
  rw[bU,cS] at hn;unfold lI;by_cases hx:x=k
  ·rw[if_pos hx];by_cases hy:y=x
   ·rw[if_pos hy,hy];exact yC (by rw[hx];exact hn.1)
   ·rw[if_neg hy]
    conv=>rhs;unfold eO
    rw[if_neg (fun e=>hy (e.trans hx.symm))]
  ·rw[if_neg hx];unfold eO;by_cases Cz:y=k
   ·rw[if_pos Cz,if_pos Cz,if_neg (fun e=>hx (e.symm.trans Cz))]
   ·rw[if_neg Cz,if_neg Cz,IV x y l hn.2]
theorem IW(fs:List (ah×ah))(x y:ah):eO (rJ fs x) y=if y=x then none else eO fs y:=by
 induction fs with
 |nil=>simp[rJ,eO]
 |cons f fs ih =>
  obtain⟨k,u⟩:=f;unfold rJ at *;by_cases hk:k=x
  ·rw[aaj (by simp[hk]),ih];by_cases hy:y=x
   ·rw[if_pos hy,if_pos hy]
   ·rw[if_neg hy,if_neg hy]
    conv=>rhs;unfold eO
    rw[if_neg (fun e=>hy (e.trans hk))]
  ·rw[aap (by simp[hk])];unfold eO;by_cases Cz:y=k
   ·rw[if_pos Cz,if_pos Cz,if_neg (fun e=>hk (Cz.symm.trans e))]
   ·rw[if_neg Cz,if_neg Cz,ih]
theorem En{α:Type}(x y:ah)(v:α):∀l:List (ah×α),eO (l++[(x,v)]) y=match eO l y with
  |some u=>some u
  |none=>if y=x then some v else none
 | []=>by simp[eO]
 | (k,u)::l=>by
  rw[List.cons_append];unfold eO;by_cases Cz:y=k
  ·rw[if_pos Cz,if_pos Cz]
  ·rw[if_neg Cz,if_neg Cz];exact En x y v l
theorem yD(fs:List (ah×ah))(x t y:ah)(there:Bool):eO (pC fs x t there) y=if y=x then(if there then some t else none) else eO fs y:=by
 unfold pC;cases there
 ·simp only[fl,if_false,List.append_nil];exact IW fs x y
 ·simp only[if_true];rw[En,IW];by_cases hy:y=x
  ·simp[hy]
  ·simp only[if_neg hy];cases eO fs y<;>rfl
theorem Sc(fs:List (ah×ah))(x:ah):FB fs x=true↔eO fs x≠none:=by
 rw[FB,oJ];constructor
 ·intro h
  induction fs with
  |nil=>simp at h
  |cons f fs ih =>
   obtain⟨k,u⟩:=f;unfold eO;by_cases hx:x=k
   ·rw[if_pos hx];simp
   ·rw[if_neg hx];exact ih (by simpa[hx] using h)
 ·intro h;exact aO fun q=>h (yC q)
theorem Eo{α:Type}{x:ah}{v:α}:∀{l:List (ah×α)},(l.map (·.1)).Nodup->((gU l x v).map (·.1)).Nodup/\∀y,y∈(gU l x v).map (·.1)↔y=x\/y∈l.map (·.1)
 | [],_=>by simp[gU]
 | (k,u)::l,hn=>by
  rw[bU,cS] at hn;unfold gU;by_cases hx:x=k
  ·rw[if_pos hx];subst hx;refine⟨by rw[bU,cS];exact hn,fun y=>?_⟩;simp
  ·rw[if_neg hx];obtain⟨h1,h2⟩:=Eo (x:=x) (v:=v) hn.2;refine⟨?_,fun y=>?_⟩
   ·rw[bU,cS];exact⟨fun q=>((h2 k).1 q).elim (fun e=>hx e.symm) hn.1,h1⟩
   ·rw[bU,gQ,h2 y,bU,gQ];constructor
    ·rintro(q|q|q)
     ·exact .inr (.inl q)
     ·exact .inl q
     ·exact .inr (.inr q)
    ·rintro(q|q|q)
     ·exact .inr (.inl q)
     ·exact .inl q
     ·exact .inr (.inr q)
theorem Ep{α:Type}{x:ah}:∀{l:List (ah×α)},(l.map (·.1)).Nodup->((lI l x).map (·.1)).Nodup/\∀y,y∈(lI l x).map (·.1)->y∈l.map (·.1)
 | [],_=>by simp[lI]
 | (k,u)::l,hn=>by
  rw[bU,cS] at hn;unfold lI;by_cases hx:x=k
  ·rw[if_pos hx];exact⟨hn.2,fun y hy=>bo _ hy⟩
  ·rw[if_neg hx];obtain⟨h1,h2⟩:=Ep (x:=x) hn.2;refine⟨?_,fun y hy=>?_⟩
   ·rw[bU,cS];exact⟨fun q=>hn.1 (h2 k q),h1⟩
   ·rw[bU,gQ] at hy |-;exact hy.imp id (h2 y)
theorem pg:∀(l m:List ah),l.Nodup->(∀x∈l,x∈m)->l.length<=m.length
 | [],m,_,_=>an
 |x::l,m,hn,h=>by
  rw[cS] at hn;have hx:=h x an;obtain⟨m1,m2,rfl⟩:=List.append_of_mem hx;have:=pg l (m1++m2) hn.2 (fun y hy=>by
   have Y6:=h y (bo _ hy);rw[dZ,gQ] at Y6;rw[dZ];rcases Y6 with q|q|q
   ·exact .inl q
   ·rw[q] at hy;exact absurd hy hn.1
   ·exact .inr q)
  simp only[List.length_append,List.length_cons] at this |-;omega
structure fX(s:kT)(fs:List (ah×ah)):Prop where
 get:∀x,eO s.th x=eO fs x
 tk:(s.th.map (·.1)).Nodup/\∀x∈s.th.map (·.1),x∈je
 fk:(fs.map (·.1)).Nodup/\∀x∈fs.map (·.1),x∈je
theorem fX.gT{s:kT}{fs:List (ah×ah)}(h:fX s fs):s.th.length<=6/\fs.length<=6:=by
 have h1:=pg _ _ h.tk.1 h.tk.2;have h2:=pg _ _ h.fk.1 h.fk.2;simp[je] at h1 h2;exact⟨h1,h2⟩
theorem Sd{fs:List (ah×ah)}(x:ah)(h:(fs.map (·.1)).Nodup):((rJ fs x).map (·.1)).Nodup/\(∀y∈(rJ fs x).map (·.1),y∈fs.map (·.1))/\x∉(rJ fs x).map (·.1):=by
 refine⟨(List.Sublist.map _ List.filter_sublist).nodup h,fun y hy=>?_,fun q=>?_⟩
 ·obtain⟨f,hf,rfl⟩:=List.mem_map.1 hy;exact List.mem_map.2 ⟨f,(List.mem_filter.1 hf).1,rfl⟩
 ·obtain⟨f,hf,e⟩:=List.mem_map.1 q;have:=(List.mem_filter.1 hf).2;simp at this;exact this e
theorem Ck{fs:List (ah×ah)}(x t:ah)(there:Bool)(h:(fs.map (·.1)).Nodup/\∀y∈fs.map (·.1),y∈je)(hx:x∈je):((pC fs x t there).map (·.1)).Nodup/\∀y∈(pC fs x t there).map (·.1),y∈je:=by
 obtain⟨h1,h2,h3⟩:=Sd x h.1;unfold pC;cases there
 ·simp only[fl,if_false,List.append_nil];exact⟨h1,fun y hy=>h.2 y (h2 y hy)⟩
 ·simp only[if_true,List.map_append,bU,oe];refine⟨List.nodup_append.2 ⟨h1,an,fun a ha b hb e=>?_⟩,fun y hy=>?_⟩
  ·have ex:a=x:=e.trans (by simpa using hb);rw[ex] at ha;exact h3 ha
  ·rcases List.mem_append.1 hy with hy|hy
   ·exact h.2 y (h2 y hy)
   ·simp at hy;rw[hy];exact hx
theorem fX.edit{s:kT}{fs:List (ah×ah)}(h:fX s fs){x:ah}(t:ah)(hx:x∈je){s':kT}(hs:s'.th=gU s.th x t):fX s' (pC fs x t true):=by
 obtain⟨k1,k2⟩:=Eo (x:=x) (v:=t) h.tk.1;refine⟨fun y=>?_,⟨by rw[hs];exact k1,fun y hy=>?_⟩,Ck x t true h.fk hx⟩
 ·rw[hs,IU,yD,h.get];simp
 ·rw[hs,k2] at hy;rcases hy with rfl|hy
  ·exact hx
  ·exact h.tk.2 y hy
theorem fX.remove{s:kT}{fs:List (ah×ah)}(h:fX s fs){x:ah}(t:ah)(hx:x∈je){s':kT}(hs:s'.th=lI s.th x):fX s' (pC fs x t false):=by
 obtain⟨k1,k2⟩:=Ep (x:=x) h.tk.1;refine⟨fun y=>?_,⟨by rw[hs];exact k1,fun y hy=>?_⟩,Ck x t false h.fk hx⟩
 ·rw[hs,IV x y _ h.tk.1,yD,h.get];simp
 ·rw[hs] at hy;exact h.tk.2 y (k2 y hy)
theorem fX.Xo{s:kT}{fs:List (ah×ah)}(h:fX s fs){x:ah}(t:ah)(hx:x∈je)(hn:eO s.th x=none):fX s (pC fs x t false):=by
 refine⟨fun y=>?_,h.tk,Ck x t false h.fk hx⟩;rw[yD];by_cases e:y=x
 ·rw[if_pos e,e,hn];simp
 ·rw[if_neg e];exact h.get y
theorem fX.same{s s':kT}{fs:List (ah×ah)}(h:fX s fs)(e:s'.th=s.th):fX s' fs:=⟨fun x=>by rw[e];exact h.get x,by rw[e];exact h.tk,h.fk⟩
def iv(a:Int):ah:=je[cW a 6]'(lv a aa)
theorem Se(a:Int):iv a∈je:=aD _
section
variable {Fin:bH} {o o' o1 o2:aM} {w w' w1 w2:ae} {S:Nat} {K:sj} {s s':kT} {lab lab' eN gP:Nat->Nat} {rv fv:Value} {fs:List (ah×ah)} {ed:Nat}
structure Vg(o:aM)(w:ae)(S:Nat)(K:sj)(s:kT)(lab:Nat->Nat)(rv fv:Value)(fs:List (ah×ah))(ed:Nat):Prop where
 fC:bg o w K s 0 lab
 sound:Sound K s
 blk:w.heap[S]?=some (.cells #[.pointer (some ⟨K.kb,0,none⟩),rv,fv,.int .i64 ed] 39)
 own:o S
 Vh:lab S=7
 files:qe o w fv fs
 Vi:∀g,fv.ownBlock=some g->lab g=7/\g≠S
 Mv:fX s fs
structure iw(S:Nat)(o:aM)(w:ae)(lab:Nat->Nat)(o':aM)(w':ae)(lab':Nat->Nat):Prop where
 aU:bu (fun b=>lab b<=6\/b=S) o w o' w'
 lab:∀b,b<w.heap.size->lab' b=lab b
theorem iw.refl(hF:bE ar L0 o w):iw S o w lab o w lab:=⟨bu.refl hF,fun _ _=>rfl⟩
theorem iw.trans(h:iw S o w lab o1 w1 eN)(k:iw S o1 w1 eN o2 w2 gP):iw S o w lab o2 w2 gP:=by
 have hz:=h.aU.size;refine⟨⟨k.aU.ay,fun b hb=>k.aU.more b (h.aU.more b hb),fun b hb=>(k.aU.new b hb).elim (fun q=>h.aU.new b q) fun q=>.inr aa,by have:=k.aU.size;omega,fun b hb hx=>?_⟩,fun b hb=>(k.lab b aa).trans (h.lab b hb)⟩;rw[k.aU.same b aa (by rw[h.lab b hb];exact hx),h.aU.same b hb hx]
theorem iw.k(h:iw S o w lab o1 w1 eN)(k:cK o1 w1 eN o2 w2 gP):iw S o w lab o2 w2 gP:=h.trans ⟨k.aU.mono fun b hb=>.inl hb,k.lab⟩
theorem iw.wrote{A:Nat}(h:iw S o w lab o1 w1 eN)(hA:w.heap.size<=A\/A=S)(hF:bE ar L0 o1 w2)(on:cN A w1 w2):iw S o w lab o1 w2 eN:=by
 refine⟨⟨hF,h.aU.more,h.aU.new,by rw[on.1];exact h.aU.size,fun b hb hx=>?_⟩,h.lab⟩;rw[on.2 b (fun e=>by rcases hA with q|q;omega;exact hx (.inr (e.trans q)))];exact h.aU.same b hb hx
theorem bg.YP{lk:Int}(h:bg o1 w1 K s lk eN)(hl:eN S=7)(ZE:S<w1.heap.size)(W:bu (fun b=>b=S) o1 w1 o2 w2):∃gP,bg o2 w2 K s lk gP/\iw S o1 w1 eN o2 w2 gP/\(∀b,b<w1.heap.size->gP b=eN b)/\∀b,w1.heap.size<=b->gP b=7:=by
 have hq:∀b,b<w1.heap.size->(if b<w1.heap.size then eN b else 7)=eN b:=fun b hb=>if_pos hb;refine⟨fun b=>if b<w1.heap.size then eN b else 7,(h.Ix fun b hb=>hq b (h.ay.lt hb)).aside W (fun b hb=>?_),⟨W.mono fun b hb=>.inr hb,hq⟩,hq,fun b hb=>if_neg aa⟩;rw[hb,hq S ZE];exact hl
theorem bg.rN{A:Nat}{lk:Int}(h:bg o1 w1 K s lk eN)(U:iw S o w lab o1 w1 eN)(hl:eN A=7)(hA:w.heap.size<=A\/A=S)(hF:bE ar L0 o1 w2)(on:cN A w1 w2):bg o1 w2 K s lk eN/\iw S o w lab o1 w2 eN :=
 ⟨h.aside (ex:=fun b=>b=A) (bu.db hF on rfl) fun b hb=>by rw[hb];exact hl,U.wrote hA hF on⟩
theorem Cm{w:ae}{b:Nat}{t:TypeId}{c0 c1 c2 c3:Value}(h:w.heap[b]?=some (.cells #[c0,c1,c2,c3] t)):w.cell? ⟨b,0,none⟩=some c0/\w.cell? ⟨b,1,none⟩=some c1/\w.cell? ⟨b,2,none⟩=some c2/\w.cell? ⟨b,3,none⟩=some c3:=by
 simp[World.cell?,h]
theorem qe.step(h:qe o w fv fs)(hl:∀g,fv.ownBlock=some g->lab g=7/\g≠S)(U:iw S o w lab o' w' lab')(hF:bE ar L0 o w):qe o' w' fv fs/\∀g,fv.ownBlock=some g->lab' g=7/\g≠S:=by
 have bZ:∀g,fv.ownBlock=some g->g<w.heap.size:=fun g hg=>hF.lt (fO hF h.cl g hg);refine⟨h.keep U.aU.more fun g hg=>U.aU.same g (bZ g hg) (by rw[(hl g hg).1];intro q;rcases q with q|q;omega;exact(hl g hg).2 q),fun g hg=>⟨(U.lab g (bZ g hg)).trans (hl g hg).1,(hl g hg).2⟩⟩
def Sf(K:sj)(kd a b:Int)(s s':kT)(fs YQ:List (ah×ah))(ed Wt:Nat)(n:Int)(y:ah):Prop :=
 (kd=0/\n=0/\y=aN/\Wt=ed+1/\YQ=pC fs (iv a) (qH b) true/\∃rE,s'={s with th:=gU s.th (iv a) (qH b),st:=gU s.st (iv a) (IntKind.i64.wrap (dC s.st (iv a)+1)),qv:=rE,qn:=(iX s.qn s.lost (iv a)).1,lost:=(iX s.qn s.lost (iv a)).2}) \/
 (kd=1/\n=0/\y=aN/\YQ=pC fs (iv a) aN false/\((eO s.th (iv a)≠none/\Wt=ed+1/\∃rE,s'={s with th:=lI s.th (iv a),st:=gU s.st (iv a) (IntKind.i64.wrap (dC s.st (iv a)+1)),qv:=rE,qn:=(iX s.qn s.lost (iv a)).1,lost:=(iX s.qn s.lost (iv a)).2})\/(eO s.th (iv a)=none/\Wt=ed/\s'=s))) \/
 (kd=2/\n=0/\y=aN/\YQ=fs/\Wt=ed/\((¬p9 s.time (1+cW a 9)/\s'=s)\/(p9 s.time (1+cW a 9)/\s'={s with time:=s.time+(1+(cW a 9:Int)).toNat}))) \/
 (kd≠0/\kd≠1/\kd≠2/\YQ=fs/\Wt=ed/\∃F,((s.phase=2\/s.phase=3)->∃lo,s.fd=some (lo,F))/\kX K s s' F (fileOf s.src (s.rd.map (·.1))) (did n y))
theorem YR[Payload](h:Vg o w S K s lab rv fv fs ed)(kd a b:Int)(ha1:-9223372036854775808<=a)(ha2:a<=9223372036854775807)(Ag:-9223372036854775808<=b)(pE:b<=9223372036854775807)(hed:ed<4611686018427387904):
  bp ar (XB ar Fin 0) 14 #[.pointer (some ⟨S,0,none⟩),.agg #[.int .i64 kd,.int .i64 a,.int .i64 b]] o w fun v o' w'=>∃n y s' lab' zq YQ Wt,v=.tuple #[.agg #[.int .i64 n,.string y],.bool true]/\Vg o' w' S K s' lab' rv zq YQ Wt/\Sf K kd a b s s' fs YQ ed Wt n y/\iw S o w lab o' w' lab'/\∀g,zq.ownBlock=some g->fv.ownBlock=some g\/w.heap.size<=g:=by
 have W:=bJ (P:=ar) (Fin:=Fin) (d:=0);have hSl:=h.fC.ay.lt h.own;refine dJ W func14 ai ?_;walk_nrmf Tryz.f14;refine aA ?_;refine cq aX h.fC.ay rfl ai ai ?_ rfl (R:=fun wl v aI=>v=.pointer (some ⟨wl.heap.size,0,none⟩)/\aI=wl.alloc (Obj.cells #[.int .i64 kd,.int .i64 a,.int .i64 b] 30)) (fun wl aE=>⟨_,_,by first|(simp[go_sem];done)|(simp[go_sem];rfl),rfl,rfl⟩) fun wl v1 aI w1 aE hR ba=>?_
 ·refine cj ?_;refine cJ (vs:=[_,_,_]) (fun x hx=>?_);simp at hx;rcases hx with rfl|rfl|rfl;all_goals exact bN
 obtain⟨rfl,hR⟩:=hR;obtain⟨z1,k1,qK⟩:=ba.alloc h.fC.ay aE hR;obtain⟨W1,hX1⟩:=bu.mn ba.ay z1 k1;rw[aE.size];clear hR ba aE wl aI;generalize grow o w w1=o1 at *;have l1:w.heap.size<w1.heap.size:=aa;clear z1;refine aA ?_;refine cq aX W1.ay rfl ai ai kp rfl (R:=fun wl v aI=>v=.pointer (some ⟨wl.heap.size,0,none⟩)/\aI=wl.alloc (Obj.cells #[.int .i64 0,.string aN] 32)) (fun wl aE=>⟨_,_,by first|(simp[go_sem];done)|(simp[go_sem];rfl),rfl,rfl⟩) fun wl v1 aI w2 aE hR ba=>?_;obtain⟨rfl,hR⟩:=hR;obtain⟨z2,k2,O6⟩:=ba.alloc W1.ay aE hR;obtain⟨W2,Hi⟩:=bu.mn ba.ay z2 k2;rw[aE.size];clear hR ba aE wl aI;generalize grow o1 w1 w2=o2 at *;have hX2:=(k2 _ aa).trans qK;have oX2:=W2.more _ hX1;have l2:w1.heap.size<w2.heap.size:=aa;clear z2;refine aA ?_;refine aF W rfl ai rfl func18 af rfl aC rfl ((FD W2.ay).mono ?_);rintro v3 o3 w3 ⟨N3,rfl,z3,kn3⟩;have W3:bu (fun _=>False) o2 w2 o3 w3:=bu.dL N3;have ZJ:o3 w2.heap.size:=by rw[N3.own];exact .inr ⟨ag _,aa⟩
 have hX3:=(N3.old _ aa).trans hX2;have rZ:=(N3.old w1.heap.size aa).trans O6;have oX3:=W3.more _ oX2;have oA3:=W3.more _ Hi;have hAX:w.heap.size<w1.heap.size/\w1.heap.size<w2.heap.size:=⟨aa,aa⟩;have W03:=(W1.trans W2).trans W3;have zz3:w2.heap.size<w3.heap.size:=aa;clear z3 l1 l2 k1 k2 qK O6 hX1 hX2 oX2 Hi N3 W1 W2 W3;obtain⟨oI,h3,T3,Cy,SY⟩:=h.fC.grown (cK.refl h.fC.ay) W03;have U3:=(iw.refl (S:=S) (lab:=lab) h.fC.ay).k T3;have hlX:=SY w.heap.size (ag _);have uX:=SY w1.heap.size aa;have acT:oI S=7:=(Cy S hSl).trans h.Vh;have hS3:=(W03.same S hSl id).trans h.blk;have oS3:=W03.more _ h.own;obtain⟨hf3,acU⟩:=h.files.step h.Vi U3 h.fC.ay;clear SY Cy T3 W03;have hp:=lv a (n:=6) aa;have sd:w3.cell? ⟨w2.heap.size,cW a 6,none⟩=some (.string (iv a)):=by
  have YG:iG[cW a 6]?=some (.string (iv a)):=by
   rw[iG,fE,fB,cp hp];rfl
  simp[World.cell?,kn3,YG]
 have hpI:((cW a 6:Nat):Int)<6:=aa;have xV:=Se a;have PT:=xr xV;have Vw:(iv a).size<=1000000:=by have:=PT.2.1;omega
 obtain⟨x0,x1,x2,-⟩:=eE hX3;generalize Ri:w2.heap.size=Nb at *;generalize hAe:w1.heap.size=A at *;generalize hXe:w.heap.size=X at *;have O2:w.heap.size<=A:=aa;have tD:A≠S:=aa;have ajP:X≠S:=aa;clear Ri hAe;refine aA ?_;refine rdC h3.ay oX3 x1 fun _=>?_;refine aA ?_;refine aF W rfl ai rfl func19 af rfl aC rfl ((vC h3.ay a 6 ha1 ha2 aa aa).mono ?_);rintro v4 o4 w4 ⟨rfl,N4⟩;have W4:bu (fun _=>False) o3 w3 o4 w4:=bu.dL N4;obtain⟨uu,h4,T4,FX,-⟩:=h3.grown (cK.refl h3.ay) W4;have U4:=U3.k T4;have zA3:=h3.ay.lt oA3;have zX3:=h3.ay.lt oX3;have zS3:=h3.ay.lt oS3;have hX4:=(N4.old X zX3).trans hX3;have mq:=(N4.old A zA3).trans rZ;have O4:=(N4.old S zS3).trans hS3;have ahg:=(cell_of (N4.old Nb zz3)).trans sd;have acV:=W4.more _ ZJ;have ZO:=W4.more _ oX3;have Lj:=W4.more _ oA3;have Er:=W4.more _ oS3;have anW:=(FX X zX3).trans hlX;have ON:=(FX A zA3).trans uX;have OO:=(FX S zS3).trans acT;obtain⟨ZP,Sg⟩:=hf3.step acU ((iw.refl (S:=S) h3.ay).k T4) h3.ay;obtain⟨x0,x1,x2,-⟩:=eE hX4;have d0:w4.cell? ⟨S,0,none⟩=some (.pointer (some ⟨K.kb,0,none⟩)):=by simp[World.cell?,O4]
 clear hX3 rZ hS3 sd ZJ oX3 oA3 oS3 hlX uX acT hf3 acU T4 FX N4 W4 h3 U3 zz3 zA3 zX3 zS3 kn3;refine aA ?_;refine rdC h4.ay acV ahg fun _=>?_;refine aA ?_;refine rdC h4.ay ZO x0 fun _=>?_;walk_nrm;by_cases Gc:kd=0
 ·subst Gc;refine aA ?_;refine rdC h4.ay ZO x2 fun _=>?_;refine aA ?_;refine aF W rfl ai rfl func20 af rfl aC rfl ((UY h4.ay b Ag pE).mono ?_);rintro v5 o5 w5 ⟨rfl,N5⟩;have W5:bu (fun _=>False) o4 w4 o5 w5:=bu.dL N5;obtain⟨nJ,h5,T5,O7,-⟩:=h4.grown (cK.refl h4.ay) W5;have U5:=U4.k T5;have qi:=(N5.old A (h4.ay.lt Lj)).trans mq;have my:=(N5.old S (h4.ay.lt Er)).trans O4;have xx:=W5.more _ Lj;have yE:=W5.more _ Er;have r9:=(O7 A (h4.ay.lt Lj)).trans ON;have uv:=(O7 S (h4.ay.lt Er)).trans OO;obtain⟨R7,Dj⟩:=ZP.step Sg ((iw.refl (S:=S) h4.ay).k T5) h4.ay;have d05:w5.cell? ⟨S,0,none⟩=some (.pointer (some ⟨K.kb,0,none⟩)):=by simp[World.cell?,my]
  refine aA ?_;refine rdC h5.ay yE d05 fun _=>?_;refine aA ?_;refine aF W rfl ai rfl func21 af rfl aC rfl ((Rx h5 (iv a) (qH b) Vw).mono ?_);rintro v6 o6 w6 ⟨Si,T6,hq⟩;have uK:isName (iv a)/\(qH b).size<=12/\¬(eO s.th (iv a)=none/\12<=s.th.length):=⟨PT,B8 b,fun q=>by have:=h.Mv.gT.1;omega⟩;rcases hq with⟨e,-,-,q,-⟩|⟨rfl,-,rE,h6⟩
  ·exact absurd uK q
  have u6:=h.sound.edit (x:=iv a) (t:=qH b) (B8 b) (gU s.st (iv a) (IntKind.i64.wrap (dC s.st (iv a)+1))) rE;have OP:=(T6.aU.same A (h5.ay.lt xx) (by rw[r9];omega)).trans qi;have Sj:=(T6.aU.same S (h5.ay.lt yE) (by rw[uv];omega)).trans my;have Es:=T6.aU.more _ xx;have FK:=T6.aU.more _ yE;have Ll:=(T6.lab A (h5.ay.lt xx)).trans r9;have Dk:=(T6.lab S (h5.ay.lt yE)).trans uv;obtain⟨Sk,Cn⟩:=R7.step Dj ((iw.refl (S:=S) h5.ay).k T6) h5.ay;have U6:=U5.k T6;refine aA ?_;refine aF W rfl ai rfl func22 af rfl aC rfl ((RR h6.ay S _ rv fv ed fs (iv a) (qH b) true Sj FK Sk (by have:=h.Mv.gT.2;omega) (fun e=>(Cn S e).2 rfl)).mono ?_);rintro v7 o7 w7 ⟨rfl,W7,zq,Sl,YS,Mw⟩;obtain⟨B7,h7,T7,od,UQ⟩:=h6.YP Dk (h6.ay.lt FK) W7;have U7:=U6.trans T7;have Jf:=(W7.same A (h6.ay.lt Es) tD).trans OP;have IX:=W7.more _ Es;have IY:=W7.more _ FK;have K8:=(od A (h6.ay.lt Es)).trans Ll;have Lm:=(od S (h6.ay.lt FK)).trans Dk;have OQ:∀g,zq.ownBlock=some g->B7 g=7/\g≠S:=fun g hg=>⟨UQ g (Mw g hg),by have:=Mw g hg;have:=h6.ay.lt FK;omega⟩;have hwe:IntKind.i64.wrap ((ed:Int)+1)=((ed+1:Nat):Int):=by rw[IntKind.wrap_i64]<;>omega
  refine aA ?_;refine rdC h7.ay IY (Cm Sl).2.2.2 fun _=>?_;refine aA ?_;refine bD aX h7.ay rfl ai ai ?_ rfl (R:=fun wl aI=>aI=wl.setCell ⟨S,3,none⟩ (.int .i64 ((ed+1:Nat):Int))) (fun wl aE=>⟨_,?_,rfl⟩) fun wl aI w8 aE hR ba=>?_
  ·exact dU (aH IY) bN
  ·have e:=(aE.heap _ IY).trans Sl;have e3:wl.cell? ⟨S,3,none⟩=some (.int .i64 ed):=by simp[World.cell?,e]
   have f3:wl.frozen? ⟨S,3,none⟩=false:=by simp[World.frozen?,e]
   simp[go_sem,e3,f3,hwe]
  have hO:cN S wl aI:=by rw[hR];exact fW _ _ _ _
  obtain⟨Aj,kSx,ey⟩:=ba.only aE IY hO;have C8:=ba.ay;rw[ey] at C8 |-;have kS8:w8.heap[S]?=some (.cells #[.pointer (some ⟨K.kb,0,none⟩),rv,zq,.int .i64 ((ed+1:Nat):Int)] 39):=by
   rw[kSx,hR];have e:=(aE.heap _ IY).trans Sl;simp[World.setCell,er,e]
  obtain⟨h8,U8⟩:=h7.rN U7 Lm (.inr rfl) C8 Aj;clear hR ba aE hO wl aI ey kSx;refine aA ?_;have KN:=(Aj.2 A tD).trans Jf;obtain⟨ZL,ahh⟩:=YS.step (lab:=B7) OQ ((iw.refl (S:=S) h7.ay).wrote (.inr rfl) C8 Aj) h7.ay;refine bD aX h8.ay rfl ai ai ?_ rfl (R:=fun wl aI=>aI=(wl.setCell ⟨A,0,none⟩ (.int .i64 0)).setCell ⟨A,1,none⟩ (.string aN)) (fun wl aE=>⟨_,?_,rfl⟩) fun wl aI w9 aE hR ba=>?_
  ·refine dU ?_ ?_
   ·exact aH IX
   ·refine cJ (vs:=[_,_]) (fun x hx=>?_);simp at hx;rcases hx with rfl|rfl
    ·exact bN
    ·exact bf
  ·obtain⟨e0,e1,f0,f1⟩:=bT ((aE.heap _ IX).trans KN)
   first
   | (simp[go_sem,e0,e1,f0,f1];done)
   | (simp[go_sem,e0,e1,f0,f1];rfl)
  have hO:cN A wl aI:=by rw[hR];exact iB _ _ _ _ _ _
  obtain⟨kK,FL,ey⟩:=ba.only aE IX hO;have gw:=ba.ay;rw[ey] at gw |-;rw[hR,nG ((aE.heap _ IX).trans KN)] at FL;obtain⟨h9,U9⟩:=h8.rN U8 K8 (.inl O2) gw kK;clear hR ba aE hO wl aI ey;refine aA ?_;have Vj:=(kK.2 S (fun e=>tD e.symm)).trans kS8;have Sm:∀g,zq.ownBlock=some g->g≠A:=fun g hg=>by have:=Mw g hg;have:=h6.ay.lt Es;omega
  have Vk:=ZL.keep (o':=o7) (w':=w9) (fun _ q=>q) (fun g hg=>kK.2 g (Sm g hg));refine⟨.inr trivial,trivial,.tuple #[.agg #[.int .i64 0,.string aN],.bool true],p7 (fun n=>?_) (fun n e he=>?_),_,_,_,_,_,_,_,rfl,⟨h9,u6,Vj,IY,Lm,Vk,ahh,h.Mv.edit (qH b) xV rfl⟩,.inl ⟨rfl,rfl,rfl,rfl,rfl,rE,rfl⟩,U9,fun g hg=>.inr (by have:=Mw g hg;have:=U6.aU.size;omega)⟩
  ·obtain⟨c0,c1,-⟩:=bT (w:=w9.at n) FL;simp[results,results14,go_sem,c0,c1]
  ·obtain⟨c0,c1,-⟩:=bT (w:=w9.at n) FL;simp[results,results14,go_sem,c0,c1] at he;rcases he with rfl|rfl;all_goals exact⟨_,_,_,rfl,IX⟩
 by_cases VY:kd=1
 ·subst VY;clear Gc;refine aA ?_;refine aF W rfl ai rfl func35 af rfl aC rfl ((ack h4.ay S _ rv fv ed fs (iv a) O4 Er ZP (by have:=h.Mv.gT.2;omega)).mono ?_);rintro v5 o5 w5 ⟨rfl,N5⟩;have W5:bu (fun _=>False) o4 w4 o5 w5:=bu.dL N5;obtain⟨nJ,h5,T5,O7,-⟩:=h4.grown (cK.refl h4.ay) W5;have U5:=U4.k T5;have qi:=(N5.old A (h4.ay.lt Lj)).trans mq;have my:=(N5.old S (h4.ay.lt Er)).trans O4;have xx:=W5.more _ Lj;have yE:=W5.more _ Er;have r9:=(O7 A (h4.ay.lt Lj)).trans ON;have uv:=(O7 S (h4.ay.lt Er)).trans OO;obtain⟨R7,Dj⟩:=ZP.step Sg ((iw.refl (S:=S) h4.ay).k T5) h4.ay;have d05:w5.cell? ⟨S,0,none⟩=some (.pointer (some ⟨K.kb,0,none⟩)):=by simp[World.cell?,my]
  have hhi:=Sc fs (iv a);rw[<- h.Mv.get] at hhi;cases Bg:FB fs (iv a)
  ·have KJ:eO s.th (iv a)=none:=aO fun q=>by rw[hhi.2 q] at Bg;cases Bg
   clear hhi;refine aA ?_;refine rdC h5.ay yE d05 fun _=>?_;refine aA ?_;refine aF W rfl ai rfl func36 af rfl aC rfl ((Iv h5 (iv a) Vw).mono ?_);rintro v6 o6 w6 ⟨Si,T6,hq⟩;rcases hq with⟨e,rfl,-,q,h6⟩|⟨-,q,-⟩;rotate_left
   ·exact absurd KJ q.2
   have e7:=q.2 PT;subst e7;have U6:=U5.k T6;have OP:=(T6.aU.same A (h5.ay.lt xx) (by rw[r9];omega)).trans qi;have Sj:=(T6.aU.same S (h5.ay.lt yE) (by rw[uv];omega)).trans my;have Es:=T6.aU.more _ xx;have FK:=T6.aU.more _ yE;have Ll:=(T6.lab A (h5.ay.lt xx)).trans r9;have Dk:=(T6.lab S (h5.ay.lt yE)).trans uv;obtain⟨Sk,Cn⟩:=R7.step Dj ((iw.refl (S:=S) h5.ay).k T6) h5.ay;refine aA ?_;refine aF W rfl ai rfl func22 af rfl (by first|(simp[Act.eval];done)|(simp[Act.eval];rfl)) rfl ((RR h6.ay S _ rv fv ed fs (iv a) aN false Sj FK Sk (by have:=h.Mv.gT.2;omega) (fun e=>(Cn S e).2 rfl)).mono ?_);rintro v7 o7 w7 ⟨rfl,W7,zq,Sl,YS,Mw⟩;obtain⟨B7,h7,T7,od,UQ⟩:=h6.YP Dk (h6.ay.lt FK) W7;have U7:=U6.trans T7;have Jf:=(W7.same A (h6.ay.lt Es) tD).trans OP;have IX:=W7.more _ Es;have IY:=W7.more _ FK;have K8:=(od A (h6.ay.lt Es)).trans Ll;have Lm:=(od S (h6.ay.lt FK)).trans Dk;have OQ:∀g,zq.ownBlock=some g->B7 g=7/\g≠S:=fun g hg=>⟨UQ g (Mw g hg),by have:=Mw g hg;have:=h6.ay.lt FK;omega⟩;have Sm:∀g,zq.ownBlock=some g->g≠A:=fun g hg=>by have:=Mw g hg;have:=h6.ay.lt Es;omega
   have hwe:IntKind.i64.wrap ((ed:Int)+1)=((ed+1:Nat):Int):=by rw[IntKind.wrap_i64]<;>omega
   refine aA ?_;refine bD aX h7.ay rfl ai ai ?_ rfl (R:=fun wl aI=>aI=(wl.setCell ⟨A,0,none⟩ (.int .i64 0)).setCell ⟨A,1,none⟩ (.string aN)) (fun wl aE=>⟨_,?_,rfl⟩) fun wl aI w9 aE hR ba=>?_
   ·refine dU ?_ ?_
    ·exact aH IX
    ·refine cJ (vs:=[_,_]) (fun x hx=>?_);simp at hx;rcases hx with rfl|rfl
     ·exact bN
     ·exact bf
   ·obtain⟨e0,e1,f0,f1⟩:=bT ((aE.heap _ IX).trans Jf)
    first
    | (simp[go_sem,e0,e1,f0,f1];done)
    | (simp[go_sem,e0,e1,f0,f1];rfl)
   have hO:cN A wl aI:=by rw[hR];exact iB _ _ _ _ _ _
   obtain⟨kK,FL,ey⟩:=ba.only aE IX hO;have gw:=ba.ay;rw[ey] at gw |-;rw[hR,nG ((aE.heap _ IX).trans Jf)] at FL;obtain⟨h9,U9⟩:=h7.rN U7 K8 (.inl O2) gw kK;clear hR ba aE hO wl aI ey;refine aA ?_;have Vj:=(kK.2 S (fun e=>tD e.symm)).trans Sl;have Vk:=YS.keep (o':=o7) (w':=w9) (fun _ q=>q) (fun g hg=>kK.2 g (Sm g hg));refine⟨.inr trivial,trivial,.tuple #[.agg #[.int .i64 0,.string aN],.bool true],p7 (fun n=>?_) (fun n e he=>?_),_,_,_,_,_,_,_,rfl,⟨h9,h.sound,Vj,IY,Lm,Vk,OQ,h.Mv.Xo aN xV KJ⟩,.inr (.inl ⟨rfl,rfl,rfl,rfl,.inr ⟨KJ,rfl,rfl⟩⟩),U9,fun g hg=>.inr (by have:=Mw g hg;have:=U6.aU.size;omega)⟩
   ·obtain⟨c0,c1,-⟩:=bT (w:=w9.at n) FL;simp[results,results14,go_sem,c0,c1]
   ·obtain⟨c0,c1,-⟩:=bT (w:=w9.at n) FL;simp[results,results14,go_sem,c0,c1] at he;rcases he with rfl|rfl;all_goals exact⟨_,_,_,rfl,IX⟩
  ·have Vl:eO s.th (iv a)≠none:=hhi.1 Bg;clear hhi;refine aA ?_;refine rdC h5.ay yE d05 fun _=>?_;refine aA ?_;refine aF W rfl ai rfl func36 af rfl aC rfl ((Iv h5 (iv a) Vw).mono ?_);rintro v6 o6 w6 ⟨Si,T6,hq⟩;rcases hq with⟨e,rfl,-,q,-⟩|⟨rfl,-,rE,h6⟩
   ·exact absurd ⟨PT,Vl⟩ q.1
   have u6:=h.sound.remove (x:=iv a) (gU s.st (iv a) (IntKind.i64.wrap (dC s.st (iv a)+1))) rE;have U6:=U5.k T6;have OP:=(T6.aU.same A (h5.ay.lt xx) (by rw[r9];omega)).trans qi;have Sj:=(T6.aU.same S (h5.ay.lt yE) (by rw[uv];omega)).trans my;have Es:=T6.aU.more _ xx;have FK:=T6.aU.more _ yE;have Ll:=(T6.lab A (h5.ay.lt xx)).trans r9;have Dk:=(T6.lab S (h5.ay.lt yE)).trans uv;obtain⟨Sk,Cn⟩:=R7.step Dj ((iw.refl (S:=S) h5.ay).k T6) h5.ay;refine aA ?_;refine aF W rfl ai rfl func22 af rfl (by first|(simp[Act.eval];done)|(simp[Act.eval];rfl)) rfl ((RR h6.ay S _ rv fv ed fs (iv a) aN false Sj FK Sk (by have:=h.Mv.gT.2;omega) (fun e=>(Cn S e).2 rfl)).mono ?_);rintro v7 o7 w7 ⟨rfl,W7,zq,Sl,YS,Mw⟩;obtain⟨B7,h7,T7,od,UQ⟩:=h6.YP Dk (h6.ay.lt FK) W7;have U7:=U6.trans T7;have Jf:=(W7.same A (h6.ay.lt Es) tD).trans OP;have IX:=W7.more _ Es;have IY:=W7.more _ FK;have K8:=(od A (h6.ay.lt Es)).trans Ll;have Lm:=(od S (h6.ay.lt FK)).trans Dk;have OQ:∀g,zq.ownBlock=some g->B7 g=7/\g≠S:=fun g hg=>⟨UQ g (Mw g hg),by have:=Mw g hg;have:=h6.ay.lt FK;omega⟩;have Sm:∀g,zq.ownBlock=some g->g≠A:=fun g hg=>by have:=Mw g hg;have:=h6.ay.lt Es;omega
   have hwe:IntKind.i64.wrap ((ed:Int)+1)=((ed+1:Nat):Int):=by rw[IntKind.wrap_i64]<;>omega
   refine aA ?_;refine rdC h7.ay IY (Cm Sl).2.2.2 fun _=>?_;refine aA ?_;refine bD aX h7.ay rfl ai ai ?_ rfl (R:=fun wl aI=>aI=wl.setCell ⟨S,3,none⟩ (.int .i64 ((ed+1:Nat):Int))) (fun wl aE=>⟨_,?_,rfl⟩) fun wl aI w8 aE hR ba=>?_
   ·exact dU (aH IY) bN
   ·have e:=(aE.heap _ IY).trans Sl;have e3:wl.cell? ⟨S,3,none⟩=some (.int .i64 ed):=by simp[World.cell?,e]
    have f3:wl.frozen? ⟨S,3,none⟩=false:=by simp[World.frozen?,e]
    simp[go_sem,e3,f3,hwe]
   have hO:cN S wl aI:=by rw[hR];exact fW _ _ _ _
   obtain⟨Aj,kSx,ey⟩:=ba.only aE IY hO;have C8:=ba.ay;rw[ey] at C8 |-;have kS8:w8.heap[S]?=some (.cells #[.pointer (some ⟨K.kb,0,none⟩),rv,zq,.int .i64 ((ed+1:Nat):Int)] 39):=by
    rw[kSx,hR];have e:=(aE.heap _ IY).trans Sl;simp[World.setCell,er,e]
   obtain⟨h8,U8⟩:=h7.rN U7 Lm (.inr rfl) C8 Aj;clear hR ba aE hO wl aI ey kSx;refine aA ?_;have KN:=(Aj.2 A tD).trans Jf;have ZL:=YS.keep (o':=o7) (w':=w8) (fun _ q=>q) (fun g hg=>Aj.2 g (OQ g hg).2);refine bD aX h8.ay rfl ai ai ?_ rfl (R:=fun wl aI=>aI=(wl.setCell ⟨A,0,none⟩ (.int .i64 0)).setCell ⟨A,1,none⟩ (.string aN)) (fun wl aE=>⟨_,?_,rfl⟩) fun wl aI w9 aE hR ba=>?_
   ·refine dU ?_ ?_
    ·exact aH IX
    ·refine cJ (vs:=[_,_]) (fun x hx=>?_);simp at hx;rcases hx with rfl|rfl
     ·exact bN
     ·exact bf
   ·obtain⟨e0,e1,f0,f1⟩:=bT ((aE.heap _ IX).trans KN)
    first
    | (simp[go_sem,e0,e1,f0,f1];done)
    | (simp[go_sem,e0,e1,f0,f1];rfl)
   have hO:cN A wl aI:=by rw[hR];exact iB _ _ _ _ _ _
   obtain⟨kK,FL,ey⟩:=ba.only aE IX hO;have gw:=ba.ay;rw[ey] at gw |-;rw[hR,nG ((aE.heap _ IX).trans KN)] at FL;obtain⟨h9,U9⟩:=h8.rN U8 K8 (.inl O2) gw kK;clear hR ba aE hO wl aI ey;refine aA ?_;have Vj:=(kK.2 S (fun e=>tD e.symm)).trans kS8;have Vk:=ZL.keep (o':=o7) (w':=w9) (fun _ q=>q) (fun g hg=>kK.2 g (Sm g hg));refine⟨.inr trivial,trivial,.tuple #[.agg #[.int .i64 0,.string aN],.bool true],p7 (fun n=>?_) (fun n e he=>?_),_,_,_,_,_,_,_,rfl,⟨h9,u6,Vj,IY,Lm,Vk,OQ,h.Mv.remove aN xV rfl⟩,.inr (.inl ⟨rfl,rfl,rfl,rfl,.inl ⟨Vl,rfl,rE,rfl⟩⟩),U9,fun g hg=>.inr (by have:=Mw g hg;have:=U6.aU.size;omega)⟩
   ·obtain⟨c0,c1,-⟩:=bT (w:=w9.at n) FL;simp[results,results14,go_sem,c0,c1]
   ·obtain⟨c0,c1,-⟩:=bT (w:=w9.at n) FL;simp[results,results14,go_sem,c0,c1] at he;rcases he with rfl|rfl;all_goals exact⟨_,_,_,rfl,IX⟩
 by_cases PD:kd=2
 ·subst PD;clear Gc VY;have hp9:=lv a (n:=9) aa;have hw9:IntKind.i64.wrap (1+(cW a 9:Int))=1+(cW a 9:Int):=by rw[IntKind.wrap_i64]<;>omega
  refine aA ?_;refine dq mixed af [some none,some none,some none,some (some (.pointer (some ⟨K.kb,0,none⟩))),some none,some (some (.int .i64 a)),some (some (.int .i64 (cW a 9:Nat))),some none,none,some none]
   (S:=fun σ o' w'=>(σ 8=none/\gi o4 w4 o' w')\/∃y w5 nJ,σ 8=some y/\gi o4 w4 o' w5/\bg o' w5 K s 0 nJ/\(∀b,b<w4.heap.size->nJ b=uu b)/\w'.heap.size=w5.heap.size/\(∀b,b≠K.kb->w'.heap[b]?=w5.heap[b]?)/\((y=.int .i64 8/\¬p9 s.time (1+(cW a 9:Int))/\bg o' w' K s 0 nJ)\/(y=.int .i64 0/\p9 s.time (1+(cW a 9:Int))/\bg o' w' K {s with time:=s.time+(1+(cW a 9:Int)).toNat} 0 nJ))) (.inl ⟨rfl,gi.refl h4.ay⟩) fun v9=>?_
  refine dp ?_;refine bO ?_;refine bK aX rfl rfl rfl ai ai (fun σ o' w' H hS=>?_) ?_
  ·rcases hS with⟨-,G⟩|⟨y,w5,nJ,q,-⟩
   ·have hx:=G.aU.more _ Er;exact rd3 G.aU.ay hx ((cell_of (G.aU.same S (h4.ay.lt Er) id)).trans d0)
   ·rw[H.sg 8 af] at q;cases q
  refine bO ?_;refine bK aX rfl rfl rfl ai ai (fun σ o' w' H hS=>?_) ?_
  ·rcases hS with⟨-,G⟩|⟨y,w5,nJ,q,-⟩
   ·have hx:=G.aU.more _ ZO;exact rd3 G.aU.ay hx ((cell_of (G.aU.same X (h4.ay.lt ZO) id)).trans x1)
   ·rw[H.kF [7,6] 8 af] at q;cases q
  refine bO ?_;refine iL rfl rfl ai rfl func19 af rfl (av:=#[.int .i64 a,.int .i64 9]) aC (fun σ o' w' H hS=>?_) ?_
  ·rcases hS with⟨h8,G⟩|⟨y,w5,nJ,q,-⟩
   ·refine(vC G.aU.ay a 9 ha1 ha2 aa aa).mono ?_;rintro y o5 w5 ⟨rfl,N5⟩;exact⟨rfl,.inl ⟨h8,G.trans (gi.dL N5)⟩⟩
   ·rw[H.kF [7] 8 af] at q;cases q
  walk_nrm;refine tM (y:=.int .i64 (1+(cW a 9:Int))) rfl rfl rfl ai (fun w1=>by simp[go_sem,Act.eval,hw9]) (fun w1=>by simp[go_sem,Act.eval]) ?_;walk_nrm;refine rj rfl rfl ai rfl func37 af rfl (av:=#[.pointer (some ⟨K.kb,0,none⟩),.int .i64 (1+(cW a 9:Int))]) aC (fun σ o' w' H h8 hS=>?_) ?_
  ·rcases hS with⟨-,G⟩|⟨y,w5,nJ,q,-⟩
   ·obtain⟨nJ,h5,-,O7,-⟩:=h4.grown (cK.refl h4.ay) G.aU;refine(Rt h5 (1+(cW a 9:Int))).mono ?_;rintro y o6 w6 ⟨rfl,t1,t2,t3⟩;exact .inr ⟨y,w',nJ,by simp[dB],G,h5,O7,t1,t2,t3⟩
   ·rw[h8] at q;cases q
  refine bO ?_;refine cd fun σ o5 w6 kP hS=>?_;rcases hS with⟨q,-⟩|⟨y,w5,nJ,q,G5,h5,q2,q3,q4,q5⟩
  ·rw[kP 8 dh rfl] at q;cases q
  have hv:v9 8=y:=aK ((kP 8 dh rfl).symm.trans q);clear kP q;rcases q5 with⟨rfl,ht,h6⟩|⟨rfl,ht,h6⟩
  ·simp only[hv];have SQ:=h6.ay;have T6:cK o5 w5 nJ o5 w6 nJ:=cK.of (bu.db (ex:=(·=K.kb)) SQ ⟨q3,q4⟩ rfl) (fun b hb=>by rw[hb,h5.l0];omega);have U6:=(U4.trans ⟨G5.aU.mono (fun b hb=>hb.elim),q2⟩).k T6;have qi:=(G5.aU.same A (h4.ay.lt Lj) id).trans mq;have my:=(G5.aU.same S (h4.ay.lt Er) id).trans O4;have xx:=G5.aU.more _ Lj;have yE:=G5.aU.more _ Er;have r9:=(q2 A (h4.ay.lt Lj)).trans ON;have uv:=(q2 S (h4.ay.lt Er)).trans OO;obtain⟨R7,Dj⟩:=ZP.step Sg (S:=S) (lab':=nJ) ⟨G5.aU.mono (fun b hb=>hb.elim),q2⟩ h4.ay;have OP:=(T6.aU.same A (h5.ay.lt xx) (by rw[r9];omega)).trans qi;have Sj:=(T6.aU.same S (h5.ay.lt yE) (by rw[uv];omega)).trans my;obtain⟨Sk,Cn⟩:=R7.step Dj ((iw.refl (S:=S) h5.ay).k T6) h5.ay;have Sm:∀g,fv.ownBlock=some g->g≠A:=fun g hg=>by have:=h.fC.ay.lt (fO h.fC.ay h.files.cl g hg);omega
   simp only[gN,cZ,if_true,if_false,reduceIte,Nat.reduceEqDiff];refine aA ?_;refine bD aX h6.ay rfl ai ai ?_ rfl (R:=fun wl aI=>aI=(wl.setCell ⟨A,0,none⟩ (.int .i64 0)).setCell ⟨A,1,none⟩ (.string aN)) (fun wl aE=>⟨_,?_,rfl⟩) fun wl aI w9 aE hR ba=>?_
   ·refine dU ?_ ?_
    ·exact aH xx
    ·refine cJ (vs:=[_,_]) (fun x hx=>?_);simp at hx;rcases hx with rfl|rfl
     ·exact bN
     ·exact bf
   ·obtain⟨e0,e1,f0,f1⟩:=bT ((aE.heap _ xx).trans OP)
    first
    | (simp[go_sem,e0,e1,f0,f1];done)
    | (simp[go_sem,e0,e1,f0,f1];rfl)
   have hO:cN A wl aI:=by rw[hR];exact iB _ _ _ _ _ _
   obtain⟨kK,FL,ey⟩:=ba.only aE xx hO;have gw:=ba.ay;rw[ey] at gw |-;rw[hR,nG ((aE.heap _ xx).trans OP)] at FL;obtain⟨h9,U9⟩:=h6.rN U6 r9 (.inl O2) gw kK;clear hR ba aE hO wl aI ey;refine aA ?_;have Vj:=(kK.2 S (fun e=>tD e.symm)).trans Sj;have Vk:=Sk.keep (o':=o5) (w':=w9) (fun _ q=>q) (fun g hg=>kK.2 g (Sm g hg));refine⟨.inr trivial,trivial,.tuple #[.agg #[.int .i64 0,.string aN],.bool true],p7 (fun n=>?_) (fun n e he=>?_),_,_,_,_,_,_,_,rfl,⟨h9,h.sound,Vj,yE,uv,Vk,Cn,h.Mv⟩,.inr (.inr (.inl ⟨rfl,rfl,rfl,rfl,rfl,.inl ⟨ht,rfl⟩⟩)),U9,fun g hg=>.inl hg⟩
   ·obtain⟨c0,c1,-⟩:=bT (w:=w9.at n) FL;simp[results,results14,go_sem,c0,c1]
   ·obtain⟨c0,c1,-⟩:=bT (w:=w9.at n) FL;simp[results,results14,go_sem,c0,c1] at he;rcases he with rfl|rfl;all_goals exact⟨_,_,_,rfl,xx⟩
  ·simp only[hv];have SQ:=h6.ay;have T6:cK o5 w5 nJ o5 w6 nJ:=cK.of (bu.db (ex:=(·=K.kb)) SQ ⟨q3,q4⟩ rfl) (fun b hb=>by rw[hb,h5.l0];omega);have U6:=(U4.trans ⟨G5.aU.mono (fun b hb=>hb.elim),q2⟩).k T6;have qi:=(G5.aU.same A (h4.ay.lt Lj) id).trans mq;have my:=(G5.aU.same S (h4.ay.lt Er) id).trans O4;have xx:=G5.aU.more _ Lj;have yE:=G5.aU.more _ Er;have r9:=(q2 A (h4.ay.lt Lj)).trans ON;have uv:=(q2 S (h4.ay.lt Er)).trans OO;obtain⟨R7,Dj⟩:=ZP.step Sg (S:=S) (lab':=nJ) ⟨G5.aU.mono (fun b hb=>hb.elim),q2⟩ h4.ay;have OP:=(T6.aU.same A (h5.ay.lt xx) (by rw[r9];omega)).trans qi;have Sj:=(T6.aU.same S (h5.ay.lt yE) (by rw[uv];omega)).trans my;obtain⟨Sk,Cn⟩:=R7.step Dj ((iw.refl (S:=S) h5.ay).k T6) h5.ay;have Sm:∀g,fv.ownBlock=some g->g≠A:=fun g hg=>by have:=h.fC.ay.lt (fO h.fC.ay h.files.cl g hg);omega
   simp only[gN,cZ,if_true,if_false,reduceIte,Nat.reduceEqDiff];refine aA ?_;refine bD aX h6.ay rfl ai ai ?_ rfl (R:=fun wl aI=>aI=(wl.setCell ⟨A,0,none⟩ (.int .i64 0)).setCell ⟨A,1,none⟩ (.string aN)) (fun wl aE=>⟨_,?_,rfl⟩) fun wl aI w9 aE hR ba=>?_
   ·refine dU ?_ ?_
    ·exact aH xx
    ·refine cJ (vs:=[_,_]) (fun x hx=>?_);simp at hx;rcases hx with rfl|rfl
     ·exact bN
     ·exact bf
   ·obtain⟨e0,e1,f0,f1⟩:=bT ((aE.heap _ xx).trans OP)
    first
    | (simp[go_sem,e0,e1,f0,f1];done)
    | (simp[go_sem,e0,e1,f0,f1];rfl)
   have hO:cN A wl aI:=by rw[hR];exact iB _ _ _ _ _ _
   obtain⟨kK,FL,ey⟩:=ba.only aE xx hO;have gw:=ba.ay;rw[ey] at gw |-;rw[hR,nG ((aE.heap _ xx).trans OP)] at FL;obtain⟨h9,U9⟩:=h6.rN U6 r9 (.inl O2) gw kK;clear hR ba aE hO wl aI ey;refine aA ?_;have Vj:=(kK.2 S (fun e=>tD e.symm)).trans Sj;have Vk:=Sk.keep (o':=o5) (w':=w9) (fun _ q=>q) (fun g hg=>kK.2 g (Sm g hg));refine⟨.inr trivial,trivial,.tuple #[.agg #[.int .i64 0,.string aN],.bool true],p7 (fun n=>?_) (fun n e he=>?_),_,_,_,_,_,_,_,rfl,⟨h9,h.sound.tick _,Vj,yE,uv,Vk,Cn,h.Mv.same rfl⟩,.inr (.inr (.inl ⟨rfl,rfl,rfl,rfl,rfl,.inr ⟨ht,rfl⟩⟩)),U9,fun g hg=>.inl hg⟩
   ·obtain⟨c0,c1,-⟩:=bT (w:=w9.at n) FL;simp[results,results14,go_sem,c0,c1]
   ·obtain⟨c0,c1,-⟩:=bT (w:=w9.at n) FL;simp[results,results14,go_sem,c0,c1] at he;rcases he with rfl|rfl;all_goals exact⟨_,_,_,rfl,xx⟩
 refine aA ?_;refine hZ W (t:=false) (by simp[Act.eval,Gc]) ?_;simp only[if_false,reduceIte,fl];refine aA ?_;refine hZ W (t:=false) (by simp[Act.eval,VY]) ?_;simp only[if_false,reduceIte,fl];refine aA ?_;refine hZ W (t:=false) (by simp[Act.eval,PD]) ?_;simp only[if_false,reduceIte,fl];refine aA ?_;refine rdC h4.ay Er d0 fun _=>?_;refine aA ?_;refine aF W rfl ai rfl func38 af rfl aC rfl ((yz h4 h.sound).mono ?_);rintro v5 o5 w5 ⟨s5,nJ,F5,ahi,hw5,u5,h5,T5⟩;have U5:=U4.k T5;have qi:=(T5.aU.same A (h4.ay.lt Lj) (by rw[ON];omega)).trans mq;have my:=(T5.aU.same S (h4.ay.lt Er) (by rw[OO];omega)).trans O4;have xx:=T5.aU.more _ Lj;have yE:=T5.aU.more _ Er;have r9:=(T5.lab A (h4.ay.lt Lj)).trans ON;have uv:=(T5.lab S (h4.ay.lt Er)).trans OO;obtain⟨R7,Dj⟩:=ZP.step Sg ((iw.refl (S:=S) h4.ay).k T5) h4.ay;obtain⟨n,y,hv,JG,hn6,-,hth,-⟩:=hw5.kind;subst hv;have Sm:∀g,fv.ownBlock=some g->g≠A:=fun g hg=>by have:=h.fC.ay.lt (fO h.fC.ay h.files.cl g hg);omega
 unfold did;refine aA ?_;refine cq aX h5.ay rfl ai ai kp rfl (R:=fun wl v aI=>v=.pointer (some ⟨wl.heap.size,0,none⟩)/\aI=wl.alloc (Obj.cells #[.int .i64 0,.string aN] 32)) (fun wl aE=>⟨_,_,by first|(simp[go_sem];done)|(simp[go_sem];rfl),rfl,rfl⟩) fun wl v1 aI w6 aE hR ba=>?_;obtain⟨rfl,hR⟩:=hR;obtain⟨z6,k6,Us⟩:=ba.alloc h5.ay aE hR;obtain⟨W6,Mx⟩:=bu.mn ba.ay z6 k6;rw[aE.size];clear hR ba aE wl aI;obtain⟨Si,h6,T6,hl6,ahj⟩:=h5.grown (cK.refl h5.ay) W6;have hlD:=ahj _ (ag _);have zD:=h5.ay.lt xx;have zDS:=h5.ay.lt yE;have zz5:=U5.aU.size;generalize grow o5 w5 w6=o6 at *;clear z6;have U6:=U5.k T6;have OP:=(T6.aU.same A (h5.ay.lt xx) (by rw[r9];omega)).trans qi;have Sj:=(T6.aU.same S (h5.ay.lt yE) (by rw[uv];omega)).trans my;have Es:=T6.aU.more _ xx;have FK:=T6.aU.more _ yE;have Ll:=(T6.lab A (h5.ay.lt xx)).trans r9;have Dk:=(T6.lab S (h5.ay.lt yE)).trans uv;obtain⟨Sk,Cn⟩:=R7.step Dj ((iw.refl (S:=S) h5.ay).k T6) h5.ay;generalize w5.heap.size=D at *;refine aA ?_;refine bD aX h6.ay rfl ai ai ?_ rfl (R:=fun wl aI=>aI=(wl.setCell ⟨D,0,none⟩ (.int .i64 n)).setCell ⟨D,1,none⟩ (.string y)) (fun wl aE=>⟨_,?_,rfl⟩) fun wl aI w7 aE hR ba=>?_
 ·refine dU ?_ ?_
  ·exact aH Mx
  ·refine cJ (vs:=[_,_]) (fun x hx=>?_);simp at hx;rcases hx with rfl|rfl
   ·exact bN
   ·exact bf
 ·obtain⟨e0,e1,f0,f1⟩:=bT ((aE.heap _ Mx).trans Us)
  first
  | (simp[go_sem,e0,e1,f0,f1];done)
  | (simp[go_sem,e0,e1,f0,f1];rfl)
 have hO:cN D wl aI:=by rw[hR];exact iB _ _ _ _ _ _
 obtain⟨on7,kD7,ey⟩:=ba.only aE Mx hO;have Zr:=ba.ay;rw[ey] at Zr |-;rw[hR,nG ((aE.heap _ Mx).trans Us)] at kD7;obtain⟨h7,U7⟩:=h6.rN U6 hlD (.inl aa) Zr on7;have Jf:=(on7.2 A aa).trans OP;have Sl:=(on7.2 S aa).trans Sj;have hgD:∀g,fv.ownBlock=some g->g≠D:=fun g hg=>by have:=h.fC.ay.lt (fO h.fC.ay h.files.cl g hg);omega
 have YS:=Sk.keep (o':=o6) (w':=w7) (fun _ q=>q) (fun g hg=>on7.2 g (hgD g hg));obtain⟨g0,g1,-⟩:=bT kD7;clear hR ba aE hO wl aI ey;have hDA:D≠A:=aa;refine aA ?_;refine dq mixed af [some (some (.agg #[.int .i64 n,.string y])),some none,some (some (.int .i64 n)),some none,some none,some none,some (some (.int .i64 n)),some none,some none,none,some none]
  (S:=fun σ o' w'=>o6=o'/\bE ar L0 o' w'/\cN A w7 w'/\w'.heap[A]?=some (.cells (if (σ 9).isSome then #[.int .i64 n,.string y] else #[.int .i64 0,.string aN]) 32)) ⟨rfl,Zr,cN.refl,Jf⟩ fun v9=>?_
 refine dp ?_;refine bK aX rfl rfl rfl ai ai (fun σ o' w' H hS=>?_) ?_
 ·obtain⟨rfl,hf,on,-⟩:=hS;have e:=on.2 D hDA;exact⟨hf,cj (aH Mx),fun wl aE=>by simp[go_sem,(aE.cell Mx).trans ((cell_of e).trans g0),(aE.cell Mx).trans ((cell_of e).trans g1)]⟩
 refine bO ?_;refine bK aX rfl rfl rfl ai ai (fun σ o' w' H hS=>?_) ?_
 ·obtain⟨rfl,hf,on,-⟩:=hS;exact rd3 hf Mx ((cell_of (on.2 D hDA)).trans g0)
 walk_nrm;refine tM (y:=.bool true) rfl rfl rfl ai (fun w1=>by simp[go_sem,Act.eval,JG]) (fun w1=>by simp[go_sem,Act.eval]) ?_;refine bO ?_;refine bK aX rfl rfl rfl ai ai (fun σ o' w' H hS=>?_) ?_
 ·obtain⟨rfl,hf,on,-⟩:=hS;exact rd3 hf Mx ((cell_of (on.2 D hDA)).trans g0)
 walk_nrm;refine tM (y:=.bool true) rfl rfl rfl ai (fun w1=>by simp[go_sem,Act.eval,hn6]) (fun w1=>by simp[go_sem,Act.eval]) ?_;refine bO ?_;refine jg aX rfl rfl rfl ai ai (fun σ o' w' H h9 hS=>?_) ?_
 ·obtain⟨rfl,hf,on,kA⟩:=hS;simp only[h9,Option.isSome_none,fl,if_false] at kA;refine⟨hf,fun z hz=>?_,fun wl aI=>aI=(wl.setCell ⟨A,0,none⟩ (.int .i64 n)).setCell ⟨A,1,none⟩ (.string y),fun wl aE=>⟨_,?_,rfl⟩,fun wl aI w8 aE hR ba=>?_⟩
  ·simp[Op.operands] at hz;rcases hz with rfl|rfl
   ·simp[Act.eval];exact aH Es
   ·simp[Act.eval];refine cJ (vs:=[_,_]) (fun x hx=>?_);simp at hx;rcases hx with rfl|rfl
    ·exact bN
    ·exact bf
  ·obtain⟨e0,e1,f0,f1⟩:=bT ((aE.heap _ Es).trans kA);simp[go_sem,Act.eval,e0,e1,f0,f1]
  ·have hO:cN A wl aI:=by rw[hR];exact iB _ _ _ _ _ _
   obtain⟨Aj,UR,ey⟩:=ba.only aE Es hO;have C8:=ba.ay;rw[ey] at C8 |-;rw[hR,nG ((aE.heap _ Es).trans kA)] at UR;exact⟨rfl,C8,⟨Aj.1.trans on.1,fun c hc=>(Aj.2 c hc).trans (on.2 c hc)⟩,by simp[dB,UR]⟩
 refine bO ?_;refine cd fun σ o8 w8 kP hS=>?_;obtain⟨rfl,C8,Aj,UR⟩:=hS;simp only[kP 9 dh rfl,Option.isSome_some,if_true] at UR;clear kP;obtain⟨h8,U8⟩:=h7.rN U7 Ll (.inl O2) C8 Aj;have kS8:=(Aj.2 S (fun e=>tD e.symm)).trans Sl;have ZL:=YS.keep (o':=o6) (w':=w8) (fun _ q=>q) (fun g hg=>Aj.2 g (Sm g hg));simp only[gN,cZ,if_true,if_false,reduceIte,Nat.reduceEqDiff];refine aA ?_;refine⟨.inr trivial,trivial,.tuple #[.agg #[.int .i64 n,.string y],.bool true],p7 (fun n=>?_) (fun n e he=>?_),_,_,_,_,_,_,_,rfl,⟨h8,u5,kS8,FK,Dk,ZL,Cn,h.Mv.same hth⟩,.inr (.inr (.inr ⟨Gc,VY,PD,rfl,rfl,F5,ahi,hw5⟩)),U8,fun g hg=>.inl hg⟩
 ·obtain⟨c0,c1,-⟩:=bT (w:=w8.at n) UR;simp[results,results14,go_sem,c0,c1]
 ·obtain⟨c0,c1,-⟩:=bT (w:=w8.at n) UR;simp[results,results14,go_sem,c0,c1] at he;rcases he with rfl|rfl;all_goals exact⟨_,_,_,rfl,Es⟩
end
section
variable {Fin:bH} {o o' o1 o2 o3:aM} {w w' w1 w2 w3:ae} {S Nb:Nat} {K:sj} {s s' s2:kT} {lab lab' eN gP oI:Nat->Nat} {rv fv YT sv:Value} {fs YU:List (ah×ah)} {ed My:Nat} {since:List ah}
theorem FM{P:Program}{m:Bool}{R:aM->ae->ae->Prop}{Gu:aM->ae->ae->Array Event->Prop}{X:aM->aS->ae->Prop}{fn:FuncId}{Q:Exit->Act->aM->ae->Prop}{a:Act}(W:fg P m R Gu X){x y:Code}(J:Act->aM->ae->Prop)(h1:uJ X fn x (gN J Q) a o w)(h2:∀a' o' w',J a' o' w'->uJ X fn y Q a' o' w'):uJ X fn (.seq x y) Q a o w :=
 qY W (G4 h1 fun e a o w hq=>by
  cases e
  case normal=>exact h2 _ _ _ hq
  all_goals exact hq)
structure IZ(Fin:bH)(w:ae)(p:Option Addr)(b off:Nat)(xs:List (Int×Int×Int)):Prop where
 ptr:xs≠[]->p=some ⟨b,off,none⟩/\wC Fin b/\b<w.heap.size
 at_:∀i (h:i<xs.length),w.cell? ⟨b,off+i*3,none⟩=some (.int .i64 xs[i].1)/\w.cell? ⟨b,off+i*3+1,none⟩=some (.int .i64 xs[i].2.1)/\w.cell? ⟨b,off+i*3+2,none⟩=some (.int .i64 xs[i].2.2)
 Wp:∀x∈xs,(-9223372036854775808<=x.2.1/\x.2.1<=9223372036854775807)/\(-9223372036854775808<=x.2.2/\x.2.2<=9223372036854775807)
 Eu:xs.length*24<=140737488355328
end
end Go.Proofs.Kz
namespace Go.Ren
open Go.Conc Go.ConcN
def Et(P:Program)(X:aM->aS->ae->Prop)(f:FuncId)(fc:Func)(vs:Array Value)(o:aM)(w:ae)(Post:Value->aM->ae->Prop):Prop :=
 ∃c,fc.body=some c/\uJ X f c (fun e a' o' w'=>(e=.normal\/e=.ret)/\a'.defers=[]/\∃v,ResultsC P fc a'.tmps v/\Post v o' w') {tmps:=vs++Array.replicate (fc.ntmps-vs.size) undef,defers:=[]} o w
section
variable {P:Program} {m:Bool} {R:aM->ae->ae->Prop} {Gu:aM->ae->ae->Array Event->Prop} {X:aM->aS->ae->Prop} {o:aM} {w:ae}
theorem Et.top(W:fg P m R Gu X){f:FuncId}{fc:Func}{vs:Array Value}{Post:Value->aM->ae->Prop}(hf:P.funcs[f]?=some fc)(h:Et P X f fc vs o w Post)(hc:∀(a':Act) (o':aM) (w':ae) (todo:List Item) (v:Value),a'.defers=[]->ResultsC P fc a'.tmps v->Post v o' w'->X o' (G {(base f).at a' todo with mode:=.returning} []) w'):
  X o (G (Frame.enter P f vs .normal) []) w:=by
 obtain⟨c,fo,h⟩:=h;rw[ij hf fo];refine h (base f) [] [] rfl (by simp[base]) fun e a' o' w' q=>?_;obtain⟨he,hd,v,hr,hx⟩:=q;rcases he with rfl|rfl
 ·exact W.go rfl (fun _=>dG) (hc a' o' w' [] v hd hr hx)
 ·exact fun todo=>hc a' o' w' todo v hd hr hx
theorem zM{b:Frame}{a:Act}{fn:Func}{todo:List Item}{v:Value}(hi:P.inits.idxOf? b.fn=none)(hn:b.kind=.normal)(hd:a.defers=[])(hf:P.funcs[b.fn]?=some fn)(hr:(results fn a.tmps).run P w=.ok v w)(he:(results fn a.tmps).events P w #[]=#[]):
  stepG P true (G {b.at a todo with mode:=.returning} []) w=.ended (.done v) w #[]:=by
 simp[G,stepG,unwind,doReturn,Frame.at,hn,hd,hf,hr,he,hi,GStep.after,seen_none]
end
section
variable {P:Program}
theorem I0{S:Nat->Prop}{Post:Value->ae->Prop}{a:aS}{W:ae}(hS:∀b,W.heap.size<=b->¬S b)(h:BX P (Qi P Post) 0 S a W):
  ∃N last o w' t',runNT P (N+1) (solo a W) #[]=(.ended o w',t')/\runN P N (solo a W)=.next last/\step P last=.ended o w'/\Conc.Good P Post last o w' t':=by
 have VH:lN 0 S #[]:=⟨past_nil.clean,fun i a ha=>by simp[touchAt,Trace.act?] at ha,past_nil.over,rfl⟩;obtain⟨N,gs,w,sl,t,q,S,g,k1,k2,k3,k4,_,k6⟩:=h #[a] none #[] (fun _=>0) rfl (leavers_one P a) VH hS;obtain⟨B,hB⟩:=k4.Pw;obtain⟨N2,last,o,w',t',l1,l2,l3,l4⟩:=beside_ends (P:=P) (Shun:=sK S) (B:=B+0) (D:=fun _ _ _=>False) (Post:=Post) (n:=0) (sl:=sl) (fun _ _ _ hf=>hf.elim) k2 k3 (hB 0) (fun w1 hw=>by
  obtain⟨h1,v,h2,h3⟩:=k6 w1 hw;exact⟨h1,v,#[],h2,an,h3⟩)
 refine⟨N+N2,last,o,w',t',?_,?_,l3,l4⟩
 ·rw[de,runNT_add,solo_eq_crowd,k1];exact l1
 ·rw[runN_add,solo_eq_crowd,<- runNT_fst P _ _ #[],k1];exact l2
theorem FN{f:FuncId}{fc:Func}{vs:Array Value}{o:aM}{W:ae}{Q:Value->aM->ae->Prop}(A:Nat->Prop)(hA:∀b,A b->b<W.heap.size)(hf:P.funcs[f]?=some fc)(hi:P.inits.idxOf? f=none)(h:∀Fin,(∀b,A b->wC Fin b)->Et P (XB P Fin 0) f fc vs o W Q):
  ∃N last o' w' t',runNT P (N+1) (solo (G (Frame.enter P f vs .normal) []) W) #[]=(.ended o' w',t')/\runN P N (solo (G (Frame.enter P f vs .normal) []) W)=.next last/\step P last=.ended o' w' /\
   Conc.Good P (fun v w'=>(∃o1 w1,w'.heap=w1.heap/\Q v o1 w1)/\w'.os=W.os/\w'.output=W.output) last o' w' t':=by
 have nT:∀{w1 w2:ae},AtRel w1 w2->w2.heap=w1.heap/\w2.os=w1.os/\w2.output=w1.output:=fun hx=>by obtain⟨d,rfl⟩:=hx;exact⟨rfl,rfl,rfl⟩
 let F:bH:=fun S g w=>Qi P (fun v w'=>∃o1 w1,w'.heap=w1.heap/\Q v o1 w1) S g w/\(∀b,A b->¬S b)\/w.output≠W.output/\∀b,A b->¬S b;have hL:∀b,A b->wC F b:=fun b hb S g w hx=>hx.elim (fun k=>k.2 b hb) fun k=>k.2 b hb;have hB:sU F W:=fun b hb=>eP fun hle=>hb (fun x=>x=b) (G (Frame.enter P f vs .normal) []) {W with output:=W.output.push (0,ByteArray.empty)} (.inr ⟨fun e=>by have:=congrArg (fun x=>x.size) e;simp at this,fun x hx e=>by have:=hA x hx;omega⟩) rfl;have hx:XB P F 0 o (G (Frame.enter P f vs .normal) []) W :=
  Et.top bJ hf (h _ hL) fun a' o' w' todo v hd hr hq=>(fun _=>zF.fin fun w1 hw=>⟨.inl ⟨fun w2 zP=>⟨rfl,v,zM hi rfl hd hf (hr w2).1 (hr w2).2,o',w',(nT (atRel_trans _ _ _ hw zP)).1,hq⟩,fun b hb hs=>hs.2.2 (hL b hb)⟩,(nT hw).2⟩)
 refine I0 (S:=DW F o W) (fun b hb hx=>by have:=hx.1;omega) ((hx hB).bx.mono fun S g w hw=>?_);intro w1 h1;obtain⟨k1,v,k2,k3⟩:=(hw.1.resolve_right fun k=>k.1 hw.2.2).1 w1 h1;exact⟨k1,v,k2,k3,(nT h1).2.1.trans hw.2.1,(nT h1).2.2.trans hw.2.2⟩
end
end Go.Ren
namespace Go
open Go.Conc
section
open Go.ConcM
section
variable {H:Type} {enc:TypeId×Value->H}
theorem lS{a:Assume}{C:Checked}{os:Os}{f:FuncId}{fn:Func}{s:ChangeSpec}{F:Stop.Interp}{conds:List PathCond}{apart fresh handsOn:Bool}{laid:List (String×DataW Unit)}(own:ownKnob C.prog.godebug=none)(started:os.Started)(pZ:C.prog.funcs[f]?=some fn)(witness:∃(w:ae) (tape:Tape) (i:Input),w.os=os/\(w.forCall tape i).Shaped C.prog/\i.vars=[]/\Input.okWide C.prog (w.forCall tape i) .any w.heap.size f i /\
   ((s.pre enc C.prog fn conds apart (w.forCall tape i).memory i.args/\laidMetH C.prog laid (w.forCall tape i).memory)/\sizedMet enc C.prog fn (OpenSpec.ofChange s) apart (w.forCall tape i).memory i.args)/\a.holds C.prog (lone (Frame.enter C.prog f i.args .normal) [] (w.forCall tape i)))(runs:∀(W:ae) (base:Nat) (args:Array Value) (ds gs:List (DataW H)) (before:List MemPlace),
   (∀(j:Nat) t v,fn.params[j]?=some t->args[j]?=some v->Value.okWide C.prog W .any base t v) ->
   DataW.Whole enc C.prog fn.params.toList s.vars apart W args.toList ds gs before ->
   (DataW.weightsEach C.prog (fn.params.toList++s.plain.varTypes C.prog) (ds++gs)).all (·<=reachBytes)=true ->
   laidMetH C.prog laid W->W.ShapedOpen C.prog ->
   ∃M last o w' t',runNT C.prog (M+1) (solo (G (Frame.enter C.prog f args .normal) []) W) #[]=(.ended o w',t')/\runN C.prog M (solo (G (Frame.enter C.prog f args .normal) []) W)=.next last /\
    step C.prog last=.ended o w'/\Conc.Good C.prog (fun v W'=>s.post enc C.prog fn apart fresh handsOn false W args v {W' with os:=W.os}/\OsLater W.os W'.os) last o w' t'):
  ReturnsInLeavingWide a C os f .any (fun w args=>(s.pre enc C.prog fn conds apart w args/\laidMetH C.prog laid w)/\sizedMet enc C.prog fn (OpenSpec.ofChange s) apart w args) ((OpenSpec.ofChange s).postWith enc C.prog fn F (outsideKept [.timePasses]) apart fresh handsOn):=by
 refine returnsInLeavingWide_of_good own started witness ?_;intro w tape i _ se _ ja OE ahl;obtain⟨_,_,_,fn',ahm,_,_,_,_,ow⟩:=ja;have e:fn'=fn:=aK (ahm.symm.trans pZ);subst e;obtain⟨⟨⟨ds,gs,before,hw,hc⟩,hl⟩,hz⟩:=OE;have hw':=DataW.Whole.of_heap (w':=w.forCall tape i) ai hw;obtain⟨M,last,o,w',t',h1,h2,h3,h4⟩:=runs (w.forCall tape i) w.heap.size i.args ds gs before ow hw' (hz.weights hw) (laidMetH.of_heap ai hl) se;obtain⟨v,e,hp,r1,r2,r3,r4⟩:=h4;exact⟨M,last,o,w',t',h1,h2,h3,v,e,postWith_blind (postWith_of_post hp.1 hp.2),r1,r2,r3,r4⟩
theorem ChangeSpec.FO{C:Checked}{os:Os}{f:FuncId}{fn:Func}{s:ChangeSpec}{conds:List PathCond}{apart:Bool}{laid:List (String×DataW Unit)}(w0:ae)(args:Array Value)(fuel:Nat)(WH:w0.os=os)(se:(w0.forCall (fun _ _=>0) ⟨#[],args,[]⟩).Shaped C.prog)(ja:Input.okWideB C.prog (w0.forCall (fun _ _=>0) ⟨#[],args,[]⟩) f ⟨#[],args,[]⟩=true)(OE:s.preB enc C.prog fn conds apart (w0.forCall (fun _ _=>0) ⟨#[],args,[]⟩).memory args fuel=true)(ft:s.sizedB enc C.prog fn apart (w0.forCall (fun _ _=>0) ⟨#[],args,[]⟩).memory args fuel=true)(hx:laidMetH C.prog laid (w0.forCall (fun _ _=>0) ⟨#[],args,[]⟩).memory):
  ∃(w:ae) (tape:Tape) (i:Input),w.os=os/\(w.forCall tape i).Shaped C.prog/\i.vars=[]/\Input.okWide C.prog (w.forCall tape i) .any w.heap.size f i /\
   ((s.pre enc C.prog fn conds apart (w.forCall tape i).memory i.args/\laidMetH C.prog laid (w.forCall tape i).memory)/\sizedMet enc C.prog fn (OpenSpec.ofChange s) apart (w.forCall tape i).memory i.args)/\({calm:=true}:Assume).holds C.prog (lone (Frame.enter C.prog f i.args .normal) [] (w.forCall tape i)) :=
 ⟨w0,fun _ _=>0,⟨#[],args,[]⟩,WH,se,(Input.okWide_of_okWideB (base:=0) ja).1,(Input.okWide_of_okWideB ja).2,⟨⟨ChangeSpec.pre_of_preB OE,hx⟩,sizedMet_of_sizedB ft⟩,by
  simp only[Assume.holds];exact⟨an,fun _ _ _ _=>rfl,an,an,an⟩⟩
end
end
end Go
namespace Go.Proofs.Kz
open Go.Proofs.Tryz
open Go.Proofs.Tryz renaming prog → ar
open _root_.ByteArray renaming empty → aN
open Go.Ren Go.Conc Go.Proofs Go.ConcN
open Go.ConcR (Payload)
section
open Go.ChangeShapes Go.WideShapes Go.Deep Go.RowKit Go.ConcM
section
variable {Fin:bH} {W:ae}
theorem uZ.of{p:Option Addr}{b off:Nat}{rw:List FF}(hL:∀b,b<W.heap.size->wC Fin b)(h1:rw≠[]->p=some ⟨b,off,none⟩/\b<W.heap.size)(h2:∀i (h:i<rw.length),Mr W ⟨b,off,none⟩ i rw[i])(h3:rw.length<=9223372036854775807):uZ Fin W p b off rw:=by
 have hm:∀r∈rw,∃i,Mr W ⟨b,off,none⟩ i r:=fun r hr=>by
  obtain⟨i,hi,rfl⟩:=a8 hr;exact⟨i,h2 i hi⟩
 refine⟨fun q=>⟨(h1 q).1,hL _ (h1 q).2,(h1 q).2⟩,fun i hi=>?_,fun r hr=>?_,fun r hr=>?_,h3,fun r hr=>?_⟩
 ·have c0:=(h2 i hi).c0;have c1:=(h2 i hi).c1;rw[Cg] at c0 c1;exact⟨c0,by rw[de];exact c1⟩
 ·obtain⟨i,h⟩:=hm r hr;exact⟨fun q=>⟨(h.ptr q).1,hL _ (h.ptr q).2,(h.ptr q).2⟩,h.ins⟩
 ·obtain⟨i,h⟩:=hm r hr;exact h.Wp
 ·obtain⟨i,h⟩:=hm r hr;exact h.Eu
theorem IZ.of{p:Option Addr}{b off:Nat}{xs:List (Int×Int×Int)}(hL:∀b,b<W.heap.size->wC Fin b)(h1:xs≠[]->p=some ⟨b,off,none⟩/\b<W.heap.size)(h2:∀i (h:i<xs.length),Lh W ⟨b,off,none⟩ i xs[i])(h3:xs.length*24<=140737488355328):IZ Fin W p b off xs:=by
 refine⟨fun q=>⟨(h1 q).1,hL _ (h1 q).2,(h1 q).2⟩,fun i hi=>?_,fun x hx=>?_,h3⟩
 ·have c0:=(h2 i hi).c0;have c1:=(h2 i hi).c1;have c2:=(h2 i hi).c2;rw[Cg] at c0 c1 c2;exact⟨c0,by rw[de];exact c1,by rw[de];exact c2⟩
 ·obtain⟨i,hi,rfl⟩:=a8 hx;exact(h2 i hi).Wp
end
def xy(f:FuncId)(fc:Func):Prop :=
 ∀(Fin:bH) (o:aM) (w:ae),bE ar L0 o w->jB w->∀(p:Option Addr) (b off c:Nat) (rw:List FF),uZ Fin w p b off rw->∀(q:Option Addr) (qb Dl d:Nat) (xs:List (Int×Int×Int)),IZ Fin w q qb Dl xs ->
  Et ar (XB ar Fin 0) f fc #[.slice p rw.length c,.slice q xs.length d] o w fun v o' w'=>v=.bool true/\bu (fun _=>False) o w o' w'
def Sn:List (String×DataW Unit):=[("math/bits.deBruijn32tab",YtgjekaaknjgnmaaGreatDoor.Rows.laid_math_bits_deBruijn32tab),("math/bits.deBruijn64tab",YtgjekaaknjgnmaaGreatDoor.Rows.laid_math_bits_deBruijn64tab),("internal/strconv.uint64pow10",YtgjekaaknjgnmaaGreatDoor.Rows.laid_internal_strconv_uint64pow10)]
theorem Sp:ownKnob ar.godebug=none:=af
theorem I1:laidOutB ar=true:=af
theorem Sq(os:Os)(args:Array Value):laidMetH ar Sn ((World.doorLaid ar 400 os).forCall (fun _ _=>0) ⟨#[],args,[]⟩).memory :=
 laidMetH_of_parts3 (fuel:=8) (laidMet_of_run' 8 af af) af af
section
variable {H:Type} {enc:TypeId×Value->H}
theorem Sr{f:FuncId}{fc:Func}{s:ChangeSpec}(hf:ar.funcs[f]?=some fc)(hi:ar.inits.idxOf? f=none)(hp:fc.params=#[25,26])(hr:fc.resultTypes=#[4])(hv:s.vars=[])(hs:∀(H:Type) (d1 d2:DataW H),s.fn H [d1,d2]={results:=[.lit (.bool true)],args:=[d1,d2]})(hb:xy f fc)(W:ae)(base:Nat)(args:Array Value)(ds gs:List (DataW H))(before:List MemPlace)(ow:∀(j:Nat) t v,fc.params[j]?=some t->args[j]?=some v->Value.okWide ar W .any base t v)(hW:DataW.Whole enc ar fc.params.toList s.vars false W args.toList ds gs before)(hwt:(DataW.weightsEach ar (fc.params.toList++s.plain.varTypes ar) (ds++gs)).all (·<=reachBytes)=true)(acZ:laidMetH ar Sn W)(se:W.ShapedOpen ar):
  ∃M last o w' t',runNT ar (M+1) (solo (G (Frame.enter ar f args .normal) []) W) #[]=(.ended o w',t')/\runN ar M (solo (G (Frame.enter ar f args .normal) []) W)=.next last /\
   step ar last=.ended o w'/\Conc.Good ar (fun v W'=>s.post enc ar fc false true false false W args v {W' with os:=W.os}/\OsLater W.os W'.os) last o w' t':=by
 have hW':=hW;obtain⟨p,q,hA,hV,rfl,hfz,qZ⟩:=hW;rw[hp] at hA ow;rw[hv] at hV;obtain⟨v0,v1,d0,d1,p0,p1,rfl,rfl,rfl,h0,h1⟩:=trodAll_two hA;obtain⟨rfl,rfl⟩:=trodVars_none hV;have hvt:s.plain.varTypes ar=[]:=by simp[ChangeSpec.plain,DataSpec.varTypes,hv]
 rw[hp,hvt] at hwt;have pO:∀x∈d1.weights ar 26,x<=reachBytes:=fun x hx=>by
  have:=List.all_eq_true.1 hwt x (by simp[DataW.weightsEach,hx]);simpa using this
 obtain⟨rp,rb,ahn,aho,rw,e0,r1,r2,r3⟩:=R2 (ow 0 _ v0 rfl rfl) h0;obtain⟨sp,sb,ahp,ahq,xs,e1,s1,s2,s3⟩:=R4 (ow 1 _ v1 rfl rfl) h1 pO;obtain⟨M,last,o,w',t',k1,k2,k3,v,ev,⟨⟨o1,w1,eh,rfl,Wu⟩,eos,ahr⟩,g1,g2,g3,g4⟩:=FN (P:=ar) (vs:=#[v0,v1]) (o:=fun b=>b<4) (W:=W) (Q:=fun v o' w'=>v=.bool true/\bu (fun _=>False) (fun b=>b<4) W o' w') (fun b=>b<W.heap.size) (fun b hb=>hb) hf hi (fun Fin hL=>by
  rw[e0,e1];exact hb Fin _ W (Oq se) (KV rfl acZ) rp rb ahn aho rw (uZ.of hL r1 r2 r3) sp sb ahp ahq xs (IZ.of hL s1 s2 s3))
 refine⟨M,last,o,w',t',k1,k2,k3,_,ev,⟨?_,0,by rw[eos];rfl⟩,g1,g2,g3,g4⟩;have YV:Below W.heap.size W {W with heap:=w'.heap}:=⟨rfl,rfl,rfl,by show W.heap.size<=w'.heap.size;rw[eh];exact Wu.size,fun k hk=>by show w'.heap[k]?=_;rw[eh];exact Wu.same k hk id⟩;have bZ:∀x∈p0++p1,x.block<W.heap.size:=hA.lt;have sS:DataW.TrodAll enc ar {W with heap:=w'.heap} 0 (fun b=>decide (b<W.heap.size)) true [25,26] [v0,v1] [d0,d1] (p0++p1) :=
  trodAll_mk2 (Below.trod I1 af (jr af) h0 YV fun x hx=>bZ x (List.mem_append_left _ hx)) (Below.trod I1 af (jr af) h1 YV fun x hx=>bZ x (List.mem_append_right _ hx))
 have hk:=YV.frame (fun p=>p∈p0++p1++[]/\(p∈([]:List MemPlace)\/p∈p0++p1\/p∈([]:List MemPlace)));refine⟨_,_,_,[],p0++p1,[],hW',?_,?_,?_,⟨rfl,ahr,hk.2.2⟩,fun h=>by cases h⟩
 ·rw[show([d0,d1]++[]:List (DataW H))=[d0,d1] from rfl,hs,hr];exact trodAll_mk1 (shut_bool underlying4 _)
 ·rw[show([d0,d1]++[]:List (DataW H))=[d0,d1] from rfl,hs,hp];exact sS.of_heap ai
 ·rw[show([d0,d1]++[]:List (DataW H))=[d0,d1] from rfl,hs,hv];rfl
end
theorem OR(Lk:Looks){p:Pinned}{s:OpenSpec}{c:OpenClaim}(kinds:List LaidKind)(Ss:Bool)(YW:Bool×String)(lk:Bool)(hc:c.holds p s)(hw:c.wfByText s=true)(ahs:c.laidByTextAt Lk p kinds Ss)(dW:c.start=.entering)(EK:c.noBlocks=false/\c.again=false)(hm:p.checked.prog.mainIs=some (YW.1,YW.2.toList))(hn:(!YW.1&&YW.2.isEmpty&&!lk)=false)(hl:∀f fn,p.checked.prog.funcNamed c.func=some f->p.checked.prog.funcs[f]?=some fn->lk=p.checked.prog.looks []/\∀(j:Nat) t,fn.params[j]?=some t->p.checked.prog.wantsStandIn t=false)(hg:true=c.goesBy p.checked.prog):
  Claim7.holds p (.plain s) {stood:={row:=c,standIns:=[],harness:=YW,looks:=lk},kinds:=[],alts:=[],goes:=true,laidByText:=true,laidKinds:=kinds,laidTests:=Ss,laidLooks:=Lk}:=by
 have h6:∀r:OpenClaim,Claim7.isSixth {stood:={row:=r,standIns:=[],harness:=YW,looks:=lk},kinds:=[]}=false:=fun r=>by simpa[Claim7.isSixth] using hn
 exact⟨Claim7.tied_new_at Lk kinds Ss (Claim7.new_of_sixth hc YW lk dW EK hm (h6 c) hl) hw,(fun D hD=>by cases hD),ahs,(fun h=>by cases h),hg⟩
end
end Go.Proofs.Kz
