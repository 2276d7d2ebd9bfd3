import Derived.Test.YtgjekaaknjgnmaaGreatDoorAf
import Derived.BigQuiet
import Derived.Maps.AppendAt
set_option linter.all false
set_option maxHeartbeats 40000000
set_option maxRecDepth 200000
namespace Go.Proofs.Kz
open Go.Proofs.Tryz
open Go.Proofs.Tryz renaming prog → ar
open _root_.ByteArray renaming empty → aN
open Go.Ren Go.Conc Go.Proofs Go.ConcN
open Go.ConcR (Payload)
section
variable {Fin:bH} {o o' o1:aM} {w w' w1:ae} {K:sj} {s:kT} {lk:Int} {lab eN:Nat->Nat}
theorem bg.opened(h:bg o w K s lk lab)(mw:bE ar L0 (grow o w w1) w1)(z1:w1.heap.size=w.heap.size+1)(k1:∀b,b<w.heap.size->w1.heap[b]?=w.heap[b]?):∃eN,bg (grow o w w1) w1 K s lk eN/\(∀b,b<w.heap.size->eN b=lab b)/\eN w.heap.size=7/\grow o w w1 w.heap.size/\bu (fun _=>False) o w (grow o w w1) w1:=by
 have qX:bu (fun _=>False) o w (grow o w w1) w1:=⟨mw,iK,fun b hb=>hb.imp id fun q=>q.1,aa,fun b hb _=>k1 b hb⟩;have uW:∀b,b<w.heap.size->(if b=w.heap.size then 7 else lab b)=lab b:=fun b hb=>if_neg aa;exact⟨fun b=>if b=w.heap.size then 7 else lab b,((h.Ix fun b hb=>uW b (h.ay.lt hb)).xl qX).1,uW,if_pos rfl,.inr ⟨ag _,aa⟩,qX⟩
theorem bg.did{o9:aM}{w9 wA:ae}{K1:Nat->Nat}{s':kT}(h:bg o9 w9 K s' lk K1)(qX:bu (fun _=>False) o w o1 w1)(uW:∀b,b<w.heap.size->eN b=lab b)(S:cK o1 w1 eN o9 w9 K1)(hl:K1 w.heap.size=7)(hF:bE ar L0 o9 wA)(on:cN w.heap.size w9 wA):bg o9 wA K s' lk K1/\cK o w lab o9 wA K1:=by
 refine⟨h.aside (ex:=(·=w.heap.size)) (bu.db hF on rfl) fun b hb=>by rw[hb];exact hl,⟨hF,fun b hb=>S.aU.more b (qX.more b hb),fun b hb=>(S.aU.new b hb).elim (fun q=>qX.new b q) fun q=>.inr (by have:=qX.size;omega),by rw[on.1];exact aR qX.size S.aU.size,fun b hb hx=>?_⟩,fun b hb=>(S.lab b (by have:=qX.size;omega)).trans (uW b hb)⟩;rw[on.2 b aa,S.aU.same b (by have:=qX.size;omega) (by rw[uW b hb];exact hx),qX.same b hb id]
def Wk(K:sj)(s s':kT)(F:dm)(file:ah->V):Prop:=∃ir Wh zk zm,(∀i,i<K.B.rs.length->∃b,ir i=some (b,mi K.B F file i))/\s'={s.stand 0 0 with old:=ir,pb:=Wh,num:=IntKind.i64.wrap (s.num+1),kW:=zk,res:=zL K.B F file,mz:=zm,ku:=qA (qC F.b5) (mz s.old (mi K.B F file)) K.B.rs.length}
def did(n:Int)(x:ah):Value:=.agg #[.int .i64 n,.string x]
def Checked(K:sj)(s s':kT)(F:dm)(file:ah->V)(v:Value):Prop :=
 (s.ck=s.src.length/\v=did 6 aN/\Wk K s s' F file) \/
 ∃(h:s.ck<s.src.length) (h':s.ck<s.rd.length),(dC s.st s.src[s.ck]≠s.rd[s.ck].2/\v=did 5 s.src[s.ck]/\s'=s.stand 1 s.time)\/(dC s.st s.src[s.ck]=s.rd[s.ck].2/\v=did 4 s.src[s.ck]/\s'={s with ck:=s.ck+1})
theorem zn[Payload](h:bg o w K s lk lab)(hlen:s.rd.length=s.src.length)(lo:Nat)(F:dm)(KZ:s.fd=some (lo,F))(file:ah->V)(pU:∀x,(file x).2.size<=100)(UE:s.rd.map (·.1)=(iq K.B.NM K.B.rs).map file):
  bp ar (XB ar Fin 0) 64 #[.pointer (some ⟨K.kb,0,none⟩)] o w fun v o' w'=>∃s' lab',Checked K s s' F file v/\bg o' w' K s' lk lab'/\cK o w lab o' w' lab':=by
 have W:=bJ (P:=ar) (Fin:=Fin) (d:=0);refine dJ W func64 ai ?_;walk_nrmf Tryz.f64;refine aA ?_;refine cq aX h.ay rfl ai ai kp rfl (R:=fun wl v aI=>v=.pointer (some ⟨wl.heap.size,0,none⟩)/\aI=wl.alloc (Obj.cells #[.int .i64 0,.string aN] 32)) (fun wl aE=>⟨_,_,by simp[go_sem];rfl,rfl,rfl⟩) fun wl v1 aI w1 aE hR ba=>?_;obtain⟨rfl,hR⟩:=hR;obtain⟨z1,k1,qK⟩:=ba.alloc h.ay aE hR;have mw:=ba.ay;rw[aE.size];clear hR ba aE wl aI;obtain⟨eN,h1,uW,od,pH,qX⟩:=h.opened mw z1 k1;generalize grow o w w1=o1 at *;obtain⟨sp,sb,sc,Ou,V2,xB,dW⟩:=h1.ju.row;have c9:w1.cell? ⟨K.kb,9,none⟩=some (.slice sp s.src.length sc):=by rw[h1.row.cell aa];exact congrArg some Ou
 have c11:w1.cell? ⟨K.kb,11,none⟩=some (.int .i64 s.ck):=by rw[h1.row.cell aa];rfl
 have RD:=h1.ay.lt h1.own;have hsf:=h1.ju.gT;have SI:=h1.gT.2.2.2.2.1;have hW0:bu (fun _=>False) o1 w1 o1 w1:=bu.refl h1.ay;refine aA ?_;refine dq mixed af [some none,some none,some none,some (some (.int .i64 s.ck)),some none,some none,some none,some (some (.slice sp s.src.length sc)),some none,some none]
  (S:=fun σ o' w'=>o1=o'/\w1=w') ⟨rfl,rfl⟩ fun v=>?_
 refine dp ?_;refine bO ?_;refine bK aX rfl rfl rfl ai ai (fun σ o' w' H hS=>?_) ?_
 ·obtain⟨rfl,rfl⟩:=hS;exact rd3 h1.ay h1.own c11
 refine bO ?_;refine bK aX rfl rfl rfl ai ai (fun σ o' w' H hS=>?_) ?_
 ·obtain⟨rfl,rfl⟩:=hS;exact rd3 h1.ay h1.own c9
 refine bO ?_;refine cd fun σ o3 w3 kP hS=>?_;obtain⟨rfl,rfl⟩:=hS;simp only[gN,cZ,if_true,if_false,reduceIte,Nat.reduceEqDiff];refine hZ W (t:=decide (s.ck=s.src.length)) (by simp[Act.eval];rw[dD];simp;omega) ?_;by_cases hc:s.ck=s.src.length
 ·rw[if_pos (dv hc)];refine aA ?_;refine aF W rfl ai rfl func101 af rfl aC rfl ((Ox h1 lo F KZ file pU UE).mono ?_);rintro v0 o4 w4 ⟨rfl,uu,ir,Wh,zk,zm,S4,hold,h4⟩;have FX:uu w.heap.size=7:=(S4.lab _ aa).trans od;have si:=(S4.aU.same w.heap.size aa (by rw[od];omega)).trans qK;have mq:=S4.aU.more _ pH;walk_nrm;refine bD aX h4.ay rfl ai ai ?_ rfl (R:=fun wl aI=>aI=(wl.setCell ⟨w.heap.size,0,none⟩ (.int .i64 6)).setCell ⟨w.heap.size,1,none⟩ (.string aN)) (fun wl aE=>⟨_,?_,rfl⟩) fun wl aI wA aE hR ba=>?_
  ·refine dU ?_ ?_
   ·exact aH mq
   ·exact cJ (vs:=[_,_]) (fun x hx=>by
     simp at hx;rcases hx with rfl|rfl
     ·exact bN
     ·exact bf)
  ·obtain⟨e0,e1,f0,f1⟩:=bT ((aE.heap _ mq).trans si)
   first
   | (simp[go_sem,e0,e1,f0,f1];done)
   | (simp[go_sem,e0,e1,f0,f1];rfl)
  have hO:cN w.heap.size wl aI:=by rw[hR];exact iB _ _ _ _ _ _
  obtain⟨yx,nL,eA⟩:=ba.only aE mq hO;have rF:=ba.ay;rw[eA] at rF |-;rw[hR,nG ((aE.heap _ mq).trans si)] at nL;obtain⟨hA,SA⟩:=h4.did qX uW S4 FX rF yx;clear hR ba aE hO wl aI eA;refine aA ?_;have c9:∀n,(wA.at n).cell? ⟨w.heap.size,0,none⟩=some (.int .i64 6)/\(wA.at n).cell? ⟨w.heap.size,1,none⟩=some (.string aN):=fun n=>⟨(bT nL).1,(bT nL).2.1⟩;refine⟨.inr trivial,trivial,.agg #[.int .i64 6,.string aN],p7 (fun n=>?_) (fun n e he=>?_),_,uu,.inl ⟨hc,rfl,ir,Wh,zk,zm,hold,rfl⟩,hA,SA⟩
  ·obtain⟨c0,c1⟩:=c9 n;simp[results,results64,go_sem,c0,c1]
  ·obtain⟨c0,c1⟩:=c9 n;simp[results,results64,go_sem,c0,c1] at he;rcases he with rfl|rfl;all_goals exact⟨_,_,_,rfl,mq⟩
 rw[if_neg (by simpa using hc)];have bZ:s.ck<s.src.length:=aa;have lE:s.ck<s.rd.length:=aa;obtain⟨rfl,JY⟩:=xB fun q=>by rw[q] at bZ;simp at bZ
 have hT:=dW s.ck bZ;rw[bh] at hT;have xD:(s.ck:Int)<s.src.length:=aa;generalize hx:s.src[s.ck]=x at hT;refine aA ?_;refine dq mixed af [some none,some none,some none,some (some (.slice (some ⟨sb,0,none⟩) s.src.length sc)),some none,some none,some none,some (some (.int .i64 s.ck)),some none,some (some (.string x)),some none]
  (S:=fun σ o' w'=>o1=o'/\w1=w') ⟨rfl,rfl⟩ fun v=>?_
 refine dp ?_;refine bO ?_;refine bK aX rfl rfl rfl ai ai (fun σ o' w' H hS=>?_) ?_
 ·obtain⟨rfl,rfl⟩:=hS;exact rd3 h1.ay h1.own c9
 refine bO ?_;refine bK aX rfl rfl rfl ai ai (fun σ o' w' H hS=>?_) ?_
 ·obtain⟨rfl,rfl⟩:=hS;exact rd3 h1.ay h1.own c11
 refine bO ?_;refine bK aX rfl rfl rfl ai ai (fun σ o' w' H hS=>?_) ?_
 ·obtain⟨rfl,rfl⟩:=hS;exact rd3 h1.ay JY hT
 refine bO ?_;refine cd fun σ o3 w3 kP hS=>?_;obtain⟨rfl,rfl⟩:=hS;simp only[gN,cZ,if_true,if_false,reduceIte,Nat.reduceEqDiff];obtain⟨rp,rb,rc,Jl,Wi,xU⟩:=h1.reads.view h1.ay;obtain⟨rfl,uG⟩:=Wi fun q=>by rw[q] at lE;simp at lE
 have Ys:w1.cell? ⟨K.kb,10,none⟩=some (.slice (some ⟨rb,0,none⟩) s.rd.length rc):=by rw[h1.row.cell aa];exact congrArg some Jl
 have c3:w1.cell? ⟨K.kb,3,none⟩=some (.pointer (some ⟨K.fb,0,none⟩)):=by rw[h1.row.cell aa];rfl
 have hR:=(xU s.ck lE).2.2;have hrw:=h1.ay.lt uG;have amK:(s.ck:Int)<s.rd.length:=aa;generalize hy:s.rd[s.ck].2=ry at hR;generalize hz:dC s.st x=rz;generalize I8:(jE s.th x).1=s1;generalize A4:(jE s.th x).2=s2;refine aA ?_;refine dq mixed af [some none,some none,some none,some (some (.pointer (some ⟨K.fb,0,none⟩))),some none,some (some (.agg #[.bool s1,.string s2,.int .i64 rz])),some none,some none,some none,some none,some (some (.slice (some ⟨rb,0,none⟩) s.rd.length rc)),some none,some none,some none,some (some (.int .i64 s.ck)),some none,some none,some (some (.int .i64 ry)),some none]
  (S:=fun σ o' w'=>bu (fun _=>False) o1 w1 o' w') hW0 fun v=>?_
 refine dp ?_;refine bO ?_;refine bK aX rfl rfl rfl ai ai (fun σ o' w' H hS=>?_) ?_
 ·have kB:=hS.more _ h1.own;exact rd3 hS.ay kB ((cell_of (hS.same _ RD id)).trans c3)
 refine bO ?_;refine iL rfl rfl ai rfl func100 af rfl (av:=#[.pointer (some ⟨K.fb,0,none⟩),.string x]) aC (fun σ o' w' H hS=>?_) ?_
 ·refine(We hS.ay ((h1.xl hS).1).files x).mono ?_;rintro y o2 w2 ⟨rfl,N⟩;exact⟨by rw[I8,A4,hz],hS.trans (bu.dL N)⟩
 walk_nrm;have evf:∀w,(Instr.field 194 (.agg #[.bool s1,.string s2,.int .i64 rz]) 1).events ar w #[]=#[]:=fun w=>af;refine bO ?_;refine bK aX rfl rfl rfl ai ai (fun σ o' w' H hS=>?_) ?_
 ·have kB:=hS.more _ h1.own;exact rd3 hS.ay kB ((cell_of (hS.same _ RD id)).trans Ys)
 refine bO ?_;refine bK aX rfl rfl rfl ai ai (fun σ o' w' H hS=>?_) ?_
 ·have kB:=hS.more _ h1.own;exact rd3 hS.ay kB ((cell_of (hS.same _ RD id)).trans c11)
 refine bO ?_;refine bK aX rfl rfl rfl ai ai (fun σ o' w' H hS=>?_) ?_
 ·have kB:=hS.more _ uG;exact rd3 hS.ay kB ((cell_of (hS.same _ hrw id)).trans hR)
 refine bO ?_;refine cd fun σ o5 w5 kP hS=>?_;simp only[gN,cZ,if_true,if_false,reduceIte,Nat.reduceEqDiff];clear evf kP;obtain⟨h5,S5⟩:=h1.xl hS;have qi:=hS.more _ pH;have Jj:=(hS.same w.heap.size aa id).trans qK;refine hZ W (t:=decide (rz≠ry)) (by simp[Act.eval];rw[dD];simp) ?_;by_cases hd:rz≠ry
 ·rw[if_pos (dv hd)];refine aA ?_;refine aF W rfl ai rfl func102 af rfl aC rfl ((Rz h5).mono ?_);rintro v0 o4 w4 ⟨rfl,S4,h4⟩;have FX:eN w.heap.size=7:=od;have si:=(S4.aU.same w.heap.size (by have:=hS.size;omega) (by rw[od];omega)).trans Jj;have mq:=S4.aU.more _ qi;have S45:=S5.trans S4;refine aA ?_;refine bD aX h4.ay rfl ai ai ?_ rfl (R:=fun wl aI=>aI=(wl.setCell ⟨w.heap.size,0,none⟩ (.int .i64 5)).setCell ⟨w.heap.size,1,none⟩ (.string x)) (fun wl aE=>⟨_,?_,rfl⟩) fun wl aI wA aE hR ba=>?_
  ·refine dU ?_ ?_
   ·exact aH mq
   ·exact cJ (vs:=[_,_]) (fun x hx=>by
     simp at hx;rcases hx with rfl|rfl
     ·exact bN
     ·exact bf)
  ·obtain⟨e0,e1,f0,f1⟩:=bT ((aE.heap _ mq).trans si)
   first
   | (simp[go_sem,e0,e1,f0,f1];done)
   | (simp[go_sem,e0,e1,f0,f1];rfl)
  have hO:cN w.heap.size wl aI:=by rw[hR];exact iB _ _ _ _ _ _
  obtain⟨yx,nL,eA⟩:=ba.only aE mq hO;have rF:=ba.ay;rw[eA] at rF |-;rw[hR,nG ((aE.heap _ mq).trans si)] at nL;obtain⟨hA,SA⟩:=h4.did qX uW S45 od rF yx;clear hR ba aE hO wl aI eA;refine aA ?_;have c9:∀n,(wA.at n).cell? ⟨w.heap.size,0,none⟩=some (.int .i64 5)/\(wA.at n).cell? ⟨w.heap.size,1,none⟩=some (.string x):=fun n=>⟨(bT nL).1,(bT nL).2.1⟩;refine⟨.inr trivial,trivial,.agg #[.int .i64 5,.string x],p7 (fun n=>?_) (fun n e he=>?_),_,eN,.inr ⟨bZ,lE,.inl ⟨by rw[hx,hy,hz];exact hd,by rw[hx];rfl,rfl⟩⟩,hA,SA⟩
  ·obtain⟨c0,c1⟩:=c9 n;simp[results,results64,go_sem,c0,c1]
  ·obtain⟨c0,c1⟩:=c9 n;simp[results,results64,go_sem,c0,c1] at he;rcases he with rfl|rfl;all_goals exact⟨_,_,_,rfl,mq⟩
 rw[if_neg (by simpa using hd)];have d11:w5.cell? ⟨K.kb,11,none⟩=some (.int .i64 s.ck):=by rw[h5.row.cell aa];rfl
 refine aA ?_;refine rdC h5.ay h5.own d11 fun _=>?_;walk_nrm;have CP:IntKind.i64.wrap ((s.ck:Int)+1)=((s.ck+1:Nat):Int):=by rw[IntKind.wrap_i64]<;>omega
 refine aA ?_;refine bD aX h5.ay rfl ai ai ?_ rfl (R:=fun wl aI=>aI=wl.setCell ⟨K.kb,11,none⟩ (.int .i64 ((s.ck+1:Nat):Int))) (fun wl aE=>⟨_,?_,rfl⟩) fun wl aI w9 aE hR ba=>?_
 ·exact dU (aH h5.own) bN
 ·have rl:=World.rowIs.of_block h5.row (aE.heap _ h5.own);have e1:=(aE.cell h5.own).trans d11;have f:=rl.frozen;simp[go_sem,e1,f,CP]
 have hO:cN K.kb wl aI:=by rw[hR];exact fW _ _ _ _
 obtain⟨kK,kr,e9⟩:=ba.only aE h5.own hO;have gw:=ba.ay;rw[e9] at gw |-;rw[hR] at kr;have h9:=h5.put (s':={s with ck:=s.ck+1}) (lk':=lk) gw kK ((World.rowIs.of_block ((World.rowIs.of_block h5.row (aE.heap _ h5.own)).set 11 _) kr).congr fun j hj=>by
  rcases mm hj with rfl|rfl|rfl|rfl|rfl|rfl|rfl|rfl|rfl|rfl|rfl|rfl|rfl<;>rfl) rfl rfl ⟨h5.gT.2.2.1,h5.gT.2.2.2.1,bZ⟩
 have S9:=S5.trans (.of (bu.db (ex:=(·=K.kb)) gw kK rfl) fun b hb=>by rw[hb,h5.l0];omega);have cV:w.heap.size≠K.kb:=fun e=>by have:=h5.l0;rw[<- e,od] at this;omega
 have Wj:=(kK.2 _ cV).trans Jj;clear hR ba aE hO kr wl aI e9;refine aA ?_;refine bD aX h9.ay rfl ai ai ?_ rfl (R:=fun wl aI=>aI=(wl.setCell ⟨w.heap.size,0,none⟩ (.int .i64 4)).setCell ⟨w.heap.size,1,none⟩ (.string x)) (fun wl aE=>⟨_,?_,rfl⟩) fun wl aI wA aE hR ba=>?_
 ·refine dU ?_ ?_
  ·exact aH qi
  ·exact cJ (vs:=[_,_]) (fun x hx=>by
    simp at hx;rcases hx with rfl|rfl
    ·exact bN
    ·exact bf)
 ·obtain⟨e0,e1,f0,f1⟩:=bT ((aE.heap _ qi).trans Wj)
  first
  | (simp[go_sem,e0,e1,f0,f1];done)
  | (simp[go_sem,e0,e1,f0,f1];rfl)
 have hO:cN w.heap.size wl aI:=by rw[hR];exact iB _ _ _ _ _ _
 obtain⟨yx,nL,eA⟩:=ba.only aE qi hO;have rF:=ba.ay;rw[eA] at rF |-;rw[hR,nG ((aE.heap _ qi).trans Wj)] at nL;obtain⟨hA,SA⟩:=h9.did qX uW S9 od rF yx;clear hR ba aE hO wl aI eA;refine aA ?_;have c9:∀n,(wA.at n).cell? ⟨w.heap.size,0,none⟩=some (.int .i64 4)/\(wA.at n).cell? ⟨w.heap.size,1,none⟩=some (.string x):=fun n=>⟨(bT nL).1,(bT nL).2.1⟩;refine⟨.inr trivial,trivial,.agg #[.int .i64 4,.string x],p7 (fun n=>?_) (fun n e he=>?_),_,eN,.inr ⟨bZ,lE,.inr ⟨by rw[hx,hy,hz];simpa using hd,by rw[hx];rfl,rfl⟩⟩,hA,SA⟩
 ·obtain⟨c0,c1⟩:=c9 n;simp[results,results64,go_sem,c0,c1]
 ·obtain⟨c0,c1⟩:=c9 n;simp[results,results64,go_sem,c0,c1] at he;rcases he with rfl|rfl;all_goals exact⟨_,_,_,rfl,qi⟩
theorem Oy:(ar.info? 194).map (fun i=>(i.zero,i.size,i.bytes))=some (some (.agg #[.bool false,.string aN,.int .i64 0]),3,32):=af
theorem B5(ss:List (V×Int))(q:V×Int):ef (ss++[q])=ef ss++[.bool q.1.1,.string q.1.2,.int .i64 q.2]:=by simp[ef]
theorem yy(W:ae)(lo:Nat)(v:Value)(ss:List (V×Int))(q:V×Int)(A:Nat)(h:W.ownsRow lo 194 3 v ss.length (ef ss))(hn:ss.length<=100000)(uL:lo<=W.heap.size)(ha:W.heap[A]?=some (.cells #[.bool q.1.1,.string q.1.2,.int .i64 q.2] 194)):
  ∃v' W',(Builtin.append_ #[110,110] 110 #[v,.slice (some ⟨A,0,none⟩) 1 1]).run ar W=.ok v' W'/\W'.ownsRow lo 194 3 v' (ss++[q]).length (ef (ss++[q]))/\W.grownBy W' v.ownBlock/\(v'.ownBlock=v.ownBlock\/v'.ownBlock=some W.heap.size):=by
 obtain⟨i,hi,oF⟩:=Option.map_eq_some_iff.1 Oy;simp only[WS] at oF;obtain⟨c0,c1,c2,-⟩:=eE ha;have hc:∀j u,[Value.bool q.1.1,.string q.1.2,.int .i64 q.2][j]?=some u->W.cell? ((⟨A,0,none⟩:Addr).add j)=some u:=fun j u hj=>by
  match j with
  |0=>simp at hj;subst hj;simpa[Addr.add] using c0
  |1=>simp at hj;subst hj;simpa[Addr.add] using c1
  |2=>simp at hj;subst hj;simpa[Addr.add] using c2
  |j+3=>simp at hj
 obtain⟨v',W',e1,e2,e3,_⟩:=run_append_own (P:=ar) W lo 110 110 194 i _ 3 32 underlying110 hi oF.1 oF.2.1 oF.2.2 rfl aa v ss.length (ef ss) h ⟨A,0,none⟩ 1 1 _ rfl hc (by simp;exact⟨rfl,rfl,rfl⟩) (by simp[maxLen];omega) aa uL;exact⟨v',W',e1,by rw[B5];simpa using e2,e3,xj W lo 110 110 194 i _ 3 32 underlying110 hi oF.1 oF.2.1 oF.2.2 v ss.length (ef ss) h ⟨A,0,none⟩ 1 _ rfl hc (by simp;exact⟨rfl,rfl,rfl⟩) aa aa e1⟩
theorem Jk.add{v v':Value}{ss:List (V×Int)}{q:V×Int}{wl aI:ae}{lo:Nat}(hF:bE ar L0 o w)(h:Jk o w v ss)(hl:ss.length<1000)(aE:im o w wl)(ba:kS ar L0 o w w' aI v')(uL:lo<=w.heap.size)(b6:aI.ownsRow lo 194 3 v' (ss++[q]).length (ef (ss++[q])))(CS:wl.grownBy aI v.ownBlock)(Wc:v'.ownBlock=v.ownBlock\/v'.ownBlock=some wl.heap.size):
  Jk (grow o w w') w' v' (ss++[q])/\bu (fun b=>v.ownBlock=some b) o w (grow o w w') w'/\∀b,v'.ownBlock=some b->v.ownBlock=some b\/w.heap.size<=b:=by
 rw[aE.size] at Wc;have C3:=ba.ay;have eY:Cl ar L0 (grow o w w') v':=ba.val;have z6:=ba.gO;have Is:∀b,v'.ownBlock=some b->grow o w w' b:=fun b hb=>by
  obtain⟨-,fy⟩:=b6;rcases fy with⟨rfl,-⟩|⟨g',cap,cur,rfl,-⟩
  ·cases hb
  ·cases hb;exact Fu C3 eY
 refine⟨⟨⟨lo,aa,cQ b6 fun b hb _=>ba.same b (Is b hb.symm)⟩,eY,eR⟩,⟨C3,iK,fun b hb=>hb.imp id fun q=>q.1,z6,fun b hb X3=>?_⟩,fun b hb=>?_⟩
 ·by_cases ho:o b
  ·rw[ba.same b (.inl ho),CS.block b (by rw[aE.size];exact hb) (fun e=>X3 e.symm),aE.heap b ho]
  ·exact ba.rest b hb ho
 ·rcases Wc with e|e
  ·rw[hb] at e;exact .inl e.symm
  ·rw[hb] at e;exact .inr (bq (aK e).symm)
theorem Checked.shape{s':kT}{F:dm}{file:ah->V}{v:Value}(h:Checked K s s' F file v):∃n x,v=did n x:=by
 rcases h with⟨-,e,-⟩|⟨_,_,⟨-,e,-⟩|⟨-,e,-⟩⟩
 ·exact⟨_,_,e⟩
 ·exact⟨_,_,e⟩
 ·exact⟨_,_,e⟩
theorem bg.Yt(h:bg o w K s lk lab){SW:Value}{rd':List (V×Int)}(hW:bu (fun b=>b=K.kb\/s.rv.ownBlock=some b) o w o' w')(hq:Jk o' w' SW rd')(hb:∀b,SW.ownBlock=some b->s.rv.ownBlock=some b\/w.heap.size<=b)(hr:w'.rowIs K.kb 120 13 (qG K {s with rv:=SW,rd:=rd'} lk))(hl:rd'.length<=s.src.length):
  ∃lab',bg o' w' K {s with rv:=SW,rd:=rd'} lk lab'/\cK o w lab o' w' lab':=by
 have hx:∀b,b=K.kb\/s.rv.ownBlock=some b->lab b=0\/lab b=5:=fun b hb=>hb.imp (fun e=>by rw[e];exact h.l0) fun e=>h.l5 b e;have P:=h.parts hW 0 5 hx;obtain⟨a1,a2,a3,a4⟩:=h.all;have lt:∀b,o b->b<w.heap.size:=fun b hb=>h.ay.lt hb;have lb:∀b,o b->(if w.heap.size<=b then 5 else lab b)=lab b:=fun b hb=>if_neg (by have:=lt b hb;omega);obtain⟨f1,f2,f3,f4,f5,f6⟩:=h.gT;refine⟨fun b=>if w.heap.size<=b then 5 else lab b,⟨hW.ay,hr,hW.more _ h.own,P.build aa aa,P.files aa aa,P.queue aa aa,P.ju aa aa,hq,⟨(P.set aa aa).blk,(P.set aa aa).own,(P.set aa aa).res,(P.set aa aa).cl,(P.set aa aa).gT,(P.set aa aa).ku⟩,(lb _ h.own).trans h.l0,fun b hb=>(lb b (h.build.own b hb)).trans (h.l1 b hb),fun b hb=>(lb b ?_).trans (h.l2 b hb),fun b hb=>(lb b (a1 b hb)).trans (h.l3 b hb),fun b hb=>(lb b (a2 b hb)).trans (h.l4 b hb),fun b hq=>?_,fun b hb=>(lb b (a4 b hb)).trans (h.l6 b hb),f1,f2,f3,f4,f5,hl⟩,⟨hW.mono fun b hb=>by rcases hx b hb with e|e<;>omega,fun b hb=>if_neg aa⟩⟩
 ·rcases hb with rfl|rfl|rfl
  ·exact h.files.own.1
  ·exact h.files.own.2.1
  ·exact h.files.own.2.2
 ·rcases hb b hq with e|e
  ·exact(lb b (a3 b e)).trans (h.l5 b e)
  ·exact if_pos e
def Fw(K:sj)(s s':kT)(F:dm)(file:ah->V)(v:Value):Prop :=
 (s.rd.length=s.src.length/\Checked K {s with phase:=3} s' F file v) \/
 ∃h:s.rd.length<s.src.length,v=did 3 s.src[s.rd.length]/\∃SW,s'={s with rv:=SW,rd:=s.rd++[(jE s.th s.src[s.rd.length],dC s.st s.src[s.rd.length])]}
theorem K2[Payload](h:bg o w K s lk lab)(lo:Nat)(F:dm)(KZ:s.fd=some (lo,F))(file:ah->V)(pU:∀x,(file x).2.size<=100)(UE:s.rd.length=s.src.length->s.rd.map (·.1)=(iq K.B.NM K.B.rs).map file):
  bp ar (XB ar Fin 0) 63 #[.pointer (some ⟨K.kb,0,none⟩)] o w fun v o' w'=>∃s' lab',Fw K s s' F file v/\bg o' w' K s' lk lab'/\cK o w lab o' w' lab':=by
 have W:=bJ (P:=ar) (Fin:=Fin) (d:=0);refine dJ W func63 ai ?_;walk_nrmf Tryz.f63;refine aA ?_;refine cq aX h.ay rfl ai ai kp rfl (R:=fun wl v aI=>v=.pointer (some ⟨wl.heap.size,0,none⟩)/\aI=wl.alloc (Obj.cells #[.int .i64 0,.string aN] 32)) (fun wl aE=>⟨_,_,by simp[go_sem];rfl,rfl,rfl⟩) fun wl v1 aI w1 aE hR ba=>?_;obtain⟨rfl,hR⟩:=hR;obtain⟨z1,k1,qK⟩:=ba.alloc h.ay aE hR;have mw:=ba.ay;rw[aE.size];clear hR ba aE wl aI;obtain⟨eN,h1,uW,od,pH,qX⟩:=h.opened mw z1 k1;generalize grow o w w1=o1 at *;obtain⟨sp,sb,sc,Ou,V2,xB,dW⟩:=h1.ju.row;obtain⟨rp,rb,rc,Jl,Wi,xU⟩:=h1.reads.view h1.ay;have c9:w1.cell? ⟨K.kb,9,none⟩=some (.slice sp s.src.length sc):=by rw[h1.row.cell aa];exact congrArg some Ou
 have Ys:w1.cell? ⟨K.kb,10,none⟩=some (.slice rp s.rd.length rc):=by rw[h1.row.cell aa];exact congrArg some Jl
 have c3:w1.cell? ⟨K.kb,3,none⟩=some (.pointer (some ⟨K.fb,0,none⟩)):=by rw[h1.row.cell aa];rfl
 have RD:=h1.ay.lt h1.own;have hsf:=h1.ju.gT;have hrf:=h1.gT.2.2.2.2.2;have hW0:bu (fun _=>False) o1 w1 o1 w1:=bu.refl h1.ay;refine aA ?_;refine dq mixed af [some none,some none,some none,some (some (.slice rp s.rd.length rc)),some none,some none,some none,some none,some (some (.slice sp s.src.length sc)),some none,some none]
  (S:=fun σ o' w'=>o1=o'/\w1=w') ⟨rfl,rfl⟩ fun v=>?_
 refine dp ?_;refine bO ?_;refine bK aX rfl rfl rfl ai ai (fun σ o' w' H hS=>?_) ?_
 ·obtain⟨rfl,rfl⟩:=hS;exact rd3 h1.ay h1.own Ys
 refine bO ?_;refine bK aX rfl rfl rfl ai ai (fun σ o' w' H hS=>?_) ?_
 ·obtain⟨rfl,rfl⟩:=hS;exact rd3 h1.ay h1.own c9
 refine bO ?_;refine cd fun σ o3 w3 kP hS=>?_;obtain⟨rfl,rfl⟩:=hS;clear kP;simp only[gN,cZ,if_true,if_false,reduceIte,Nat.reduceEqDiff];refine hZ W (t:=decide (s.rd.length=s.src.length)) (by simp[Act.eval];rw[dD];simp;omega) ?_;by_cases hc:s.rd.length=s.src.length
 ·rw[if_pos (dv hc)];refine aA ?_;refine bD aX h1.ay rfl ai ai ?_ rfl (R:=fun wl aI=>aI=wl.setCell ⟨K.kb,7,none⟩ (.int .i64 3)) (fun wl aE=>⟨_,?_,rfl⟩) fun wl aI w9 aE hR ba=>?_
  ·exact dU (aH h1.own) bN
  ·have rl:=World.rowIs.of_block h1.row (aE.heap _ h1.own);have e1:=rl.cell (i:=7) aa;have f:=rl.frozen;simp[go_sem,e1,f]
  have hO:cN K.kb wl aI:=by rw[hR];exact fW _ _ _ _
  obtain⟨kK,kr,e9⟩:=ba.only aE h1.own hO;have gw:=ba.ay;rw[e9] at gw |-;rw[hR] at kr;have h9:=h1.put (s':={s with phase:=3}) (lk':=lk) gw kK ((World.rowIs.of_block ((World.rowIs.of_block h1.row (aE.heap _ h1.own)).set 7 _) kr).congr fun j hj=>by
   rcases mm hj with rfl|rfl|rfl|rfl|rfl|rfl|rfl|rfl|rfl|rfl|rfl|rfl|rfl<;>rfl) rfl rfl ⟨h1.gT.2.2.1,h1.gT.2.2.2.1,h1.gT.2.2.2.2.1⟩
  have S9:cK o1 w1 eN o1 w9 eN:=.of (bu.db (ex:=(·=K.kb)) gw kK rfl) fun b hb=>by rw[hb,h1.l0];omega
  have cV:w.heap.size≠K.kb:=fun e=>by have:=h1.l0;rw[<- e,od] at this;omega
  have Jj:=(kK.2 _ cV).trans qK;clear hR ba aE hO kr wl aI e9;refine aA ?_;refine aF W rfl ai rfl func64 af rfl aC rfl ((zn h9 hc lo F KZ file pU (UE hc)).mono ?_);rintro v0 o4 w4 ⟨s',uu,uh,h4,S4⟩;have FX:uu w.heap.size=7:=(S4.lab _ (by rw[kK.1];omega)).trans od;have si:=(S4.aU.same w.heap.size (by rw[kK.1];omega) (by rw[od];omega)).trans Jj;have mq:=S4.aU.more _ pH;have Yu:=S9.trans S4;obtain⟨dn,dx,rfl⟩:=uh.shape;unfold did at uh |-;walk_nrm;refine bD aX h4.ay rfl ai ai ?_ rfl (R:=fun wl aI=>aI=(wl.setCell ⟨w.heap.size,0,none⟩ (.int .i64 dn)).setCell ⟨w.heap.size,1,none⟩ (.string dx)) (fun wl aE=>⟨_,?_,rfl⟩) fun wl aI wA aE hR ba=>?_
  ·refine dU ?_ ?_
   ·exact aH mq
   ·exact cJ (vs:=[_,_]) (fun x hx=>by
     simp at hx;rcases hx with rfl|rfl
     ·exact bN
     ·exact bf)
  ·obtain⟨e0,e1,f0,f1⟩:=bT ((aE.heap _ mq).trans si)
   first
   | (simp[go_sem,e0,e1,f0,f1];done)
   | (simp[go_sem,e0,e1,f0,f1];rfl)
  have hO:cN w.heap.size wl aI:=by rw[hR];exact iB _ _ _ _ _ _
  obtain⟨yx,nL,eA⟩:=ba.only aE mq hO;have rF:=ba.ay;rw[eA] at rF |-;rw[hR,nG ((aE.heap _ mq).trans si)] at nL;obtain⟨hA,SA⟩:=h4.did qX uW Yu FX rF yx;clear hR ba aE hO wl aI eA;refine aA ?_;have c9:∀n,(wA.at n).cell? ⟨w.heap.size,0,none⟩=some (.int .i64 dn)/\(wA.at n).cell? ⟨w.heap.size,1,none⟩=some (.string dx):=fun n=>⟨(bT nL).1,(bT nL).2.1⟩;refine⟨.inr trivial,trivial,.agg #[.int .i64 dn,.string dx],p7 (fun n=>?_) (fun n e he=>?_),s',uu,.inl ⟨hc,uh⟩,hA,SA⟩
  ·obtain⟨c0,c1⟩:=c9 n;simp[results,results63,go_sem,c0,c1]
  ·obtain⟨c0,c1⟩:=c9 n;simp[results,results63,go_sem,c0,c1] at he;rcases he with rfl|rfl;all_goals exact⟨_,_,_,rfl,mq⟩
 rw[if_neg (by simpa using hc)];have bZ:s.rd.length<s.src.length:=aa;obtain⟨rfl,JY⟩:=xB fun q=>by rw[q] at bZ;simp at bZ
 have hT:=dW s.rd.length bZ;rw[bh] at hT;have xD:(s.rd.length:Int)<s.src.length:=aa;generalize hx:s.src[s.rd.length]=x at hT;refine aA ?_;refine dq mixed af [some none,some none,some none,some (some (.slice (some ⟨sb,0,none⟩) s.src.length sc)),some none,some none,some none,some (some (.slice rp s.rd.length rc)),some none,some none,some (some (.string x)),some none]
  (S:=fun σ o' w'=>o1=o'/\w1=w') ⟨rfl,rfl⟩ fun v=>?_
 refine dp ?_;refine bO ?_;refine bK aX rfl rfl rfl ai ai (fun σ o' w' H hS=>?_) ?_
 ·obtain⟨rfl,rfl⟩:=hS;exact rd3 h1.ay h1.own c9
 refine bO ?_;refine bK aX rfl rfl rfl ai ai (fun σ o' w' H hS=>?_) ?_
 ·obtain⟨rfl,rfl⟩:=hS;exact rd3 h1.ay h1.own Ys
 refine bO ?_;refine bK aX rfl rfl rfl ai ai (fun σ o' w' H hS=>?_) ?_
 ·obtain⟨rfl,rfl⟩:=hS;exact rd3 h1.ay JY hT
 refine bO ?_;refine cd fun σ o3 w3 kP hS=>?_;obtain⟨rfl,rfl⟩:=hS;clear kP;simp only[gN,cZ,if_true,if_false,reduceIte,Nat.reduceEqDiff];generalize hz:dC s.st x=rz;generalize I8:(jE s.th x).1=s1;generalize A4:(jE s.th x).2=s2;have Te:=h1.reads.cl;rw[Jl] at Te;refine aA ?_;refine dq mixed af [some none,some none,some none,some none,some (some (.slice rp s.rd.length rc)),some none,some none,some none,some (some (.pointer (some ⟨K.fb,0,none⟩))),some none,some (some (.agg #[.bool s1,.string s2,.int .i64 rz])),none,none,some none,some none,none]
  (S:=fun σ o' w'=>(σ 12=none/\σ 15=none/\bu (fun _=>False) o1 w1 o' w'/\∀y,σ 11=some y->∃Nb,y=.slice (some ⟨Nb,0,none⟩) 1 1/\w1.heap.size<=Nb/\o' Nb/\w'.heap[Nb]?=some (.cells #[.bool s1,.string s2,.int .i64 rz] 194)) \/
   (∃y,σ 12=some y/\σ 15=none/\(∃p l c,y=.slice p l c)/\Jk o' w' y (s.rd++[((s1,s2),rz)])/\bu (fun b=>s.rv.ownBlock=some b) o1 w1 o' w'/\∀b,y.ownBlock=some b->s.rv.ownBlock=some b\/w1.heap.size<=b) \/
   (∃y,σ 12=some y/\σ 15≠none/\Jk o' w' y (s.rd++[((s1,s2),rz)])/\bu (fun b=>b=K.kb\/s.rv.ownBlock=some b) o1 w1 o' w'/\(∀b,y.ownBlock=some b->s.rv.ownBlock=some b\/w1.heap.size<=b)/\w'.rowIs K.kb 120 13 (qG K {s with rv:=y,rd:=s.rd++[((s1,s2),rz)]} lk))) (.inl ⟨rfl,rfl,hW0,fun y hy=>by cases hy⟩) fun v=>?_
 refine dp ?_;refine bO ?_;refine bK aX rfl rfl rfl ai ai (fun σ o' w' H hS=>?_) ?_
 ·rcases hS with⟨-,-,hW,-⟩|⟨y,oa,-⟩|⟨y,oa,-⟩
  ·have kB:=hW.more _ h1.own;exact rd3 hW.ay kB ((cell_of (hW.same _ RD id)).trans Ys)
  ·rw[H.kF [] 12 af] at oa;cases oa
  ·rw[H.kF [] 12 af] at oa;cases oa
 refine bO ?_;refine bK aX rfl rfl rfl ai ai (fun σ o' w' H hS=>?_) ?_
 ·rcases hS with⟨-,-,hW,-⟩|⟨y,oa,-⟩|⟨y,oa,-⟩
  ·have kB:=hW.more _ h1.own;exact rd3 hW.ay kB ((cell_of (hW.same _ RD id)).trans c3)
  ·rw[H.kF [11,10] 12 af] at oa;cases oa
  ·rw[H.kF [11,10] 12 af] at oa;cases oa
 refine bO ?_;refine iL rfl rfl ai rfl func100 af rfl (av:=#[.pointer (some ⟨K.fb,0,none⟩),.string x]) aC (fun σ o' w' H hS=>?_) ?_
 ·rcases hS with⟨oa,O5,hW,-⟩|⟨y,oa,-⟩|⟨y,oa,-⟩
  ·refine(We hW.ay ((h1.xl hW).1).files x).mono ?_;rintro y o2 w2 ⟨rfl,N⟩;exact⟨by rw[I8,A4,hz],.inl ⟨oa,O5,hW.trans (bu.dL N),fun y hy=>by rw[H.sg 11 af] at hy;cases hy⟩⟩
  ·rw[H.kF [11] 12 af] at oa;cases oa
  ·rw[H.kF [11] 12 af] at oa;cases oa
 walk_nrm;refine mJ aX rfl rfl rfl ai ai (fun σ o' w' H h11 hS=>?_) ?_
 ·rcases hS with⟨oa,O5,hW,-⟩|⟨y,oa,-⟩|⟨y,oa,-⟩
  ·refine⟨hW.ay,fun y hy=>?_,fun wl v aI=>v=.slice (some ⟨wl.heap.size,0,none⟩) 1 1/\aI=wl.alloc (.cells #[.bool s1,.string s2,.int .i64 rz] 194),fun wl aE=>⟨_,_,by simp[go_sem,Act.eval],rfl,rfl⟩,fun wl y aI w2 aE hR ba=>?_⟩
   ·simp[Op.operands] at hy;subst hy;simp[Act.eval];exact cJ (vs:=[_,_,_]) (fun x hx=>by
     simp at hx;rcases hx with rfl|rfl|rfl
     ·exact kn
     ·exact bf
     ·exact bN)
   ·obtain⟨rfl,hR⟩:=hR;obtain⟨z2,k2,O6⟩:=ba.alloc hW.ay aE hR;refine .inl ⟨by simpa[dB] using oa,by simpa[dB] using O5,hW.trans ⟨ba.ay,iK,fun b hb=>hb.imp id fun q=>q.1,aa,fun b hb _=>k2 b hb⟩,fun y hy=>?_⟩;simp only[dB,if_true,en] at hy;exact⟨w'.heap.size,by rw[<- hy,aE.size],hW.size,.inr ⟨ag _,aa⟩,O6⟩
  ·rw[H.sg 12 af] at oa;cases oa
  ·rw[H.sg 12 af] at oa;cases oa
 walk_nrm;refine mJ aX rfl rfl rfl ai ai (fun σ o' w' H oa hS=>?_) ?_
 ·rcases hS with⟨-,O5,hW,h9⟩|⟨y,q,-⟩|⟨y,q,-⟩
  ·obtain⟨Nb,hy,hNz,RE,Ri⟩:=h9 _ (H.done 11 af rfl);have hq:=((h1.xl hW).1).reads;rw[Jl] at hq;obtain⟨Ra,abZ,b6⟩:=hq.row;have Yv:=fO hW.ay hq.cl;refine⟨hW.ay,fun y Fo=>?_,fun wl v aI=>aI.ownsRow Ra 194 3 v (s.rd++[((s1,s2),rz)]).length (ef (s.rd++[((s1,s2),rz)]))/\wl.grownBy aI (Value.slice rp s.rd.length rc).ownBlock/\(v.ownBlock=(Value.slice rp s.rd.length rc).ownBlock\/v.ownBlock=some wl.heap.size),fun wl aE=>?_,fun wl y aI w2 aE hR ba=>?_⟩
   ·simp[Op.operands,Call.operands] at Fo;rcases Fo with rfl|rfl
    ·simp[Act.eval];exact hq.cl
    ·simp[Act.eval];rw[hy];exact di RE
   ·obtain⟨v',W',e1,e2,e3,e4⟩:=yy wl Ra (.slice rp s.rd.length rc) s.rd ((s1,s2),rz) Nb (cQ b6 fun g hg _=>aE.heap g (Yv g hg.symm)) aa (by rw[aE.size];exact abZ) ((aE.heap _ RE).trans Ri);exact⟨v',W',gm (.tmp 39) (.tmp 46) 110 rfl aC (by simp[Act.eval];exact hy) e1,e2,e3,e4⟩
   ·obtain⟨r1,r2,r3⟩:=hR;obtain⟨q1,q2,q3⟩:=Jk.add hW.ay hq aa aE ba abZ r1 r2 r3;refine .inr (.inl ⟨y,by simp[dB],by simpa[dB] using O5,?_,q1,?_,fun b hb=>?_⟩)
    ·obtain⟨-,fy⟩:=r1;rcases fy with⟨rfl,-⟩|⟨g',cap,cur,rfl,-⟩
     ·exact⟨_,_,_,rfl⟩
     ·exact⟨_,_,_,rfl⟩
    ·rw[Jl];exact(hW.mono fun b hb=>hb.elim).trans q2
    ·rw[Jl];exact(q3 b hb).imp id fun q=>aR hW.size q
  ·rw[oa] at q;cases q
  ·rw[oa] at q;cases q
 refine bO ?_;refine jg aX rfl rfl rfl ai ai (fun σ o' w' H O5 hS=>?_) ?_
 ·rcases hS with⟨oa,-⟩|⟨y,oa,-,⟨p,l,c,rfl⟩,q1,q2,q3⟩|⟨y,oa,q,-⟩
  ·rw[H.done 12 af rfl] at oa;cases oa
  ·have hv:v 12=.slice p l c:=aK ((H.done 12 af rfl).symm.trans oa);have hk:=q2.more _ h1.own;have cV:s.rv.ownBlock≠some K.kb:=fun e=>by have:=h1.l5 _ e;rw[h1.l0] at this;omega
   have ab0:=World.rowIs.of_block h1.row (q2.same _ RD cV);refine⟨q2.ay,fun y hy=>?_,fun wl aI=>aI=wl.setCell ⟨K.kb,10,none⟩ (.slice p l c),fun wl aE=>⟨_,?_,rfl⟩,fun wl aI w2 aE hR ba=>?_⟩
   ·simp[Op.operands] at hy;rcases hy with rfl|rfl
    ·simp[Act.eval];exact aH hk
    ·simp[Act.eval];rw[hv];exact q1.cl
   ·have rl:=World.rowIs.of_block ab0 (aE.heap _ hk);have e1:=rl.cell (i:=10) aa;have f:=rl.frozen;simp[go_sem,Act.eval,hv,e1,f]
   ·have hO:cN K.kb wl aI:=by rw[hR];exact fW _ _ _ _
    obtain⟨on,kr,e9⟩:=ba.only aE hk hO;have gw:=ba.ay;rw[e9] at gw |-;rw[hR] at kr;refine .inr (.inr ⟨.slice p l c,by simpa[dB] using oa,by simp[dB],q1.keep (fun _ q=>q) (bq on.1.symm) (fun g hg=>on.2 g fun e=>?_),(q2.mono fun b hb=>.inr hb).trans (bu.db gw on (.inl rfl)),q3,(World.rowIs.of_block ((World.rowIs.of_block ab0 (aE.heap _ hk)).set 10 _) kr).congr fun j hj=>?_⟩)
    ·rcases q3 g hg with q|q
     ·exact cV (by rw[q,e])
     ·omega
    ·rcases mm hj with rfl|rfl|rfl|rfl|rfl|rfl|rfl|rfl|rfl|rfl|rfl|rfl|rfl<;>rfl
  ·exact absurd O5 q
 walk_nrm;refine cd fun σ o5 w5 kP hS=>?_;rcases hS with⟨oa,-⟩|⟨y,oa,O5,-⟩|⟨y,-,-,q1,q2,q3,q4⟩
 ·rw[kP 12 dh rfl] at oa;cases oa
 ·rw[kP 15 dh rfl] at O5;cases O5
 clear kP;simp only[gN,cZ,if_true,if_false,reduceIte,Nat.reduceEqDiff];obtain⟨nJ,h5,S5⟩:=h1.Yt q2 q1 q3 q4 eR;have O7:nJ w.heap.size=7:=(S5.lab _ aa).trans od;have Jj:=(S5.aU.same w.heap.size aa (by rw[od];omega)).trans qK;have qi:=S5.aU.more _ pH;clear q1 q2 q3 q4;refine aA ?_;refine bD aX h5.ay rfl ai ai ?_ rfl (R:=fun wl aI=>aI=(wl.setCell ⟨w.heap.size,0,none⟩ (.int .i64 3)).setCell ⟨w.heap.size,1,none⟩ (.string x)) (fun wl aE=>⟨_,?_,rfl⟩) fun wl aI wA aE hR ba=>?_
 ·refine dU ?_ ?_
  ·exact aH qi
  ·exact cJ (vs:=[_,_]) (fun x hx=>by
    simp at hx;rcases hx with rfl|rfl
    ·exact bN
    ·exact bf)
 ·obtain⟨e0,e1,f0,f1⟩:=bT ((aE.heap _ qi).trans Jj)
  first
  | (simp[go_sem,e0,e1,f0,f1];done)
  | (simp[go_sem,e0,e1,f0,f1];rfl)
 have hO:cN w.heap.size wl aI:=by rw[hR];exact iB _ _ _ _ _ _
 obtain⟨yx,nL,eA⟩:=ba.only aE qi hO;have rF:=ba.ay;rw[eA] at rF |-;rw[hR,nG ((aE.heap _ qi).trans Jj)] at nL;obtain⟨hA,SA⟩:=h5.did qX uW S5 O7 rF yx;clear hR ba aE hO wl aI eA;refine aA ?_;have c9:∀n,(wA.at n).cell? ⟨w.heap.size,0,none⟩=some (.int .i64 3)/\(wA.at n).cell? ⟨w.heap.size,1,none⟩=some (.string x):=fun n=>⟨(bT nL).1,(bT nL).2.1⟩;refine⟨.inr trivial,trivial,.agg #[.int .i64 3,.string x],p7 (fun n=>?_) (fun n e he=>?_),_,nJ,.inr ⟨bZ,by rw[hx];rfl,y,by rw[hx,hz,<- I8,<- A4]⟩,hA,SA⟩
 ·obtain⟨c0,c1⟩:=c9 n;simp[results,results63,go_sem,c0,c1]
 ·obtain⟨c0,c1⟩:=c9 n;simp[results,results63,go_sem,c0,c1] at he;rcases he with rfl|rfl;all_goals exact⟨_,_,_,rfl,qi⟩
theorem bg.UN(h:bg o w K s lk lab)(hF:bE ar L0 o w')(hO:cN K.kb w w')(hr:w'.rowIs K.kb 120 13 (fun j=>if j=4+1 then .bool false else if j=4 then .slice none 0 0 else qG K s lk j)):
  bg o w' K {s with qv:=.slice none 0 0,qn:=[],lost:=false} lk lab:=by
 have hW:bu (·=K.kb) o w o w':=bu.db hF hO rfl;have P:=h.parts hW 0 0 fun b hb=>.inl (by rw[hb];exact h.l0);have q6:=P.set aa aa;obtain⟨f1,f2,f3⟩:=h.gT;refine⟨hF,hr.congr fun j hj=>?_,h.own,P.build aa aa,P.files aa aa,⟨⟨0,aQ _,an,.inl ⟨rfl,rfl⟩⟩,gS⟩,P.ju aa aa,P.reads aa aa,⟨q6.blk,q6.own,q6.res,q6.cl,q6.gT,q6.ku⟩,h.l0,h.l1,h.l2,(fun b hb=>by cases hb),h.l4,h.l5,h.l6,an,f2,f3⟩;rcases mm hj with rfl|rfl|rfl|rfl|rfl|rfl|rfl|rfl|rfl|rfl|rfl|rfl|rfl<;>rfl
theorem bg.UO(h:bg o w K s lk lab)(hW:bu (·=K.B.bb) o w o' w'){fd':Option (Nat×dm)}(hB:fq o' w' K.B fd' s.old){mid:Nat}(hm:∀b,mB K.B fd' s.old b->b<mid)(tt:K.B.bb<w.heap.size)(hx:∀b,mB K.B fd' s.old b->mB K.B s.fd s.old b\/w.heap.size<=b):
  ∃lab',bg o' w' K {s with fd:=fd'} lk lab'/\cK o w lab o' w' lab'/\∀b,w.heap.size<=b->mid<=b->lab' b=4:=by
 have ui:∀b,b=K.B.bb->lab b=1:=fun b hb=>(h.l1 b (.inl hb)).trans (if_neg (by have:=h.build.apart.2.2.2.2.1;omega));have P:=h.parts hW 1 1 fun b hb=>.inl (ui b hb);obtain⟨a1,a2,a3,a4⟩:=h.all;have lb:∀b,o b->(if w.heap.size<=b then(if mid<=b then 4 else 1) else lab b)=lab b:=fun b hb=>if_neg (by have:=h.ay.lt hb;omega);have q6:=P.set aa aa;refine⟨fun b=>if w.heap.size<=b then(if mid<=b then 4 else 1) else lab b,⟨hW.ay,P.row aa aa,hW.more _ h.own,hB,P.files aa aa,P.queue aa aa,P.ju aa aa,P.reads aa aa,⟨q6.blk,q6.own,q6.res,q6.cl,q6.gT,q6.ku⟩,(lb _ h.own).trans h.l0,fun b hb=>?_,fun b hb=>(lb b ?_).trans (h.l2 b hb),fun b hb=>(lb b (a1 b hb)).trans (h.l3 b hb),fun b hb=>(lb b (a2 b hb)).trans (h.l4 b hb),fun b hb=>(lb b (a3 b hb)).trans (h.l5 b hb),fun b hb=>(lb b (a4 b hb)).trans (h.l6 b hb),h.gT⟩,⟨hW.mono fun b hb=>by rw[ui b hb];omega,fun b hb=>if_neg aa⟩,fun b h1 h2=>by simp[h1,h2]⟩
 ·have:=hm b hb;rcases hx b hb with q|q
  ·exact(lb b (h.build.own b q)).trans (h.l1 b q)
  ·have h4:=h.build.apart.2.2.2.2.1;rw[if_pos q,if_neg aa];exact(if_neg aa).symm
 ·rcases hb with rfl|rfl|rfl
  ·exact h.files.own.1
  ·exact h.files.own.2.1
  ·exact h.files.own.2.2
theorem bg.started(h:bg o w K s lk lab){SX:Value}{Yw:List ah}(hF:bE ar L0 o w')(hO:cN K.kb w w')(hr:w'.rowIs K.kb 120 13 (qG K {s.stand 2 0 with sv:=SX,src:=Yw} lk))(ht:Mh o w SX Yw)(hl:∀b,SX.ownBlock=some b->lab b=4):bg o w' K {s.stand 2 0 with sv:=SX,src:=Yw} lk lab:=by
 have hW:bu (·=K.kb) o w o w':=bu.db hF hO rfl;have P:=h.parts hW 0 0 fun b hb=>.inl (by rw[hb];exact h.l0);have q6:=P.set aa aa;obtain⟨f1,f2,f3,f4,f5,f6⟩:=h.gT;exact⟨hF,hr,h.own,P.build aa aa,P.files aa aa,P.queue aa aa,ht.keep (fun _ q=>q) (fun g hg=>hO.2 g fun e=>by have:=hl g hg;rw[e,h.l0] at this;omega),Ml,⟨q6.blk,q6.own,q6.res,q6.cl,q6.gT,q6.ku⟩,h.l0,h.l1,h.l2,h.l3,hl,(fun b hb=>by cases hb),h.l6,f1,f2,f3,aQ _,aQ _,aQ _⟩
theorem RF{B:zf}{fd:Option (Nat×dm)}{old:Nat->Option (Nat×List V)}(h:fq o w B fd old):(iq B.NM B.rs).length<=1000:=by
 have q1:=xa (ll (B.rs.map (·.out)) (Fh B.NM B.rs) B.rs.length);have q2:=py (B.rs.map (·.out)) (Fh B.NM B.rs) B.rs.length (fun i hi=>by rw[mR hi];exact h.right.four _ (aD hi)) B.rs.length (ag _);have q3:=h.rules.gT;have:(iq B.NM B.rs).length<=(ll (B.rs.map (·.out)) (Fh B.NM B.rs) B.rs.length).length:=q1;omega
theorem K3{B:zf}{fd:Option (Nat×dm)}{old:Nat->Option (Nat×List V)}{lo n:Nat}{F:dm}(h:fq o w B (some (lo,F)) old)(hf:fd=some (lo,F)\/fd=none/\lo=n):∀b,mB B (some (lo,F)) old b->mB B fd old b\/n<=b:=fun b hb=>by
 rcases hf with rfl|⟨rfl,rfl⟩
 ·exact .inl hb
 ·rcases hb with q|q|q|q|q|⟨Ra,F',e,q⟩|q
  ·exact .inl (.inl q)
  ·exact .inl (.inr (.inl q))
  ·exact .inl (.inr (.inr (.inl q)))
  ·exact .inl (.inr (.inr (.inr (.inl q))))
  ·exact .inl (.inr (.inr (.inr (.inr (.inl q)))))
  ·cases e;obtain⟨y0,y1,y2,-,hp⟩:=h.blk;exact .inr ((hp _ _ rfl).ge q)
  ·exact .inl (.inr (.inr (.inr (.inr (.inr (.inr q))))))
theorem ga.Jm{lo:Nat}{ts:List ah}{v:Value}(h:ga lo ts v w)(hc:Cl ar L0 o v)(hg:∀g l c,v=.slice (some ⟨g,0,none⟩) l c->o g)(hl:ts.length<=1000):Mh o w v ts:=by
 refine⟨?_,hc,hl⟩;rcases h.own with⟨e,e2⟩|⟨g,cap,e,g1,g2,g3⟩
 ·exact⟨none,0,0,by rw[e2];exact e,fun _=>e2,fun q=>absurd e2 q,fun i hi=>by rw[e2] at hi;simp at hi⟩
 ·exact⟨_,g,cap,e,(fun q=>by cases q),fun _=>⟨rfl,hg g _ _ e⟩,g3⟩
def Fx(K:sj)(s s':kT)(v:Value):Prop :=
 ((0<s.qn.length\/s.lost=true)/\v=did 1 aN/\s'=kT.stand {s with qv:=.slice none 0 0,qn:=[],lost:=false} 1 s.time) \/
 (¬(0<s.qn.length\/s.lost=true)/\(s.phase=1/\s.since+5<=s.time)/\v=did 2 aN/\∃lo F SX,s'={s.stand 2 0 with fd:=some (lo,F),sv:=SX,src:=iq K.B.NM K.B.rs}) \/
 (¬(0<s.qn.length\/s.lost=true)/\¬(s.phase=1/\s.since+5<=s.time)/\v=did 0 aN/\s'=s)
theorem Yx(h:bg o w K s lk lab):
  bp ar (XB ar Fin 0) 65 #[.pointer (some ⟨K.kb,0,none⟩)] o w fun v o' w'=>∃s' lab',Fx K s s' v/\bg o' w' K s' lk lab'/\cK o w lab o' w' lab':=by
 have W:=bJ (P:=ar) (Fin:=Fin) (d:=0);refine dJ W func65 ai ?_;walk_nrmf Tryz.f65;refine aA ?_;refine cq aX h.ay rfl ai ai kp rfl (R:=fun wl v aI=>v=.pointer (some ⟨wl.heap.size,0,none⟩)/\aI=wl.alloc (Obj.cells #[.int .i64 0,.string aN] 32)) (fun wl aE=>⟨_,_,by simp[go_sem];rfl,rfl,rfl⟩) fun wl v1 aI w1 aE hR ba=>?_;obtain⟨rfl,hR⟩:=hR;obtain⟨z1,k1,qK⟩:=ba.alloc h.ay aE hR;have mw:=ba.ay;rw[aE.size];clear hR ba aE wl aI;obtain⟨eN,h1,uW,od,pH,qX⟩:=h.opened mw z1 k1;generalize grow o w w1=o1 at *;obtain⟨p,b,c,hqv,-,-,-,-⟩:=h1.queue.view h1.ay;have c4:w1.cell? ⟨K.kb,4,none⟩=some (.slice p s.qn.length c):=by rw[h1.row.cell aa];exact congrArg some hqv
 have c5:w1.cell? ⟨K.kb,5,none⟩=some (.bool s.lost):=by rw[h1.row.cell aa];rfl
 have c6:w1.cell? ⟨K.kb,6,none⟩=some (.int .i64 s.time):=by rw[h1.row.cell aa];rfl
 have c7:w1.cell? ⟨K.kb,7,none⟩=some (.int .i64 s.phase):=by rw[h1.row.cell aa];rfl
 have c8:w1.cell? ⟨K.kb,8,none⟩=some (.int .i64 s.since):=by rw[h1.row.cell aa];rfl
 have RD:=h1.ay.lt h1.own;have S11:cK o1 w1 eN o1 w1 eN:=.of (ex:=fun _=>False) (bu.refl h1.ay) fun b hb=>hb.elim;have cV:w.heap.size≠K.kb:=fun e=>by have:=h1.l0;rw[<- e,od] at this;omega
 refine aA ?_;refine aF W rfl ai rfl func103 af rfl aC rfl ((UH h1.ay K.kb 4 s.qn.length c p s.lost h1.own c4 c5).mono ?_);rintro v0 o2 w2 ⟨rfl,rfl,rfl⟩;refine aA ?_;refine hZ W (t:=decide (0<s.qn.length)||s.lost) aC ?_;by_cases hq:0<s.qn.length\/s.lost=true
 ·rw[if_pos (by simpa using hq)];refine aA ?_;refine aF W rfl ai rfl func104 af rfl aC rfl ((UI h1.ay K.kb 4 120 13 _ h1.own h1.row aa).mono ?_);rintro v0 o2' w3 ⟨rfl,rfl,qu,Iu,agf⟩;have h3:=h1.UN qu Iu agf;have S3:cK o2' w2 eN o2' w3 eN:=.of (bu.db (ex:=(·=K.kb)) qu Iu rfl) fun b hb=>by rw[hb,h1.l0];omega
  refine aA ?_;refine aF W rfl ai rfl func102 af rfl aC rfl ((Rz h3).mono ?_);rintro v0 o4 w4 ⟨rfl,S4,h4⟩;have S34:=S3.trans S4;have si:=(S34.aU.same w.heap.size aa (by rw[od];omega)).trans qK;have mq:=S34.aU.more _ pH;refine aA ?_;refine bD aX h4.ay rfl ai ai ?_ rfl (R:=fun wl aI=>aI=(wl.setCell ⟨w.heap.size,0,none⟩ (.int .i64 1)).setCell ⟨w.heap.size,1,none⟩ (.string aN)) (fun wl aE=>⟨_,?_,rfl⟩) fun wl aI wA aE hR ba=>?_
  ·refine dU ?_ ?_
   ·exact aH mq
   ·exact cJ (vs:=[_,_]) (fun x hx=>by
     simp at hx;rcases hx with rfl|rfl
     ·exact bN
     ·exact bf)
  ·obtain⟨e0,e1,f0,f1⟩:=bT ((aE.heap _ mq).trans si)
   first
   | (simp[go_sem,e0,e1,f0,f1];done)
   | (simp[go_sem,e0,e1,f0,f1];rfl)
  have hO:cN w.heap.size wl aI:=by rw[hR];exact iB _ _ _ _ _ _
  obtain⟨yx,nL,eA⟩:=ba.only aE mq hO;have rF:=ba.ay;rw[eA] at rF |-;rw[hR,nG ((aE.heap _ mq).trans si)] at nL;obtain⟨hA,SA⟩:=h4.did qX uW S34 od rF yx;clear hR ba aE hO wl aI eA;refine aA ?_;have c9:∀n,(wA.at n).cell? ⟨w.heap.size,0,none⟩=some (.int .i64 1)/\(wA.at n).cell? ⟨w.heap.size,1,none⟩=some (.string aN):=fun n=>⟨(bT nL).1,(bT nL).2.1⟩;refine⟨.inr trivial,trivial,.agg #[.int .i64 1,.string aN],p7 (fun n=>?_) (fun n e he=>?_),_,eN,.inl ⟨hq,rfl,rfl⟩,hA,SA⟩
  ·obtain⟨c0,c1⟩:=c9 n;simp[results,results65,go_sem,c0,c1]
  ·obtain⟨c0,c1⟩:=c9 n;simp[results,results65,go_sem,c0,c1] at he;rcases he with rfl|rfl;all_goals exact⟨_,_,_,rfl,mq⟩
 rw[if_neg (by simpa using hq)];refine aA ?_;obtain⟨-,-,f3,f4,-⟩:=h1.gT;by_cases hp:s.phase=1
 ·have hpi:((s.phase:Int)==1)=true:=by simp[hp]
  have CP:IntKind.i64.wrap ((s.time:Int)-s.since)=(s.time:Int)-s.since:=by rw[IntKind.wrap_i64]<;>omega
  refine dq mixed af [some none,some none,some none,some none,some (some (.int .i64 s.phase)),some none,some none,some none,some none,some none,some (some (.int .i64 s.time)),some none,some none,some none,some none,some (some (.int .i64 s.since)),some none,some none,some none]
   (S:=fun σ o' w'=>o2=o'/\w2=w') ⟨rfl,rfl⟩ fun v=>?_
  refine dp ?_;refine bO ?_;refine bK aX rfl rfl rfl ai ai (fun σ o' w' H hS=>?_) ?_
  ·obtain⟨rfl,rfl⟩:=hS;exact rd3 h1.ay h1.own c7
  walk_nrm;refine tM (y:=.bool true) rfl rfl rfl ai (fun w1=>by simp[go_sem,Act.eval,hpi]) (fun w1=>by simp[go_sem,Act.eval]) ?_;refine bO ?_;refine bK aX rfl rfl rfl ai ai (fun σ o' w' H hS=>?_) ?_
  ·obtain⟨rfl,rfl⟩:=hS;exact rd3 h1.ay h1.own c6
  refine bO ?_;refine bK aX rfl rfl rfl ai ai (fun σ o' w' H hS=>?_) ?_
  ·obtain⟨rfl,rfl⟩:=hS;exact rd3 h1.ay h1.own c8
  refine bO ?_;refine cd fun σ o3 w3 kP hS=>?_;obtain⟨rfl,rfl⟩:=hS;clear kP;simp only[gN,cZ,if_true,if_false,reduceIte,Nat.reduceEqDiff];refine hZ W (t:=decide (s.since+5<=s.time)) (by simp[Act.eval,CP];omega) ?_;by_cases ht:s.since+5<=s.time
  ·rw[if_pos (dv ht)];have c2:w2.cell? ⟨K.kb,2,none⟩=some (.pointer (some ⟨K.B.bb,0,none⟩)):=by rw[h1.row.cell aa];rfl
   refine aA ?_;refine rdC h1.ay h1.own c2 fun _=>?_;refine aA ?_;refine aF W rfl ai rfl func44 af rfl aC rfl ((Oo h1.ay K.B s.fd s.old h1.build).mono ?_);rintro v3 o3 w3 ⟨W3,⟨lo,F,mid,hB,KZ,LJ,hm,hmv⟩,ab4,ht3,hg3⟩;obtain⟨oI,h3,S3,L3⟩:=h1.UO W3 hB hm (h1.ay.lt (h1.build.own _ (.inl rfl))) (K3 hB KZ);obtain⟨p3,l3,c3,rfl⟩:=tx ht3;have Jm:=ht3.Jm ab4 hg3 (RF hB);have Cy:oI w.heap.size=7:=(S3.lab _ aa).trans od;have vz:=(S3.aU.same w.heap.size aa (by rw[od];omega)).trans qK;have rZ:=S3.aU.more _ pH;refine aA ?_;refine bD aX h3.ay rfl ai ai ?_ rfl (R:=fun wl aI=>aI=((((wl.setCell ⟨K.kb,7,none⟩ (.int .i64 (2:Nat))).setCell ⟨K.kb,8,none⟩ (.int .i64 (0:Nat))).setCell ⟨K.kb,9,none⟩ (.slice p3 l3 c3)).setCell ⟨K.kb,10,none⟩ (.slice none 0 0)).setCell ⟨K.kb,11,none⟩ (.int .i64 0)) (fun wl aE=>⟨_,?_,rfl⟩) fun wl aI w9 aE hR ba=>?_
   ·refine dU ?_ ?_
    ·exact aH h3.own
    ·exact cJ (vs:=[_,_,_,_,_]) (fun x hx=>by
      simp at hx;rcases hx with rfl|rfl|rfl|rfl|rfl
      ·exact bN
      ·exact bN
      ·exact ab4
      ·exact gS
      ·exact bN)
   ·have rl:=World.rowIs.of_block h3.row (aE.heap _ h3.own);have e7:=rl.cell (i:=7) aa;have e8:=rl.cell (i:=8) aa;have e9:=rl.cell (i:=9) aa;have Vu:=rl.cell (i:=10) aa;have Pr:=rl.cell (i:=11) aa;have f:=rl.frozen;simp[go_sem,e7,e8,e9,Vu,Pr,f]
   have hO:cN K.kb wl aI:=by rw[hR];exact Ry _ _ _ _ _ _ _ _ _ _ _ _
   obtain⟨kK,kr,e9⟩:=ba.only aE h3.own hO;have gw:=ba.ay;rw[e9] at gw |-;rw[hR] at kr;have h9:=h3.started gw kK ((World.rowIs.of_block ((((((World.rowIs.of_block h3.row (aE.heap _ h3.own)).set 7 _).set 8 _).set 9 _).set 10 _).set 11 _) kr).congr fun j hj=>by
    rcases mm hj with rfl|rfl|rfl|rfl|rfl|rfl|rfl|rfl|rfl|rfl|rfl|rfl|rfl<;>rfl) Jm (fun b hb=>L3 b (by have:=hmv b hb;omega) (hmv b hb))
   have S9:=S3.trans (.of (bu.db (ex:=(·=K.kb)) gw kK rfl) fun b hb=>by rw[hb,h3.l0];omega);have Wj:=(kK.2 _ cV).trans vz;clear hR ba aE hO kr wl aI e9;refine aA ?_;refine bD aX h9.ay rfl ai ai ?_ rfl (R:=fun wl aI=>aI=(wl.setCell ⟨w.heap.size,0,none⟩ (.int .i64 2)).setCell ⟨w.heap.size,1,none⟩ (.string aN)) (fun wl aE=>⟨_,?_,rfl⟩) fun wl aI wA aE hR ba=>?_
   ·refine dU ?_ ?_
    ·exact aH rZ
    ·exact cJ (vs:=[_,_]) (fun x hx=>by
      simp at hx;rcases hx with rfl|rfl
      ·exact bN
      ·exact bf)
   ·obtain⟨e0,e1,f0,f1⟩:=bT ((aE.heap _ rZ).trans Wj)
    first
    | (simp[go_sem,e0,e1,f0,f1];done)
    | (simp[go_sem,e0,e1,f0,f1];rfl)
   have hO:cN w.heap.size wl aI:=by rw[hR];exact iB _ _ _ _ _ _
   obtain⟨yx,nL,eA⟩:=ba.only aE rZ hO;have rF:=ba.ay;rw[eA] at rF |-;rw[hR,nG ((aE.heap _ rZ).trans Wj)] at nL;obtain⟨hA,SA⟩:=h9.did qX uW S9 Cy rF yx;clear hR ba aE hO wl aI eA;refine aA ?_;have c9:∀n,(wA.at n).cell? ⟨w.heap.size,0,none⟩=some (.int .i64 2)/\(wA.at n).cell? ⟨w.heap.size,1,none⟩=some (.string aN):=fun n=>⟨(bT nL).1,(bT nL).2.1⟩;refine⟨.inr trivial,trivial,.agg #[.int .i64 2,.string aN],p7 (fun n=>?_) (fun n e he=>?_),_,oI,.inr (.inl ⟨hq,⟨hp,ht⟩,rfl,lo,F,_,rfl⟩),hA,SA⟩
   ·obtain⟨c0,c1⟩:=c9 n;simp[results,results65,go_sem,c0,c1]
   ·obtain⟨c0,c1⟩:=c9 n;simp[results,results65,go_sem,c0,c1] at he;rcases he with rfl|rfl;all_goals exact⟨_,_,_,rfl,rZ⟩
  ·rw[if_neg (by simpa using ht)];refine aA ?_;refine bD aX h1.ay rfl ai ai ?_ rfl (R:=fun wl aI=>aI=(wl.setCell ⟨w.heap.size,0,none⟩ (.int .i64 0)).setCell ⟨w.heap.size,1,none⟩ (.string aN)) (fun wl aE=>⟨_,?_,rfl⟩) fun wl aI wA aE hR ba=>?_
   ·refine dU ?_ ?_
    ·exact aH pH
    ·exact cJ (vs:=[_,_]) (fun x hx=>by
      simp at hx;rcases hx with rfl|rfl
      ·exact bN
      ·exact bf)
   ·obtain⟨e0,e1,f0,f1⟩:=bT ((aE.heap _ pH).trans qK)
    first
    | (simp[go_sem,e0,e1,f0,f1];done)
    | (simp[go_sem,e0,e1,f0,f1];rfl)
   have hO:cN w.heap.size wl aI:=by rw[hR];exact iB _ _ _ _ _ _
   obtain⟨yx,nL,eA⟩:=ba.only aE pH hO;have rF:=ba.ay;rw[eA] at rF |-;rw[hR,nG ((aE.heap _ pH).trans qK)] at nL;obtain⟨hA,SA⟩:=h1.did qX uW S11 od rF yx;clear hR ba aE hO wl aI eA;refine aA ?_;have c9:∀n,(wA.at n).cell? ⟨w.heap.size,0,none⟩=some (.int .i64 0)/\(wA.at n).cell? ⟨w.heap.size,1,none⟩=some (.string aN):=fun n=>⟨(bT nL).1,(bT nL).2.1⟩;refine⟨.inr trivial,trivial,.agg #[.int .i64 0,.string aN],p7 (fun n=>?_) (fun n e he=>?_),_,eN,.inr (.inr ⟨hq,fun q=>ht q.2,rfl,rfl⟩),hA,SA⟩
   ·obtain⟨c0,c1⟩:=c9 n;simp[results,results65,go_sem,c0,c1]
   ·obtain⟨c0,c1⟩:=c9 n;simp[results,results65,go_sem,c0,c1] at he;rcases he with rfl|rfl;all_goals exact⟨_,_,_,rfl,pH⟩
 ·have hpi:((s.phase:Int)==1)=false:=eR;refine dq mixed af [some none,some none,some none,some none,some (some (.int .i64 s.phase)),some none,some none,some (some undef),some (some undef),some (some undef),some (some undef),some (some undef),some (some undef),some (some undef),some (some undef),some (some undef),some (some undef),some (some undef),some none]
   (S:=fun σ o' w'=>o2=o'/\w2=w') ⟨rfl,rfl⟩ fun v=>?_
  refine dp ?_;refine bO ?_;refine bK aX rfl rfl rfl ai ai (fun σ o' w' H hS=>?_) ?_
  ·obtain⟨rfl,rfl⟩:=hS;exact rd3 h1.ay h1.own c7
  walk_nrm;refine tM (y:=.bool false) rfl rfl rfl ai (fun w1=>by simp[go_sem,Act.eval,hpi]) (fun w1=>by simp[go_sem,Act.eval]) ?_;refine bO ?_
  iterate 11 (refine Xz rfl rfl ai ?_;walk_nrm)
  refine bO ?_;refine cd fun σ o3 w3 kP hS=>?_;obtain⟨rfl,rfl⟩:=hS;clear kP;simp only[gN,cZ,if_true,if_false,reduceIte,Nat.reduceEqDiff];refine hZ W (t:=false) aC ?_;refine aA ?_;refine bD aX h1.ay rfl ai ai ?_ rfl (R:=fun wl aI=>aI=(wl.setCell ⟨w.heap.size,0,none⟩ (.int .i64 0)).setCell ⟨w.heap.size,1,none⟩ (.string aN)) (fun wl aE=>⟨_,?_,rfl⟩) fun wl aI wA aE hR ba=>?_
  ·refine dU ?_ ?_
   ·exact aH pH
   ·exact cJ (vs:=[_,_]) (fun x hx=>by
     simp at hx;rcases hx with rfl|rfl
     ·exact bN
     ·exact bf)
  ·obtain⟨e0,e1,f0,f1⟩:=bT ((aE.heap _ pH).trans qK)
   first
   | (simp[go_sem,e0,e1,f0,f1];done)
   | (simp[go_sem,e0,e1,f0,f1];rfl)
  have hO:cN w.heap.size wl aI:=by rw[hR];exact iB _ _ _ _ _ _
  obtain⟨yx,nL,eA⟩:=ba.only aE pH hO;have rF:=ba.ay;rw[eA] at rF |-;rw[hR,nG ((aE.heap _ pH).trans qK)] at nL;obtain⟨hA,SA⟩:=h1.did qX uW S11 od rF yx;clear hR ba aE hO wl aI eA;refine aA ?_;have c9:∀n,(wA.at n).cell? ⟨w.heap.size,0,none⟩=some (.int .i64 0)/\(wA.at n).cell? ⟨w.heap.size,1,none⟩=some (.string aN):=fun n=>⟨(bT nL).1,(bT nL).2.1⟩;refine⟨.inr trivial,trivial,.agg #[.int .i64 0,.string aN],p7 (fun n=>?_) (fun n e he=>?_),_,eN,.inr (.inr ⟨hq,fun q=>hp q.1,rfl,rfl⟩),hA,SA⟩
  ·obtain⟨c0,c1⟩:=c9 n;simp[results,results65,go_sem,c0,c1]
  ·obtain⟨c0,c1⟩:=c9 n;simp[results,results65,go_sem,c0,c1] at he;rcases he with rfl|rfl;all_goals exact⟨_,_,_,rfl,pH⟩
theorem vA{Post:Value->aM->ae->Prop}{A:Nat}{n:Int}{x:ah}(h:bg o w K s 1 lab)(hb:w.heap[A]?=some (.cells #[.int .i64 n,.string x] 32))(cV:A≠K.kb)(hA:o A)(tm:Array Value)(ht:tm.getD 2 undef=.pointer (some ⟨A,0,none⟩))(hp:∀w',bg o w' K s 0 lab->cN K.kb w w'->Post (did n x) o w'):
  jf (XB ar Fin 0) 38 Post ⟨tm,[{target:=.fn (.func 46) #[],args:=#[.pointer (some ⟨K.kb,0,none⟩)]}]⟩ o w:=by
 have W:=bJ (P:=ar) (Fin:=Fin) (d:=0);refine h.unlock tm fun w' hk hz hs=>Bq W func38 rfl (p7 (fun n=>?_) (fun n e he=>?_)) (hp w' hk ⟨hz,hs⟩)
 ·have kb:=(hs A cV).trans hb;have c0:(w'.at n).cell? ⟨A,0,none⟩=_:=(bT kb).1;have c1:(w'.at n).cell? ⟨A,1,none⟩=_:=(bT kb).2.1;simp at ht;simp[results,results38,go_sem,ht,c0,c1,did]
 ·have kb:=(hs A cV).trans hb;have c0:(w'.at n).cell? ⟨A,0,none⟩=_:=(bT kb).1;have c1:(w'.at n).cell? ⟨A,1,none⟩=_:=(bT kb).2.1;simp at ht;simp[results,results38,go_sem,ht,c0,c1] at he;rcases he with rfl|rfl;all_goals exact⟨_,_,_,rfl,hA⟩
theorem Fx.shape{s':kT}{v:Value}(h:Fx K s s' v):∃n x,v=did n x:=by
 rcases h with⟨-,e,-⟩|⟨-,-,e,-⟩|⟨-,-,e,-⟩
 ·exact⟨_,_,e⟩
 ·exact⟨_,_,e⟩
 ·exact⟨_,_,e⟩
theorem Fw.shape{s':kT}{F:dm}{file:ah->V}{v:Value}(h:Fw K s s' F file v):∃n x,v=did n x:=by
 rcases h with⟨-,e⟩|⟨_,e,-⟩
 ·exact e.shape
 ·exact⟨_,_,e⟩
def kX(K:sj)(s s':kT)(F:dm)(file:ah->V)(v:Value):Prop :=
 (s.phase=2/\Fw K s s' F file v)\/(s.phase=3/\Checked K s s' F file v)\/(s.phase≠2/\s.phase≠3/\Fx K s s' v)
theorem Yy[Payload](h:bg o w K s 0 lab)(lo:Nat)(F:dm)(file:ah->V)(pU:∀x,(file x).2.size<=100)(KZ:s.phase=2\/s.phase=3->s.fd=some (lo,F))(h2r:s.phase=2->s.rd.length=s.src.length->s.rd.map (·.1)=(iq K.B.NM K.B.rs).map file)(h3r:s.phase=3->s.rd.length=s.src.length/\s.rd.map (·.1)=(iq K.B.NM K.B.rs).map file):
  bp ar (XB ar Fin 0) 38 #[.pointer (some ⟨K.kb,0,none⟩)] o w fun v o' w'=>∃s' lab',kX K s s' F file v/\bg o' w' K s' 0 lab'/\cK o w lab o' w' lab':=by
 have W:=bJ (P:=ar) (Fin:=Fin) (d:=0);refine lO W func38 ai ?_;walk_nrmf Tryz.f38;refine aA ?_;refine cq aX h.ay rfl ai ai kp rfl (R:=fun wl v aI=>v=.pointer (some ⟨wl.heap.size,0,none⟩)/\aI=wl.alloc (Obj.cells #[.int .i64 0,.string aN] 32)) (fun wl aE=>⟨_,_,by simp[go_sem];rfl,rfl,rfl⟩) fun wl v1 aI w1 aE hR ba=>?_;obtain⟨rfl,hR⟩:=hR;obtain⟨z1,k1,qK⟩:=ba.alloc h.ay aE hR;have mw:=ba.ay;rw[aE.size];clear hR ba aE wl aI;obtain⟨eN,h1,uW,od,pH,qX⟩:=h.opened mw z1 k1;generalize grow o w w1=o1 at *;have cV:w.heap.size≠K.kb:=fun e=>by have:=h1.l0;rw[<- e,od] at this;omega
 refine aA ?_;refine aF W rfl ai rfl func45 af rfl aC rfl ((yf K.kb 0 h1.own (by rw[h1.row.cell aa];rfl) (h1.row.frozen 0)).mono ?_);rintro v0 o0 w0 ⟨rfl,rfl,rfl⟩;have h2:=h1.lock (lk':=1);have S2:=cK.lock h1 (lk':=1);have O8:=fW w1 K.kb 0 (.int .i32 1);generalize w1.setCell ⟨K.kb,0,none⟩ (.int .i32 1)=w2 at h2 O8 S2 |-;have O6:=(O8.2 _ cV).trans qK;refine aA ?_;refine kH W (d:={target:=.fn (.func 46) #[],args:=#[.pointer (some ⟨K.kb,0,none⟩)]}) rfl ai (fun w1=>fa) (fun w1=>fa) rfl ?_;walk_nrm;have c7:w2.cell? ⟨K.kb,7,none⟩=some (.int .i64 s.phase):=by rw[h2.row.cell aa];rfl
 refine aA ?_;refine rdC h2.ay h2.own c7 fun _=>?_;refine aA ?_;refine hZ W (t:=decide (s.phase=2)) (by simp[Act.eval];rw[dD];simp;omega) ?_;by_cases p2:s.phase=2
 ·rw[if_pos (dv p2)];refine aA ?_;refine aF W rfl ai rfl func63 af rfl aC rfl ((K2 h2 lo F (KZ (.inl p2)) file pU (h2r p2)).mono ?_);rintro v0 o4 w4 ⟨s',uu,uh,h4,S4⟩;have FX:uu w.heap.size=7:=(S4.lab _ (by rw[O8.1];omega)).trans od;have si:=(S4.aU.same w.heap.size (by rw[O8.1];omega) (by rw[od];omega)).trans O6;have mq:=S4.aU.more _ pH;have Yu:=S2.trans S4;obtain⟨dn,dx,rfl⟩:=uh.shape;unfold did at uh |-;walk_nrm;refine bD aX h4.ay rfl ai ai ?_ rfl (R:=fun wl aI=>aI=(wl.setCell ⟨w.heap.size,0,none⟩ (.int .i64 dn)).setCell ⟨w.heap.size,1,none⟩ (.string dx)) (fun wl aE=>⟨_,?_,rfl⟩) fun wl aI wA aE hR ba=>?_
  ·refine dU ?_ ?_
   ·exact aH mq
   ·exact cJ (vs:=[_,_]) (fun x hx=>by
     simp at hx;rcases hx with rfl|rfl
     ·exact bN
     ·exact bf)
  ·obtain⟨e0,e1,f0,f1⟩:=bT ((aE.heap _ mq).trans si);simp[go_sem,e0,e1,f0,f1]
  have hO:cN w.heap.size wl aI:=by rw[hR];exact iB _ _ _ _ _ _
  obtain⟨yx,nL,eA⟩:=ba.only aE mq hO;have rF:=ba.ay;rw[eA] at rF |-;rw[hR,nG ((aE.heap _ mq).trans si)] at nL;obtain⟨hA,SA⟩:=h4.did qX uW Yu FX rF yx;clear hR ba aE hO wl aI eA;refine aA ?_;exact⟨.inr trivial,vA hA nL cV mq _ rfl fun w' hk on=>⟨s',_,.inl ⟨p2,uh⟩,hk,SA.trans (.of (bu.db (ex:=(·=K.kb)) hk.ay on rfl) fun b hb=>by rw[hb,hA.l0];omega)⟩⟩
 rw[if_neg (by simpa using p2)];refine aA ?_;refine hZ W (t:=decide (s.phase=3)) (by simp[Act.eval];rw[dD];simp;omega) ?_;by_cases p3:s.phase=3
 ·rw[if_pos (dv p3)];refine aA ?_;refine aF W rfl ai rfl func64 af rfl aC rfl ((zn h2 (h3r p3).1 lo F (KZ (.inr p3)) file pU (h3r p3).2).mono ?_);rintro v0 o4 w4 ⟨s',uu,uh,h4,S4⟩;have FX:uu w.heap.size=7:=(S4.lab _ (by rw[O8.1];omega)).trans od;have si:=(S4.aU.same w.heap.size (by rw[O8.1];omega) (by rw[od];omega)).trans O6;have mq:=S4.aU.more _ pH;have Yu:=S2.trans S4;obtain⟨dn,dx,rfl⟩:=uh.shape;unfold did at uh |-;walk_nrm;refine bD aX h4.ay rfl ai ai ?_ rfl (R:=fun wl aI=>aI=(wl.setCell ⟨w.heap.size,0,none⟩ (.int .i64 dn)).setCell ⟨w.heap.size,1,none⟩ (.string dx)) (fun wl aE=>⟨_,?_,rfl⟩) fun wl aI wA aE hR ba=>?_
  ·refine dU ?_ ?_
   ·exact aH mq
   ·exact cJ (vs:=[_,_]) (fun x hx=>by
     simp at hx;rcases hx with rfl|rfl
     ·exact bN
     ·exact bf)
  ·obtain⟨e0,e1,f0,f1⟩:=bT ((aE.heap _ mq).trans si);simp[go_sem,e0,e1,f0,f1]
  have hO:cN w.heap.size wl aI:=by rw[hR];exact iB _ _ _ _ _ _
  obtain⟨yx,nL,eA⟩:=ba.only aE mq hO;have rF:=ba.ay;rw[eA] at rF |-;rw[hR,nG ((aE.heap _ mq).trans si)] at nL;obtain⟨hA,SA⟩:=h4.did qX uW Yu FX rF yx;clear hR ba aE hO wl aI eA;refine aA ?_;exact⟨.inr trivial,vA hA nL cV mq _ rfl fun w' hk on=>⟨s',_,.inr (.inl ⟨p3,uh⟩),hk,SA.trans (.of (bu.db (ex:=(·=K.kb)) hk.ay on rfl) fun b hb=>by rw[hb,hA.l0];omega)⟩⟩
 rw[if_neg (by simpa using p3)];refine aA ?_;refine aF W rfl ai rfl func65 af rfl aC rfl ((Yx h2).mono ?_);rintro v0 o4 w4 ⟨s',uu,uh,h4,S4⟩;have FX:uu w.heap.size=7:=(S4.lab _ (by rw[O8.1];omega)).trans od;have si:=(S4.aU.same w.heap.size (by rw[O8.1];omega) (by rw[od];omega)).trans O6;have mq:=S4.aU.more _ pH;have Yu:=S2.trans S4;obtain⟨dn,dx,rfl⟩:=uh.shape;unfold did at uh |-;walk_nrm;refine bD aX h4.ay rfl ai ai ?_ rfl (R:=fun wl aI=>aI=(wl.setCell ⟨w.heap.size,0,none⟩ (.int .i64 dn)).setCell ⟨w.heap.size,1,none⟩ (.string dx)) (fun wl aE=>⟨_,?_,rfl⟩) fun wl aI wA aE hR ba=>?_
 ·refine dU ?_ ?_
  ·exact aH mq
  ·exact cJ (vs:=[_,_]) (fun x hx=>by
    simp at hx;rcases hx with rfl|rfl
    ·exact bN
    ·exact bf)
 ·obtain⟨e0,e1,f0,f1⟩:=bT ((aE.heap _ mq).trans si);simp[go_sem,e0,e1,f0,f1]
 have hO:cN w.heap.size wl aI:=by rw[hR];exact iB _ _ _ _ _ _
 obtain⟨yx,nL,eA⟩:=ba.only aE mq hO;have rF:=ba.ay;rw[eA] at rF |-;rw[hR,nG ((aE.heap _ mq).trans si)] at nL;obtain⟨hA,SA⟩:=h4.did qX uW Yu FX rF yx;clear hR ba aE hO wl aI eA;refine aA ?_;exact⟨.inr trivial,vA hA nL cV mq _ rfl fun w' hk on=>⟨s',_,.inr (.inr ⟨p2,p3,uh⟩),hk,SA.trans (.of (bu.db (ex:=(·=K.kb)) hk.ay on rfl) fun b hb=>by rw[hb,hA.l0];omega)⟩⟩
end
section
variable {Fin:bH} {o o' o1 o2:aM} {w w' w1 w2:ae} {K:sj} {s:kT} {lk:Int} {lab gP:Nat->Nat}
theorem cK.beside{A:Nat}(S:cK o w lab o2 w2 gP)(hW:bu (fun b=>b=A) o2 w2 o' w')(hA:w.heap.size<=A):cK o w lab o' w' gP:=by
 have hz:=S.aU.size;have Ya:=hW.size;exact⟨⟨hW.ay,fun b hb=>hW.more b (S.aU.more b hb),fun b hb=>(hW.new b hb).elim (fun q=>S.aU.new b q) fun q=>.inr aa,aa,fun b hb hx=>(hW.same b aa aa).trans (S.aU.same b hb hx)⟩,S.lab⟩
def Oz(x:Option Value)(v z:Value):Value:=if x.isSome then v else z
def lu(s:kT)(y:Value)(σ:Nat->Option Value):Nat->Value
 |0=>Oz (σ 24) (.int .i64 s.phase) (.int .i64 0)
 |1=>Oz (σ 26) (.int .i64 s.time) (.int .i64 0)
 |2=>Oz (σ 28) (.int .i64 s.since) (.int .i64 0)
 |3=>Oz (σ 30) y (.slice none 0 0)
 |_=>Oz (σ 32) (.bool s.lost) (.bool false)
theorem rG{j:Nat}(h:j<5):j=0\/j=1\/j=2\/j=3\/j=4:=aa
structure Mm(o2:aM)(w2:ae)(A:Nat)(s:kT)(f:Nat->Value)(y:Value)(o':aM)(w':ae):Prop where
 aU:bu (fun b=>b=A) o2 w2 o' w'
 Jm:Mh o' w' y s.qn
 Wl:∀g,y.ownBlock=some g->w2.heap.size<=g
 cap:∃p c,y=.slice p s.qn.length c/\s.qn.length<=c
 row:w'.rowIs A 70 5 f
theorem Mm.put{A:Nat}{f f':Nat->Value}{y:Value}{w9:ae}(L:Mm o2 w2 A s f y o' w')(hA:A<w2.heap.size)(hF:bE ar L0 o' w9)(on:cN A w' w9)(hr:w9.rowIs A 70 5 f'):Mm o2 w2 A s f' y o' w9 :=
 ⟨L.aU.trans (bu.db hF on rfl),L.Jm.keep (fun _ q=>q) (fun g hg=>on.2 g (by have:=L.Wl g hg;omega)),L.Wl,L.cap,hr⟩
def K4(o2:aM)(w2:ae)(A:Nat)(s:kT)(σ:Nat->Option Value)(o':aM)(w':ae):Prop:=(σ 17=none/\o2=o'/\w2=w')\/∃y,σ 17=some y/\Mm o2 w2 A s (lu s y σ) y o' w'
theorem K4.std{A b:Nat}{σ:Nat->Option Value}(h:K4 o2 w2 A s σ o' w')(hF:bE ar L0 o2 w2)(hb:o2 b)(cV:A≠b):bE ar L0 o' w'/\o' b/\w'.heap[b]?=w2.heap[b]?:=by
 rcases h with⟨-,rfl,rfl⟩|⟨y,-,L⟩
 ·exact⟨hF,hb,rfl⟩
 ·exact⟨L.aU.ay,L.aU.more _ hb,L.aU.same b (hF.lt hb) fun q=>cV q.symm⟩
theorem Yz(h:bg o w K s 0 lab):
  bp ar (XB ar Fin 0) 28 #[.pointer (some ⟨K.kb,0,none⟩)] o w fun v o' w'=>∃y lab',v=.agg #[.int .i64 s.phase,.int .i64 s.time,.int .i64 s.since,y,.bool s.lost]/\Mh o' w' y s.qn/\(∀g,y.ownBlock=some g->w.heap.size<=g)/\(∃p c,y=.slice p s.qn.length c/\s.qn.length<=c)/\bg o' w' K s 0 lab'/\cK o w lab o' w' lab':=by
 have W:=bJ (P:=ar) (Fin:=Fin) (d:=0);refine lO W func28 ai ?_;walk_nrmf Tryz.f28;refine aA ?_;refine cq aX h.ay rfl ai ai kp rfl (R:=fun wl v aI=>v=.pointer (some ⟨wl.heap.size,0,none⟩)/\aI=wl.alloc (Obj.cells #[.int .i64 0,.int .i64 0,.int .i64 0,.slice none 0 0,.bool false] 70)) (fun wl aE=>⟨_,_,by first|(simp[go_sem];done)|(simp[go_sem];rfl),rfl,rfl⟩) fun wl v1 aI w1 aE hR ba=>?_;obtain⟨rfl,hR⟩:=hR;obtain⟨z1,k1,qK⟩:=ba.alloc h.ay aE hR;have mw:=ba.ay;rw[aE.size];clear hR ba aE wl aI;obtain⟨eN,h1,uW,od,pH,qX⟩:=h.opened mw z1 k1;generalize grow o w w1=o1 at *;have cV:w.heap.size≠K.kb:=fun e=>by have:=h1.l0;rw[<- e,od] at this;omega
 refine aA ?_;refine aF W rfl ai rfl func45 af rfl aC rfl ((yf K.kb 0 h1.own (by rw[h1.row.cell aa];rfl) (h1.row.frozen 0)).mono ?_);rintro v0 o2 w0 ⟨rfl,rfl,rfl⟩;have h2:=h1.lock (lk':=1);have S2:=cK.lock h1 (lk':=1);have O8:=fW w1 K.kb 0 (.int .i32 1);generalize w1.setCell ⟨K.kb,0,none⟩ (.int .i32 1)=w2 at h2 O8 S2 |-;have O6:=(O8.2 _ cV).trans qK;have S12:cK o w lab o2 w2 eN:=cK.trans ⟨qX.mono (fun b hb=>hb.elim),uW⟩ S2;have K5:w.heap.size<w2.heap.size:=by rw[O8.1];omega
 generalize hAe:w.heap.size=A at *;refine aA ?_;refine kH W (d:={target:=.fn (.func 46) #[],args:=#[.pointer (some ⟨K.kb,0,none⟩)]}) rfl ai (fun w1=>fa) (fun w1=>fa) rfl ?_;walk_nrm;have c5:w2.cell? ⟨K.kb,5,none⟩=some (.bool s.lost):=by rw[h2.row.cell aa];rfl
 have c6:w2.cell? ⟨K.kb,6,none⟩=some (.int .i64 s.time):=by rw[h2.row.cell aa];rfl
 have c7:w2.cell? ⟨K.kb,7,none⟩=some (.int .i64 s.phase):=by rw[h2.row.cell aa];rfl
 have c8:w2.cell? ⟨K.kb,8,none⟩=some (.int .i64 s.since):=by rw[h2.row.cell aa];rfl
 have agi:w2.rowIs A 70 5 (lu s undef fun _=>none):=⟨_,O6,rfl,fun j hj=>by rcases rG hj with rfl|rfl|rfl|rfl|rfl<;>rfl⟩;refine aA ?_;refine dq mixed af [some none,some none,some none,some none,some (some (.int .i64 s.phase)),some none,some none,some none,some (some (.int .i64 s.time)),some none,some none,some none,some none,some (some (.int .i64 s.since)),some none,some none,some none,none,some none,some none,some none,some (some (.bool s.lost)),none,some none,none,some none,none,some none,none,some none,none,some none,none]
  (S:=K4 o2 w2 A s) (.inl ⟨rfl,rfl,rfl⟩) fun v=>?_
 refine dp ?_;refine bO ?_;refine bK aX rfl rfl rfl ai ai (fun σ o' w' H hS=>?_) ?_
 ·obtain⟨hf,hk,hb⟩:=hS.std h2.ay h2.own cV;exact rd3 hf hk ((cell_of hb).trans c7)
 refine bO ?_;refine bK aX rfl rfl rfl ai ai (fun σ o' w' H hS=>?_) ?_
 ·obtain⟨hf,hk,hb⟩:=hS.std h2.ay h2.own cV;exact rd3 hf hk ((cell_of hb).trans c6)
 refine bO ?_;refine bK aX rfl rfl rfl ai ai (fun σ o' w' H hS=>?_) ?_
 ·obtain⟨hf,hk,hb⟩:=hS.std h2.ay h2.own cV;exact rd3 hf hk ((cell_of hb).trans c8)
 refine bO ?_;refine rj rfl rfl ai rfl func52 af rfl (av:=#[.pointer (some ⟨K.kb,4,none⟩)]) aC (fun σ o' w' H O9 hS=>?_) ?_
 ·rcases hS with⟨-,rfl,rfl⟩|⟨y,q,-⟩
  ·obtain⟨p,b,c,hqv,hp,hq,ht,-⟩:=h2.queue.view h2.ay;refine(Rm h2.ay K.kb 4 b c p s.qn h2.own (by rw[h2.row.cell aa];exact congrArg some hqv) (by have:=h.gT.1;omega) hp hq ht (hqv▸h2.queue.cl)).mono ?_;rintro y o3 w3 ⟨N3,t3⟩;have e24:=H.kF [22,21] 24 af;have e26:=H.kF [24,22,21] 26 af;have e28:=H.kF [26,24,22,21] 28 af;have e30:=H.kF [28,26,24,22,21] 30 af;have Zz:=H.kF [30,28,26,24,22,21] 32 af;refine .inr ⟨y,by simp[dB],bu.dL N3,t3.Jm N3.cl (fun g l c e=>fO N3.ay N3.cl g (by rw[e];rfl)) (by have:=h.gT.1;omega),fun g hg=>?_,?_,(agi.of_block (N3.old A K5)).congr fun j hj=>?_⟩
   ·rcases t3 with⟨e,-⟩|⟨g',cap,e,-,e2,-⟩
    ·rw[e] at hg;cases hg
    ·rw[e] at hg;have:=aK hg;simp at this;omega
   ·rcases t3 with⟨e,e2⟩|⟨g',cap,e,e1,-⟩
    ·exact⟨none,0,by rw[e,e2];rfl,by rw[e2];exact ag _⟩
    ·exact⟨_,cap,e,e1⟩
   ·rcases rG hj with rfl|rfl|rfl|rfl|rfl<;>simp[lu,dB,Oz,e24,e26,e28,e30,Zz]
  ·rw[O9] at q;cases q
 refine bO ?_;refine iL rfl rfl ai rfl func53 af rfl (av:=#[.pointer (some ⟨K.kb,4,none⟩)]) aC (fun σ o' w' H hS=>?_) ?_
 ·obtain⟨hf,hk,hb⟩:=hS.std h2.ay h2.own cV;refine(Ym hf K.kb 4 s.lost hk ((cell_of hb).trans c5)).mono ?_;rintro y o3 w3 ⟨rfl,rfl,rfl⟩;exact⟨rfl,hS⟩
 refine bO ?_;refine jg aX rfl rfl rfl ai ai (fun σ o' w' H TZ hS=>?_) ?_
 ·rcases hS with⟨q,-⟩|⟨y,q,L⟩
  ·rw[H.sV [21] 17 af rfl] at q;cases q
  ·have hA:=L.aU.more _ pH;have e24:=H.kF [] 24 af;have e26:=H.kF [24] 26 af;have e28:=H.kF [26,24] 28 af;have e30:=H.kF [28,26,24] 30 af;have Zz:=H.kF [30,28,26,24] 32 af;refine⟨L.aU.ay,fun x hx=>?_,fun wl aI=>aI=((((wl.setCell ⟨A,0,none⟩ (.int .i64 0)).setCell ⟨A,1,none⟩ (.int .i64 0)).setCell ⟨A,2,none⟩ (.int .i64 0)).setCell ⟨A,3,none⟩ (.slice none 0 0)).setCell ⟨A,4,none⟩ (.bool false),fun wl aE=>⟨_,?_,rfl⟩,fun wl aI w9 aE hR ba=>?_⟩
   ·simp[Op.operands] at hx;rcases hx with rfl|rfl
    ·simp[Act.eval];exact aH hA
    ·simp[Act.eval];refine cJ (vs:=[_,_,_,_,_]) (fun x hx=>?_);simp at hx;rcases hx with rfl|rfl|rfl
     ·exact bN
     ·exact gS
     ·exact kn
   ·have rl:=World.rowIs.of_block L.row (aE.heap _ hA);have f:=rl.frozen;have e0:=rl.cell (i:=0) aa;have e1:=rl.cell (i:=1) aa;have e2:=rl.cell (i:=2) aa;have e3:=rl.cell (i:=3) aa;have e4:=rl.cell (i:=4) aa;simp[go_sem,Act.eval,e0,e1,e2,e3,e4,f]
   ·have hO:cN A wl aI:=by rw[hR];exact((((fW wl A 0 _).at 1 _).at 2 _).at 3 _).at 4 _
    obtain⟨on,kr,e9⟩:=ba.only aE hA hO;have gw:=ba.ay;rw[e9] at gw |-;rw[hR] at kr;have rl:=World.rowIs.of_block L.row (aE.heap _ hA);refine .inr ⟨y,by simpa[dB] using q,L.put K5 gw on ((World.rowIs.of_block (((((rl.set 0 _).set 1 _).set 2 _).set 3 _).set 4 _) kr).congr fun j hj=>?_)⟩;rcases rG hj with rfl|rfl|rfl|rfl|rfl<;>simp[lu,dB,Oz,e24,e26,e28,e30,Zz]
 refine bO ?_;refine jg aX rfl rfl rfl ai ai (fun σ o' w' H TZ hS=>?_) ?_
 ·rcases hS with⟨q,-⟩|⟨y,q,L⟩
  ·rw[H.sV [22,21] 17 af rfl] at q;cases q
  ·have hA:=L.aU.more _ pH;refine⟨L.aU.ay,fun x hx=>?_,fun wl aI=>aI=wl.setCell ⟨A,0,none⟩ (.int .i64 s.phase),fun wl aE=>⟨_,?_,rfl⟩,fun wl aI w9 aE hR ba=>?_⟩
   ·simp[Op.operands] at hx;rcases hx with rfl|rfl
    ·simp[Act.eval];exact aH hA
    ·simp[Act.eval];exact bN
   ·have rl:=World.rowIs.of_block L.row (aE.heap _ hA);have f:=rl.frozen;have e0:=rl.cell (i:=0) aa;have e1:=rl.cell (i:=1) aa;have e2:=rl.cell (i:=2) aa;have e3:=rl.cell (i:=3) aa;have e4:=rl.cell (i:=4) aa;simp[go_sem,Act.eval,e0,e1,e2,e3,e4,f]
   ·have hO:cN A wl aI:=by rw[hR];exact fW wl A 0 _
    obtain⟨on,kr,e9⟩:=ba.only aE hA hO;have gw:=ba.ay;rw[e9] at gw |-;rw[hR] at kr;have rl:=World.rowIs.of_block L.row (aE.heap _ hA);refine .inr ⟨y,by simpa[dB] using q,L.put K5 gw on ((World.rowIs.of_block (rl.set 0 _) kr).congr fun j hj=>?_)⟩;rcases rG hj with rfl|rfl|rfl|rfl|rfl<;>simp[lu,dB,Oz]
 refine bO ?_;refine jg aX rfl rfl rfl ai ai (fun σ o' w' H TZ hS=>?_) ?_
 ·rcases hS with⟨q,-⟩|⟨y,q,L⟩
  ·rw[H.sV [24,22,21] 17 af rfl] at q;cases q
  ·have hA:=L.aU.more _ pH;refine⟨L.aU.ay,fun x hx=>?_,fun wl aI=>aI=wl.setCell ⟨A,1,none⟩ (.int .i64 s.time),fun wl aE=>⟨_,?_,rfl⟩,fun wl aI w9 aE hR ba=>?_⟩
   ·simp[Op.operands] at hx;rcases hx with rfl|rfl
    ·simp[Act.eval];exact aH hA
    ·simp[Act.eval];exact bN
   ·have rl:=World.rowIs.of_block L.row (aE.heap _ hA);have f:=rl.frozen;have e0:=rl.cell (i:=0) aa;have e1:=rl.cell (i:=1) aa;have e2:=rl.cell (i:=2) aa;have e3:=rl.cell (i:=3) aa;have e4:=rl.cell (i:=4) aa;simp[go_sem,Act.eval,e0,e1,e2,e3,e4,f]
   ·have hO:cN A wl aI:=by rw[hR];exact fW wl A 1 _
    obtain⟨on,kr,e9⟩:=ba.only aE hA hO;have gw:=ba.ay;rw[e9] at gw |-;rw[hR] at kr;have rl:=World.rowIs.of_block L.row (aE.heap _ hA);refine .inr ⟨y,by simpa[dB] using q,L.put K5 gw on ((World.rowIs.of_block (rl.set 1 _) kr).congr fun j hj=>?_)⟩;rcases rG hj with rfl|rfl|rfl|rfl|rfl<;>simp[lu,dB,Oz]
 refine bO ?_;refine jg aX rfl rfl rfl ai ai (fun σ o' w' H TZ hS=>?_) ?_
 ·rcases hS with⟨q,-⟩|⟨y,q,L⟩
  ·rw[H.sV [26,24,22,21] 17 af rfl] at q;cases q
  ·have hA:=L.aU.more _ pH;refine⟨L.aU.ay,fun x hx=>?_,fun wl aI=>aI=wl.setCell ⟨A,2,none⟩ (.int .i64 s.since),fun wl aE=>⟨_,?_,rfl⟩,fun wl aI w9 aE hR ba=>?_⟩
   ·simp[Op.operands] at hx;rcases hx with rfl|rfl
    ·simp[Act.eval];exact aH hA
    ·simp[Act.eval];exact bN
   ·have rl:=World.rowIs.of_block L.row (aE.heap _ hA);have f:=rl.frozen;have e0:=rl.cell (i:=0) aa;have e1:=rl.cell (i:=1) aa;have e2:=rl.cell (i:=2) aa;have e3:=rl.cell (i:=3) aa;have e4:=rl.cell (i:=4) aa;simp[go_sem,Act.eval,e0,e1,e2,e3,e4,f]
   ·have hO:cN A wl aI:=by rw[hR];exact fW wl A 2 _
    obtain⟨on,kr,e9⟩:=ba.only aE hA hO;have gw:=ba.ay;rw[e9] at gw |-;rw[hR] at kr;have rl:=World.rowIs.of_block L.row (aE.heap _ hA);refine .inr ⟨y,by simpa[dB] using q,L.put K5 gw on ((World.rowIs.of_block (rl.set 2 _) kr).congr fun j hj=>?_)⟩;rcases rG hj with rfl|rfl|rfl|rfl|rfl<;>simp[lu,dB,Oz]
 refine bO ?_;refine jg aX rfl rfl rfl ai ai (fun σ o' w' H TZ hS=>?_) ?_
 ·rcases hS with⟨q,-⟩|⟨y,q,L⟩
  ·rw[H.sV [28,26,24,22,21] 17 af rfl] at q;cases q
  ·have hA:=L.aU.more _ pH;obtain⟨yp,yb,yc,Fo,-⟩:=L.Jm.row;have hv:v 17=y:=aK ((H.done 17 af rfl).symm.trans q);refine⟨L.aU.ay,fun x hx=>?_,fun wl aI=>aI=wl.setCell ⟨A,3,none⟩ y,fun wl aE=>⟨_,?_,rfl⟩,fun wl aI w9 aE hR ba=>?_⟩
   ·simp[Op.operands] at hx;rcases hx with rfl|rfl
    ·simp[Act.eval];exact aH hA
    ·simp[Act.eval];rw[hv];exact L.Jm.cl
   ·have rl:=World.rowIs.of_block L.row (aE.heap _ hA);have f:=rl.frozen;have e0:=rl.cell (i:=0) aa;have e1:=rl.cell (i:=1) aa;have e2:=rl.cell (i:=2) aa;have e3:=rl.cell (i:=3) aa;have e4:=rl.cell (i:=4) aa;simp[go_sem,Act.eval,e0,e1,e2,e3,e4,f,hv,Fo]
   ·have hO:cN A wl aI:=by rw[hR];exact fW wl A 3 _
    obtain⟨on,kr,e9⟩:=ba.only aE hA hO;have gw:=ba.ay;rw[e9] at gw |-;rw[hR] at kr;have rl:=World.rowIs.of_block L.row (aE.heap _ hA);refine .inr ⟨y,by simpa[dB] using q,L.put K5 gw on ((World.rowIs.of_block (rl.set 3 _) kr).congr fun j hj=>?_)⟩;rcases rG hj with rfl|rfl|rfl|rfl|rfl<;>simp[lu,dB,Oz]
 refine bO ?_;refine jg aX rfl rfl rfl ai ai (fun σ o' w' H TZ hS=>?_) ?_
 ·rcases hS with⟨q,-⟩|⟨y,q,L⟩
  ·rw[H.sV [30,28,26,24,22,21] 17 af rfl] at q;cases q
  ·have hA:=L.aU.more _ pH;refine⟨L.aU.ay,fun x hx=>?_,fun wl aI=>aI=wl.setCell ⟨A,4,none⟩ (.bool s.lost),fun wl aE=>⟨_,?_,rfl⟩,fun wl aI w9 aE hR ba=>?_⟩
   ·simp[Op.operands] at hx;rcases hx with rfl|rfl
    ·simp[Act.eval];exact aH hA
    ·simp[Act.eval];exact kn
   ·have rl:=World.rowIs.of_block L.row (aE.heap _ hA);have f:=rl.frozen;have e0:=rl.cell (i:=0) aa;have e1:=rl.cell (i:=1) aa;have e2:=rl.cell (i:=2) aa;have e3:=rl.cell (i:=3) aa;have e4:=rl.cell (i:=4) aa;simp[go_sem,Act.eval,e0,e1,e2,e3,e4,f]
   ·have hO:cN A wl aI:=by rw[hR];exact fW wl A 4 _
    obtain⟨on,kr,e9⟩:=ba.only aE hA hO;have gw:=ba.ay;rw[e9] at gw |-;rw[hR] at kr;have rl:=World.rowIs.of_block L.row (aE.heap _ hA);refine .inr ⟨y,by simpa[dB] using q,L.put K5 gw on ((World.rowIs.of_block (rl.set 4 _) kr).congr fun j hj=>?_)⟩;rcases rG hj with rfl|rfl|rfl|rfl|rfl<;>simp[lu,dB,Oz]
 walk_nrm;refine cd fun σ o5 w5 kP hS=>?_;rcases hS with⟨q,-⟩|⟨y,q,L⟩
 ·rw[kP 17 dh rfl] at q;cases q
 have ab5:w5.rowIs A 70 5 (fun j=>match j with|0=>.int .i64 s.phase|1=>.int .i64 s.time|2=>.int .i64 s.since|3=>y|_=>.bool s.lost):=L.row.congr fun j hj=>by
  rcases rG hj with rfl|rfl|rfl|rfl|rfl<;>simp[lu,Oz,kP 24 dh rfl,kP 26 dh rfl,kP 28 dh rfl,kP 30 dh rfl,kP 32 dh rfl]
 have qi:=L.aU.more _ pH;have Wl:∀g,y.ownBlock=some g->w.heap.size<=g:=fun g hg=>by have:=L.Wl g hg;omega
 have h5:=h2.aside L.aU fun b hb=>by rw[hb];exact od
 have S5:=S12.beside L.aU aa;have Jm:=L.Jm;have E1:=L.cap;clear kP q L;simp only[gN,cZ,if_true,if_false,reduceIte,Nat.reduceEqDiff];refine aA ?_;refine⟨.inr trivial,h5.unlock _ fun w' hk hz hs=>Bq W func28 rfl (v:=.agg #[.int .i64 s.phase,.int .i64 s.time,.int .i64 s.since,y,.bool s.lost]) (p7 (fun n=>?_) (fun n e he=>?_)) ⟨y,eN,rfl,Jm.keep (fun _ q=>q) (fun g hg=>hs g fun e=>?_),(fun g hg=>hAe▸Wl g hg),E1,hk,S5.trans (.of (bu.db (ex:=(·=K.kb)) hk.ay ⟨hz,hs⟩ rfl) fun b hb=>by rw[hb,h5.l0];omega)⟩⟩
 ·have rn:=World.rowIs.of_block ab5 (hs A cV);have c0:(w'.at n).cell? ⟨A,0,none⟩=_:=rn.cell (i:=0) aa;have c1:(w'.at n).cell? ⟨A,1,none⟩=_:=rn.cell (i:=1) aa;have c2:(w'.at n).cell? ⟨A,2,none⟩=_:=rn.cell (i:=2) aa;have c3:(w'.at n).cell? ⟨A,3,none⟩=_:=rn.cell (i:=3) aa;have c4:(w'.at n).cell? ⟨A,4,none⟩=_:=rn.cell (i:=4) aa;simp[results,results28,go_sem,c0,c1,c2,c3,c4]
 ·have rn:=World.rowIs.of_block ab5 (hs A cV);have c0:(w'.at n).cell? ⟨A,0,none⟩=_:=rn.cell (i:=0) aa;have c1:(w'.at n).cell? ⟨A,1,none⟩=_:=rn.cell (i:=1) aa;have c2:(w'.at n).cell? ⟨A,2,none⟩=_:=rn.cell (i:=2) aa;have c3:(w'.at n).cell? ⟨A,3,none⟩=_:=rn.cell (i:=3) aa;have c4:(w'.at n).cell? ⟨A,4,none⟩=_:=rn.cell (i:=4) aa;simp[results,results28,go_sem,c0,c1,c2,c3,c4] at he;rcases he with rfl|rfl|rfl|rfl|rfl;all_goals exact⟨_,_,_,rfl,qi⟩
 ·have:=Wl g hg;have:=h.ay.lt h.own;omega
end
section
variable {Fin:bH} {o o' o2 o3:aM} {w w' w2 w3:ae} {K:sj} {s:kT} {lk:Int} {lab gP:Nat->Nat}
theorem cK.refl(hF:bE ar L0 o w):cK o w lab o w lab:=⟨bu.refl hF,fun _ _=>rfl⟩
theorem bg.grown(h:bg o2 w2 K s lk gP)(S:cK o w lab o2 w2 gP)(hW:bu (fun _=>False) o2 w2 o3 w3):∃oI,bg o3 w3 K s lk oI/\cK o w lab o3 w3 oI/\(∀b,b<w2.heap.size->oI b=gP b)/\∀b,w2.heap.size<=b->oI b=7:=by
 have hl:∀b,b<w2.heap.size->(if b<w2.heap.size then gP b else 7)=gP b:=fun b hb=>if_pos hb;refine⟨fun b=>if b<w2.heap.size then gP b else 7,((h.Ix fun b hb=>hl b (h.ay.lt hb)).xl hW).1,S.trans ⟨hW.mono fun b hb=>hb.elim,hl⟩,hl,fun b hb=>if_neg aa⟩
theorem bg.wrote{A:Nat}(h:bg o2 w2 K s lk gP)(S:cK o w lab o2 w2 gP)(hl:gP A=7)(hA:w.heap.size<=A)(hF:bE ar L0 o2 w3)(on:cN A w2 w3):bg o2 w3 K s lk gP/\cK o w lab o2 w3 gP :=
 ⟨h.aside (ex:=fun b=>b=A) (bu.db hF on rfl) fun b hb=>by rw[hb];exact hl,S.beside (bu.db hF on rfl) hA⟩
theorem bu.mn(hF:bE ar L0 (grow o w w') w')(z:w'.heap.size=w.heap.size+1)(k:∀b,b<w.heap.size->w'.heap[b]?=w.heap[b]?):bu (fun _=>False) o w (grow o w w') w'/\grow o w w' w.heap.size :=
 ⟨⟨hF,iK,fun b hb=>hb.imp id fun q=>q.1,aa,fun b hb _=>k b hb⟩,.inr ⟨ag _,aa⟩⟩
end
section
open Go.RowKit
theorem K6:(ar.info? 65).map (fun i=>(i.zero,i.size,i.bytes))=some (some (.agg #[.string aN,.string aN,.bool false]),3,40):=af
theorem Fy(b c n:Nat)(p:Option Addr)(xs:List Value)(w:ae)(hl:xs.length=n*3)(hn:n<=1000)(hp:p=none->n=0)(hq:n≠0->p=some ⟨b,0,none⟩)(hx:∀j u,xs[j]?=some u->w.cell? ⟨b,j,none⟩=some u)(h1:∀u∈xs,u.oneCell'=true):
  Calls ar 50 #[.slice p n c] w fun e w'=>∃v,e=.returned v/\w'.ownsRow w.heap.size 65 3 v n xs/\Below w.heap.size w w'/\w.heap.size<=w'.heap.size:=by
 have q24:∀(w:ae) (a:Option Addr) (n c n' c':Nat),(binOp .eql 46 (.slice a n c) (.slice none n' c')).run ar w=.ok (.bool a.isNone) w:=fun w a n c n' c'=>Lib.run_eql_slice_nil w _ _ a n c n' c' underlying46;go_enter func50,ntmps50;cases p with
 |none =>
  have JG:=hp rfl;subst JG;have FP:xs=[]:=List.length_eq_zero_iff.1 aa;subst FP;go_wp2;go_ret;exact⟨_,rfl,⟨an,.inl ⟨rfl,rfl⟩⟩,Below.refl _ _,ag _⟩
 |some a =>
  obtain⟨i,hi,oF⟩:=Option.map_eq_some_iff.1 K6;simp only[WS] at oF;have eH:(w.alloc (.cells #[] 65)).ownsRow w.heap.size 65 3 (.slice (some ⟨w.heap.size,0,none⟩) 0 0) 0 []:=⟨an,.inr ⟨w.heap.size,0,#[],rfl,ag _,jR w _,ag _,by simp[maxLen],an,an⟩⟩;have kB:∀j u,xs[j]?=some u->(w.alloc (.cells #[] 65)).cell? (a.add j)=some u:=fun j u hu=>by
   have JG:n≠0:=fun e=>by
    subst e;have FP:xs=[]:=List.length_eq_zero_iff.1 aa;subst FP;simp at hu
   have ha:=hq JG;cases ha;have hc:=hx j u hu;have hb:b<w.heap.size:=aO fun q=>by
    simp[World.cell?,Array.getElem?_eq_none (Nat.le_of_not_lt q)] at hc
   have:(⟨b,0,none⟩:Addr).add j=⟨b,j,none⟩:=by simp[Addr.add];omega
   rw[this,((Below.refl w.heap.size w).alloc (ag _) _).cell (p:=⟨b,j,none⟩) hb];exact hc
  obtain⟨v',W',e1,e2,e3,_⟩:=run_append_own (P:=ar) (w.alloc (.cells #[] 65)) w.heap.size 46 46 65 i _ 3 40 underlying46 hi oF.1 oF.2.1 oF.2.2 rfl aa _ 0 [] eH a n c xs hl kB h1 (by simp[maxLen];omega) aa an;have vE:=Below.grown ((Below.refl w.heap.size w).alloc (ag _) (.cells #[] 65)) e3 an (fun k hk=>by cases hk;exact ag _);go_wp2_with (at_builtin;refine fM rfl _ _ 46 rfl rfl rfl e1 ?_);go_ret;exact⟨_,rfl,by simpa using e2,vE,vE.size⟩
theorem Dd(b c n:Nat)(p:Option Addr)(xs:List Value)(w:ae)(hl:xs.length=n*3)(hn:n<=1000)(hp:p=none->n=0)(hq:n≠0->p=some ⟨b,0,none⟩)(hx:∀j u,xs[j]?=some u->w.cell? ⟨b,j,none⟩=some u)(h1:∀u∈xs,u.oneCell'=true):
  Calls ar 71 #[.slice p n c] w fun e w'=>∃v,e=.returned v/\w'.ownsRow w.heap.size 42 3 v n xs/\Below w.heap.size w w'/\w.heap.size<=w'.heap.size:=by
 have q24:∀(w:ae) (a:Option Addr) (n c n' c':Nat),(binOp .eql 35 (.slice a n c) (.slice none n' c')).run ar w=.ok (.bool a.isNone) w:=fun w a n c n' c'=>Lib.run_eql_slice_nil w _ _ a n c n' c' underlying35;go_enter func71,ntmps71;cases p with
 |none =>
  have JG:=hp rfl;subst JG;have FP:xs=[]:=List.length_eq_zero_iff.1 aa;subst FP;go_wp2;go_ret;exact⟨_,rfl,⟨an,.inl ⟨rfl,rfl⟩⟩,Below.refl _ _,ag _⟩
 |some a =>
  obtain⟨i,hi,oF⟩:=Option.map_eq_some_iff.1 BF;simp only[WS] at oF;have eH:(w.alloc (.cells #[] 42)).ownsRow w.heap.size 42 3 (.slice (some ⟨w.heap.size,0,none⟩) 0 0) 0 []:=⟨an,.inr ⟨w.heap.size,0,#[],rfl,ag _,jR w _,ag _,by simp[maxLen],an,an⟩⟩;have kB:∀j u,xs[j]?=some u->(w.alloc (.cells #[] 42)).cell? (a.add j)=some u:=fun j u hu=>by
   have JG:n≠0:=fun e=>by
    subst e;have FP:xs=[]:=List.length_eq_zero_iff.1 aa;subst FP;simp at hu
   have ha:=hq JG;cases ha;have hc:=hx j u hu;have hb:b<w.heap.size:=aO fun q=>by
    simp[World.cell?,Array.getElem?_eq_none (Nat.le_of_not_lt q)] at hc
   have:(⟨b,0,none⟩:Addr).add j=⟨b,j,none⟩:=by simp[Addr.add];omega
   rw[this,((Below.refl w.heap.size w).alloc (ag _) _).cell (p:=⟨b,j,none⟩) hb];exact hc
  obtain⟨v',W',e1,e2,e3,_⟩:=run_append_own (P:=ar) (w.alloc (.cells #[] 42)) w.heap.size 35 35 42 i _ 3 48 underlying35 hi oF.1 oF.2.1 oF.2.2 rfl aa _ 0 [] eH a n c xs hl kB h1 (by simp[maxLen];omega) aa an;have vE:=Below.grown ((Below.refl w.heap.size w).alloc (ag _) (.cells #[] 42)) e3 an (fun k hk=>by cases hk;exact ag _);go_wp2_with (at_builtin;refine fM rfl _ _ 35 rfl rfl rfl e1 ?_);go_ret;exact⟨_,rfl,by simpa using e2,vE,vE.size⟩
end
section
variable {Fin:bH} {o o':aM} {w w':ae} {K:sj} {s:kT} {lk:Int} {lab:Nat->Nat}
def YA(lo:Nat)(rs:List (ah×V))(v:Value)(w':ae):Prop:=(v=.slice none 0 0/\rs=[])\/∃g cap,v=.slice (some ⟨g,0,none⟩) rs.length cap/\lo<=g/\g<w'.heap.size/\zi w' g rs
def fP(rs:List (ah×V)):List Value:=(rs.map fun r=>[Value.string r.1,.string r.2.2,.bool (!r.2.1)]).flatten
theorem xm(rs:List (ah×V)):(fP rs).length=rs.length*3:=by
 induction rs with
 |nil=>rfl
 |cons r rs ih =>
  have e:fP (r::rs)=.string r.1 :: .string r.2.2 :: .bool (!r.2.1)::fP rs:=by simp[fP]
  rw[e];simp[ih];omega
theorem rH:∀(rs:List (ah×V)) (i:Nat) (h:i<rs.length),(fP rs)[i*3]?=some (.string rs[i].1)/\(fP rs)[i*3+1]?=some (.string rs[i].2.2)/\(fP rs)[i*3+2]?=some (.bool (!rs[i].2.1))
 |r::rs,0,h=>by simp[fP]
 |r::rs,i+1,h=>by
  have ih:=rH rs i (by simpa using h);have e:fP (r::rs)=.string r.1 :: .string r.2.2 :: .bool (!r.2.1)::fP rs:=by simp[fP]
  have e2:(i+1)*3=i*3+1+1+1:=aa;rw[e,e2];simpa using ih
theorem Fz(rs:List (ah×V)):∀u∈fP rs,u.oneCell'=true:=fun u hu=>by
 simp only[fP,List.mem_flatten,List.mem_map] at hu;obtain⟨l,⟨r,-,rfl⟩,hu⟩:=hu;simp at hu;rcases hu with rfl|rfl|rfl<;>rfl
theorem Iz{b:Nat}{rs:List (ah×V)}(h:zi w b rs):∀j u,(fP rs)[j]?=some u->w.cell? ⟨b,j,none⟩=some u:=fun j u hu=>by
 have hj:j<rs.length*3:=by
  rw[<- xm];exact(List.getElem?_eq_some_iff.1 hu).1
 have hi:j/3<rs.length:=aa;obtain⟨c0,c1,c2⟩:=rH rs (j/3) hi;obtain⟨d0,d1,d2⟩:=h (j/3) hi;have h3:j=j/3*3\/j=j/3*3+1\/j=j/3*3+2:=aa;generalize j/3=i at *;rcases h3 with rfl|rfl|rfl
 ·rw[c0] at hu;rw[d0];exact hu
 ·rw[c1] at hu;rw[d1];exact hu
 ·rw[c2] at hu;rw[d2];exact hu
theorem zo{w w':ae}{b:Nat}{rs:List (ah×V)}(h:zi w b rs)(e:w'.heap[b]?=w.heap[b]?):zi w' b rs:=fun i hi=>⟨(cell_of e).trans (h i hi).1,(cell_of e).trans (h i hi).2.1,(cell_of e).trans (h i hi).2.2⟩
theorem K7(hF:bE ar L0 o w)(v0:Value)(b c:Nat)(p:Option Addr)(rs:List (ah×V))(ME:v0=.slice p rs.length c)(hn:rs.length<=1000)(hp:p=none->rs=[])(hq:rs≠[]->p=some ⟨b,0,none⟩/\o b)(ht:zi w b rs)(hc:Cl ar L0 o v0):
  bp ar (XB ar Fin 0) 50 #[v0] o w fun v o' w'=>fw o w v o' w'/\YA w.heap.size rs v w':=by
 refine bp.mono (dS af hF (fun x hx=>by simp at hx;subst hx;exact hc) (Q:=fun wl v w'=>w'.ownsRow wl.heap.size 65 3 v rs.length (fP rs)) (fun wl Ai v w1 w2 e1 e2 h=>?_) (fun wl hz aE=>?_)) (fun v o' w' hq=>?_)
 ·rw[e1];exact cQ h fun g _ _=>by rw[e2]
 ·subst ME;refine(Fy b c rs.length p (fP rs) wl (xm rs) hn (fun e=>by rw[hp e];rfl) (fun cV=>(hq (fun e=>cV (by rw[e];rfl))).1) ?_ (Fz rs)).mono fun e w' hq=>?_
  ·by_cases cV:rs=[]
   ·subst cV;intro j u hu;simp[fP] at hu
   ·exact Iz (zo ht (aE b (hq cV).2))
  ·obtain⟨v,rfl,h1,h2,h3⟩:=hq;exact⟨_,rfl,h3,fun b hb=>h2.block b hb,h1⟩
 ·obtain⟨hN,wl,aI,z1,z2,hs,h3⟩:=hq;rw[z1] at h3;refine⟨hN,?_⟩;obtain⟨h4,h5⟩:=h3;rcases h5 with⟨e1,e2⟩|⟨g,cap,cur,rfl,q1,q2,q3,q4,q5,q6⟩
  ·refine .inl ⟨e1,?_⟩;cases rs with
   |nil=>rfl
   |cons r rs=>simp at e2
  ·have hg:g<aI.heap.size:=aO fun q=>by
    rw[cb (cL q)] at q2;cases q2
   refine .inr ⟨g,cap,rfl,q1,aa,fun i hi=>?_⟩;have hb:=hs g q1 aa;have own:aI.ownsRow w.heap.size 65 3 (.slice (some ⟨g,0,none⟩) rs.length cap) rs.length (fP rs):=⟨h4,.inr ⟨g,cap,cur,rfl,q1,q2,q3,q4,q5,q6⟩⟩;have hc:∀j u,(fP rs)[j]?=some u->aI.cell? ⟨g,j,none⟩=some u:=fun j u hu=>by
    have:=own.cells (g:=g) rfl j u hu;have ha:(⟨g,0,none⟩:Addr).add j=⟨g,j,none⟩:=by simp[Addr.add];omega
    rw[ha] at this;exact this
   obtain⟨c0,c1,c2⟩:=rH rs i hi;refine⟨(cell_of hb).trans ?_,(cell_of hb).trans ?_,(cell_of hb).trans ?_⟩
   ·exact hc _ _ c0
   ·exact hc _ _ c1
   ·exact hc _ _ c2
structure UP(s:kT)(v:Value)(o':aM)(w':ae):Prop where
 ex:∃rv tv,v=.agg #[.int .i64 s.num,rv,tv]/\(∃p b c,rv=.slice p s.res.length c/\(s.res≠[]->p=some ⟨b,0,none⟩/\o' b)/\zi w' b s.res)/\Cl ar L0 o' rv/\Mh o' w' tv s.ku
theorem YB(h:bg o w K s lk lab):
  bp ar (XB ar Fin 0) 24 #[.pointer (some ⟨K.kb,0,none⟩)] o w fun v o' w'=>UP s v o' w'/\∃lab',bg o' w' K s lk lab'/\cK o w lab o' w' lab':=by
 have W:=bJ (P:=ar) (Fin:=Fin) (d:=0);refine dJ W func24 ai ?_;walk_nrmf Tryz.f24;refine aA ?_;refine cq aX h.ay rfl ai ai kp rfl (R:=fun wl v aI=>v=.pointer (some ⟨wl.heap.size,0,none⟩)/\aI=wl.alloc (Obj.cells #[.int .i64 0,.slice none 0 0,.slice none 0 0] 59)) (fun wl aE=>⟨_,_,by first|(simp[go_sem];done)|(simp[go_sem];rfl),rfl,rfl⟩) fun wl v1 aI w1 aE hR ba=>?_;obtain⟨rfl,hR⟩:=hR;obtain⟨z1,k1,qK⟩:=ba.alloc h.ay aE hR;obtain⟨W1,pH⟩:=bu.mn ba.ay z1 k1;rw[aE.size];clear hR ba aE wl aI;obtain⟨eN,h1,S1,uW,O0⟩:=h.grown (cK.refl h.ay) W1;have uX:=O0 w.heap.size (ag _);generalize grow o w w1=o1 at *;have hAl:w.heap.size<w1.heap.size:=aa;generalize hAe:w.heap.size=A at *;refine aA ?_;refine aF W rfl ai rfl func49 af rfl aC rfl ((Eb K.kb 12 s.pb _ _ _ (by rw[h1.row.cell aa];rfl) h1.set.blk).mono ?_);rintro v0 o2 w2 ⟨rfl,rfl,rfl⟩;refine aA ?_;obtain⟨p0,p1,p2,-,-,-⟩:=eE h1.set.blk;refine aP aX h1.ay rfl ai ai ?_ rfl (v:=.agg #[.int .i64 s.num,s.kW,s.mz]) (fun wl aE=>by
  have e:=aE.heap _ h1.set.own;simp[go_sem,(cell_of e).trans p0,(cell_of e).trans p1,(cell_of e).trans p2]) fun _=>?_
 ·exact cj (aH h1.set.own)
 refine aA ?_;refine cq aX h1.ay rfl ai ai kp rfl (R:=fun wl v aI=>v=.pointer (some ⟨wl.heap.size,0,none⟩)/\aI=wl.alloc (Obj.cells #[.int .i64 0,.slice none 0 0,.slice none 0 0] 59)) (fun wl aE=>⟨_,_,by first|(simp[go_sem];done)|(simp[go_sem];rfl),rfl,rfl⟩) fun wl v1 aI w3 aE hR ba=>?_;obtain⟨rfl,hR⟩:=hR;obtain⟨z3,k3,vz⟩:=ba.alloc h1.ay aE hR;obtain⟨W3,NU⟩:=bu.mn ba.ay z3 k3;rw[aE.size];clear hR ba aE wl aI;obtain⟨oI,h3,S3,Cy,SY⟩:=h1.grown S1 W3;have rZ:=W3.more _ pH;have kA3:=(k3 A hAl).trans qK;have ago:=(Cy A hAl).trans uX;have ab6:=SY _ (ag _);generalize grow o2 w2 w3=o3 at *;have hBl:w2.heap.size<w3.heap.size:=aa;have hAB:A<w2.heap.size:=hAl;clear z1;generalize w2.heap.size=B at *;obtain⟨rp,rb,rc,r1,r2,r3,r4⟩:=h3.set.res;obtain⟨tp,tb,tc,t1,t2,t3,t4⟩:=h3.set.ku.row;have PC:=h3.set.cl;have agp:=h3.set.ku.cl;have ab7:=h3.set.gT;have ab8:=h3.set.ku.gT;walk_nrm;refine bD aX h3.ay rfl ai ai ?_ rfl (R:=fun wl aI=>aI=((wl.setCell ⟨B,0,none⟩ (.int .i64 s.num)).setCell ⟨B,1,none⟩ s.kW).setCell ⟨B,2,none⟩ s.mz) (fun wl aE=>⟨_,?_,rfl⟩) fun wl aI w4 aE hR ba=>?_
 ·refine dU ?_ ?_
  ·exact aH NU
  ·exact cJ (vs:=[_,_,_]) (fun x hx=>by
    simp at hx;rcases hx with rfl|rfl|rfl
    ·exact bN
    ·exact PC
    ·exact agp)
 ·obtain⟨e0,e1,e2,f0,f1,f2⟩:=eE ((aE.heap _ NU).trans vz);rw[r1,t1];simp[go_sem,e0,e1,e2,f0,f1,f2]
 have hO:cN B wl aI:=by rw[hR];exact uR _ _ _ _ _ _ _ _
 obtain⟨FV,nL,e4⟩:=ba.only aE NU hO;have D9:=ba.ay;rw[e4] at D9 |-;rw[hR,KL ((aE.heap _ NU).trans vz)] at nL;obtain⟨h4,S4⟩:=h3.wrote S3 ab6 aa D9 FV;have kA4:=(FV.2 A aa).trans kA3;clear hR ba aE hO wl aI e4;refine aA ?_;refine aP aX h4.ay rfl ai ai ?_ rfl (v:=s.kW) (fun wl aE=>by
  have e:=(aE.cell NU).trans (eE nL).2.1;rw[r1] at e |-;simp[go_sem,e]) fun _=>?_
 ·exact cj (aH NU)
 refine aA ?_;obtain⟨rp,rb,rc,r1,r2,r3,r4⟩:=h4.set.res;refine aF W rfl ai rfl func50 af rfl aC rfl ((K7 h4.ay s.kW rb rc rp s.res r1 ab7 r2 r3 r4 h4.set.cl).mono ?_);rintro v5 o5 w5 ⟨N5,q5⟩;obtain⟨nJ,h5,S5,O7,hn5⟩:=h4.grown S4 (bu.dL N5);have qi:=bu.more (bu.dL (ex:=fun _=>False) N5) _ rZ;have YC:=bu.more (bu.dL (ex:=fun _=>False) N5) _ NU;have z4:=FV.1;have kA5:=(N5.old A aa).trans kA4;have kB5:=(N5.old B aa).trans nL;have r9:=(O7 A aa).trans ago;have ab9:=(O7 B aa).trans ab6;have z5:=N5.size;have cl5:=N5.cl;obtain⟨ZA,ZB,ZC,rfl⟩:∃p l c,v5=.slice p l c:=by
  rcases q5 with⟨rfl,-⟩|⟨g,cap,rfl,-⟩
  ·exact⟨_,_,_,rfl⟩
  ·exact⟨_,_,_,rfl⟩
 refine aA ?_;refine bD aX h5.ay rfl ai ai ?_ rfl (R:=fun wl aI=>aI=wl.setCell ⟨B,1,none⟩ (.slice ZA ZB ZC)) (fun wl aE=>⟨_,?_,rfl⟩) fun wl aI w6 aE hR ba=>?_
 ·refine dU ?_ ?_
  ·exact aH YC
  ·exact cl5
 ·obtain⟨e0,e1,e2,f0,f1,f2⟩:=eE ((aE.heap _ YC).trans kB5);simp[go_sem,e1,f1]
 have hO:cN B wl aI:=by rw[hR];exact fW _ _ _ _
 obtain⟨RG,Us,e6⟩:=ba.only aE YC hO;have C3:=ba.ay;rw[e6] at C3 |-;have kB6:w6.heap[B]?=some (.cells #[.int .i64 s.num,.slice ZA ZB ZC,s.mz] 59):=by
  rw[Us,hR];have e:=(aE.heap _ YC).trans kB5;simp[World.setCell,er,e]
 obtain⟨h6,S6⟩:=h5.wrote S5 ab9 aa C3 RG;have kA6:=(RG.2 A aa).trans kA5;have z6:=RG.1;clear hR ba aE hO wl aI e6 Us;refine aA ?_;refine aP aX h6.ay rfl ai ai ?_ rfl (v:=s.mz) (fun wl aE=>by
  have e:=(aE.cell YC).trans (eE kB6).2.2.1;rw[t1] at e |-;simp[go_sem,e]) fun _=>?_
 ·exact cj (aH YC)
 refine aA ?_;obtain⟨tp,tb,tc,t1,t2,t3,t4⟩:=h6.set.ku.row;refine aF W rfl ai rfl func51 af rfl aC rfl ((xe h6.ay s.mz tb tc tp s.ku t1 aa t2 t3 t4 h6.set.ku.cl).mono ?_);rintro v7 o7 w7 ⟨N7,q7⟩;obtain⟨B7,h7,S7,od,UQ⟩:=h6.grown S6 (bu.dL N7);have W7:=bu.dL (ex:=fun _=>False) N7;have Jf:=W7.more _ qi;have ZD:=W7.more _ YC;have kA7:=(N7.old A aa).trans kA6;have kB7:=(N7.old B aa).trans kB6;have K8:=(od A aa).trans r9;have ags:=(od B aa).trans ab9;have z7:=N7.size;have cl7:=N7.cl;have aca:=cl5.up W7.more;have agt:Mh o7 w7 v7 s.ku:=q7.Jm cl7 (fun g l c e=>fO N7.ay cl7 g (by rw[e];rfl)) ab8;have agu:∀g,v7.ownBlock=some g->w6.heap.size<=g:=fun g hg=>by
  rcases q7 with⟨e,-⟩|⟨g',cap,e,-,e2,-⟩
  ·rw[e] at hg;cases hg
  ·rw[e] at hg;have:=aK hg;simp at this;omega
 obtain⟨tp7,tb7,tc7,rfl⟩:∃p l c,v7=.slice p l c:=by
  rcases q7 with⟨rfl,-⟩|⟨g,cap,rfl,-⟩
  ·exact⟨_,_,_,rfl⟩
  ·exact⟨_,_,_,rfl⟩
 refine aA ?_;refine bD aX h7.ay rfl ai ai ?_ rfl (R:=fun wl aI=>aI=wl.setCell ⟨B,2,none⟩ (.slice tp7 tb7 tc7)) (fun wl aE=>⟨_,?_,rfl⟩) fun wl aI w8 aE hR ba=>?_
 ·refine dU ?_ ?_
  ·exact aH ZD
  ·exact cl7
 ·obtain⟨e0,e1,e2,f0,f1,f2⟩:=eE ((aE.heap _ ZD).trans kB7);rw[t1] at e2;simp[go_sem,e2,f2]
 have hO:cN B wl aI:=by rw[hR];exact fW _ _ _ _
 obtain⟨Aj,Zt,e8⟩:=ba.only aE ZD hO;have C8:=ba.ay;rw[e8] at C8 |-;have kB8:w8.heap[B]?=some (.cells #[.int .i64 s.num,.slice ZA ZB ZC,.slice tp7 tb7 tc7] 59):=by
  rw[Zt,hR];have e:=(aE.heap _ ZD).trans kB7;simp[World.setCell,er,e]
 obtain⟨h8,S8⟩:=h7.wrote S7 ags aa C8 Aj;have UR:=(Aj.2 A aa).trans kA7;have z8:=Aj.1;clear hR ba aE hO wl aI e8 Zt;refine aA ?_;refine aP aX h8.ay rfl ai ai ?_ rfl (v:=.agg #[.int .i64 s.num,.slice ZA ZB ZC,.slice tp7 tb7 tc7]) (fun wl aE=>by
  obtain⟨e0,e1,e2,-⟩:=eE ((aE.heap _ ZD).trans kB8);simp[go_sem,e0,e1,e2]) fun _=>?_
 ·exact cj (aH ZD)
 walk_nrm;refine bD aX h8.ay rfl ai ai ?_ rfl (R:=fun wl aI=>aI=((wl.setCell ⟨A,0,none⟩ (.int .i64 s.num)).setCell ⟨A,1,none⟩ (.slice ZA ZB ZC)).setCell ⟨A,2,none⟩ (.slice tp7 tb7 tc7)) (fun wl aE=>⟨_,?_,rfl⟩) fun wl aI w9 aE hR ba=>?_
 ·refine dU ?_ ?_
  ·exact aH Jf
  ·exact cJ (vs:=[_,_,_]) (fun x hx=>by
    simp at hx;rcases hx with rfl|rfl|rfl
    ·exact bN
    ·exact aca
    ·exact cl7)
 ·obtain⟨e0,e1,e2,f0,f1,f2⟩:=eE ((aE.heap _ Jf).trans UR);simp[go_sem,e0,e1,e2,f0,f1,f2]
 have hO:cN A wl aI:=by rw[hR];exact uR _ _ _ _ _ _ _ _
 obtain⟨kK,kr,e9⟩:=ba.only aE Jf hO;have gw:=ba.ay;rw[e9] at gw |-;rw[hR,KL ((aE.heap _ Jf).trans UR)] at kr;obtain⟨h9,S9⟩:=h8.wrote S8 K8 aa gw kK;clear hR ba aE hO wl aI e9;refine aA ?_;refine⟨.inr trivial,trivial,.agg #[.int .i64 s.num,.slice ZA ZB ZC,.slice tp7 tb7 tc7],p7 (fun n=>?_) (fun n e he=>?_),⟨⟨_,_,rfl,?_,aca,agt.keep (fun _ q=>q) fun g hg=>?_⟩⟩,B7,h9,S9⟩
 ·obtain⟨c0,c1,c2,-⟩:=eE (w:=w9.at n) kr;simp[results,results24,go_sem,c0,c1,c2]
 ·obtain⟨c0,c1,c2,-⟩:=eE (w:=w9.at n) kr;simp[results,results24,go_sem,c0,c1,c2] at he;rcases he with rfl|rfl|rfl;all_goals exact⟨_,_,_,rfl,Jf⟩
 ·rcases q5 with⟨e,e2⟩|⟨g,cap,e,g1,g2,g3⟩
  ·exact⟨none,0,0,by rw[e2];exact e,fun q=>absurd e2 q,fun i hi=>by rw[e2] at hi;simp at hi⟩
  ·refine⟨_,g,cap,e,fun _=>⟨rfl,W7.more _ (fO N5.ay cl5 g (by rw[e];rfl))⟩,zo g3 ?_⟩;rw[kK.2 g aa,Aj.2 g aa,N7.old g aa,RG.2 g aa]
 ·have:=agu g hg;rw[kK.2 g aa,Aj.2 g aa]
end
section
open Go.RowKit
theorem tV{x y:ah}(h:¬x=y):(x.toList==y.toList)=false:=by
 rw[beq_eq_false_iff_ne];intro e;rw[ByteArray.toList_eq,ByteArray.toList_eq] at e;exact h (ByteArray.ext (Array.toList_inj.1 e))
def cW(c:Int)(n:Nat):Nat:=(if c<0 then -(c+1) else c).toNat%n
theorem lv(c:Int){n:Nat}(h:0<n):cW c n<n:=jh _ h
theorem IA(c:Int)(n:Nat)(w:ae)(h1:-9223372036854775808<=c)(h2:c<=9223372036854775807)(hn:0<n)(O1:n<=1000):
  Calls ar 19 #[.int .i64 c,.int .i64 n] w fun e w'=>e=.returned (.int .i64 (cW c n:Nat))/\w'=w:=by
 have JG:¬(n:Int)=0:=aa;go_enter func19,ntmps19;by_cases hc:c<0
 ·have e1:IntKind.i64.wrap (c+1)=c+1:=by rw[IntKind.wrap_i64]<;>omega
  have e2:IntKind.i64.wrap (-(c+1))=-(c+1):=by rw[IntKind.wrap_i64]<;>omega
  have e3:-((c+1).tmod n)=((cW c n:Nat):Int):=by
   rw[<- Int.neg_tmod,Int.tmod_eq_emod_of_nonneg aa];unfold cW;rw[if_pos hc,Int.natCast_emod,fY aa]
  go_wp2;go_ret;exact⟨rfl,rfl⟩
 ·have e3:c%n=((cW c n:Nat):Int):=by
   unfold cW;rw[if_neg hc,Int.natCast_emod,fY aa]
  go_wp2;go_ret;exact⟨rfl,rfl⟩
def je:List ah:=[⟨#[97]⟩,⟨#[98]⟩,⟨#[99]⟩,⟨#[100]⟩,⟨#[101]⟩,⟨#[102]⟩]
theorem OA(w:ae):Calls ar 18 #[] w fun e w'=>e=.returned (.slice (some ⟨w.heap.size,0,none⟩) 6 6)/\w'=w.alloc (.cells (je.map Value.string).toArray 9):=by
 go_enter func18,ntmps18;go_wp2;go_ret;exact⟨rfl,rfl⟩
def gu(i:Nat):ah:=(⟨#[111]⟩:ah)++⟨#[97+UInt8.ofNat i]⟩
theorem nK(w:ae)(cs:Array Value)(t:TypeId)(j:Nat):(w.alloc (.cells cs t)).cell? ⟨w.heap.size,j,none⟩=cs[j]?:=by
 simp only[World.cell?];rw[show(w.alloc (.cells cs t)).heap[w.heap.size]?=some (.cells cs t) from by show(w.heap.push _)[w.heap.size]?=_;simp];rfl
theorem US(i:Nat)(hi:i<8)(w:ae):Calls ar 15 #[.int .i64 i] w fun e w'=>e=.returned (.string (gu i))/\Below w.heap.size w w'/\w.heap.size<=w'.heap.size:=by
 have e1:IntKind.i64.wrap (97+(i:Int))=97+(i:Int):=by rw[IntKind.wrap_i64]<;>omega
 have e2:IntKind.u8.wrap (97+(i:Int))=97+(i:Int):=by simp[IntKind.wrap,IntKind.signed,IntKind.bits];omega
 have hu:(UInt8.ofNat (97+i)).toNat=97+i:=by rw[UInt8.toNat_ofNat'];omega
 have hcv:(convert 90 9 (.slice (some ⟨w.heap.size,0,none⟩) 1 1)).run ar (w.alloc (.cells #[.int .u8 (97+(i:Int))] 5))=.ok (.string ⟨#[UInt8.ofNat (97+i)]⟩) (w.alloc (.cells #[.int .u8 (97+(i:Int))] 5)):=by
  refine run_convert_bytes_back (P:=ar) (w.alloc (.cells #[.int .u8 (97+(i:Int))] 5)) 90 9 5 ⟨w.heap.size,0,none⟩ 1 [UInt8.ofNat (97+i)] underlying90 underlying5 underlying9 (fun j hj=>?_);have TZ:j=0:=Nat.lt_one_iff.1 hj;subst TZ;refine(nK w _ _ 0).trans ?_;show some (Value.int .u8 (97+(i:Int)))=some (Value.int .u8 ((UInt8.ofNat (97+i)).toNat:Int));rw[hu];rfl
 have hz:=(Below.refl w.heap.size w).alloc (ag _) (.cells #[.int .u8 (97+(i:Int))] 5);go_enter func15,ntmps15;go_wp2;go_ret;exact⟨rfl,hz,an⟩
def qH(c:Int):ah:=(⟨#[116,104,114,101,101,32,119,111,114,100,115,32,33]⟩:ah).extract 0 (cW c 13)
theorem B8(c:Int):(qH c).size<=12:=by
 have:=lv c (n:=13) aa;unfold qH;rw[ByteArray.size_extract];omega
theorem OB(c:Int)(w:ae)(h1:-9223372036854775808<=c)(h2:c<=9223372036854775807):
  Calls ar 20 #[.int .i64 c] w fun e w'=>e=.returned (.string (qH c))/\w'=w:=by
 have hp:=IA c 13 w h1 h2 aa aa;have bZ:=lv c (n:=13) aa;have X6:qH c=(⟨#[116,104,114,101,101,32,119,111,114,100,115,32,33]⟩:ah).extract 0 (cW c 13):=rfl;rw[X6];generalize cW c 13=n at *;go_enter func20,ntmps20;go_wp2_with (go_at_call 19;refine hp.mono ?_;rintro e w' ⟨rfl,rfl⟩);go_ret;exact⟨rfl,rfl⟩
def Jn:List ah->ah->Bool
 | [],_=>false
 |y::l,x=>if y=x then true else Jn l x
theorem oJ(x:ah):∀l:List ah,Jn l x=true↔x∈l
 | []=>by simp[Jn]
 |y::l=>by
  unfold Jn;by_cases h:y=x
  ·simp[h]
  ·rw[if_neg h,oJ x l,gQ];exact⟨.inr,fun q=>q.elim (fun e=>absurd e.symm h) id⟩
theorem OC(b off c:Nat)(p:Option Addr)(ts:List ah)(x:ah)(w:ae)(hn:ts.length<9000000000000000000)(hp:ts≠[]->p=some ⟨b,off,none⟩)(ht:dP w b off ts):
  Calls ar 27 #[.slice p ts.length c,.string x] w fun e w'=>e=.returned (.bool (Jn ts x))/\w'=w:=by
 go_enter func27,ntmps27;go_wp2;go_loop [5] (fun i=>∃k:Nat,k<=ts.length/\i=.int .i64 k/\x∉ts.take k) (fun i=>ts.length-(intOf i).toNat)
 case atStart=>exact⟨0,aQ _,rfl,an⟩
 case round =>
  obtain⟨k,hk,rfl,hs⟩:=hrel;by_cases bZ:k<ts.length
  ·have e:=hp (fun e=>by rw[e] at bZ;simp at bZ);subst e;have h1:=ht k bZ;have hm:ts[k]∈ts:=aD bZ;have qJ:ts.take (k+1)=ts.take k++[ts[k]]:=take_succ ts k bZ;generalize ts[k]=y at *;by_cases hx:y=x
   ·have pd:=(oJ x ts).2 (hx▸hm);clear qJ hm hs;subst hx;go_wp2;go_ret;exact⟨rfl,rfl⟩
   ·have Zv:=tV hx;go_wp2
    go_round
    case rel=>exact⟨k+1,aa,by go_num,by rw[qJ];simp[hs];exact fun e=>hx e.symm⟩
    case measure=>simp[intOf];omega
  ·rw[cE aa] at hs;have pd:Jn ts x=false:=by
    cases h:Jn ts x
    ·rfl
    ·exact absurd ((oJ x ts).1 h) hs
   go_wp2;go_ret;exact⟨rfl,rfl⟩
theorem B9{j:Nat}(h:j<8):j=0\/j=1\/j=2\/j=3\/j=4\/j=5\/j=6\/j=7:=aa
theorem tW(i:Nat)(h:i<8):(gu i).data=#[111,97+UInt8.ofNat i]:=by
 rcases B9 h with rfl|rfl|rfl|rfl|rfl|rfl|rfl|rfl<;>decide
theorem IB{i j:Nat}(hi:i<8)(hj:j<8)(h:gu i=gu j):i=j:=by
 have h:=congrArg ByteArray.data h;rw[tW i hi,tW j hj] at h;revert h;rcases B9 hi with rfl|rfl|rfl|rfl|rfl|rfl|rfl|rfl<;>rcases B9 hj with rfl|rfl|rfl|rfl|rfl|rfl|rfl|rfl<;>decide
theorem Ej(i:Nat)(h:i<8):gu i∉je:=fun q=>by
 have hs:(gu i).data.size=2:=by rw[tW i h];rfl
 simp only[je,gQ,aad,or_false] at q;rcases q with q|q|q|q|q|q<;>(rw[q] at hs;cases hs)
end
section
open Go.RowKit
open Go.Ren (fW cN)
structure IxR(rs:List aL)(x:ah)(r:Int):Prop where
 ex:(r=-1/\∀q∈rs,q.out≠x)\/∃i,∃h:i<rs.length,r=(i:Nat)/\rs[i].out=x
def Ca:List aL->ah->Nat->Int
 | [],_,_=>-1
 |r::l,x,k=>if r.out=x then(k:Nat) else Ca l x (k+1)
theorem Ek(x:ah):∀(l:List aL) (k:Nat),(Ca l x k=-1/\∀q∈l,q.out≠x)\/∃i,∃h:i<l.length,Ca l x k=((k+i:Nat):Int)/\l[i].out=x
 | [],k=>.inl ⟨rfl,an⟩
 |r::l,k=>by
  unfold Ca;by_cases h:r.out=x
  ·rw[if_pos h];exact .inr ⟨0,an,an,by simpa using h⟩
  ·rw[if_neg h];rcases Ek x l (k+1) with⟨h1,h2⟩|⟨i,hi,h1,h2⟩
   ·refine .inl ⟨h1,fun q hq=>?_⟩;rcases List.mem_cons.1 hq with rfl|hq
    ·exact h
    ·exact h2 q hq
   ·exact .inr ⟨i+1,eR,by rw[h1];congr 1;omega,by simpa using h2⟩
theorem IC(rs:List aL)(x:ah):IxR rs x (Ca rs x 0):=by
 rcases Ek x rs 0 with h|⟨i,hi,h1,h2⟩
 ·exact⟨.inl h⟩
 ·exact⟨.inr ⟨i,hi,by simpa using h1,h2⟩⟩
theorem Cb(b c:Nat)(p:Option Addr)(rs:List aL)(x:ah)(w:ae)(hn:rs.length<=100000)(hp:rs≠[]->p=some ⟨b,0,none⟩)(hv:dX w b rs):
  Calls ar 107 #[.slice p rs.length c,.string x] w fun e w'=>e=.returned (.int .i64 (Ca rs x 0))/\w'=w:=by
 go_enter func107,ntmps107;go_wp2;go_loop [8] (fun i=>∃k:Nat,k<=rs.length/\i=.int .i64 k/\Ca rs x 0=Ca (rs.drop k) x k) (fun i=>rs.length-(intOf i).toNat)
 case atStart=>exact⟨0,aQ _,rfl,rfl⟩
 case round =>
  obtain⟨k,hk,rfl,hs⟩:=hrel;by_cases bZ:k<rs.length
  ·have e:=hp (fun e=>by rw[e] at bZ;simp at bZ);subst e;obtain⟨h1,-,-⟩:=hv k bZ;rw[List.drop_eq_getElem_cons bZ,Ca] at hs;generalize rs[k].out=y at *;by_cases hx:y=x
   ·rw[if_pos hx] at hs;subst hx;go_wp2;go_ret;exact⟨rfl,rfl⟩
   ·rw[if_neg hx] at hs;have Zv:=tV hx;go_wp2
    go_round
    case rel=>exact⟨k+1,aa,by go_num,hs⟩
    case measure=>simp[intOf];omega
  ·rw[List.drop_of_length_le aa,Ca] at hs;go_wp2;go_ret;exact⟨rfl,rfl⟩
theorem ID(x:ah)(h:isName x)(w:ae):Calls ar 68 #[.string x] w fun e w'=>e=.returned (.bool true)/\w'=w:=by
 refine(It x w (by have:=h.2.1;omega)).mono fun e w' hq=>?_;obtain⟨⟨b,rfl,hb⟩,rfl⟩:=hq;rw[hb.2 h];exact⟨rfl,rfl⟩
theorem FA(b c:Nat)(p:Option Addr)(ts:List ah)(w:ae)(hn:ts.length<=100000)(hp:ts≠[]->p=some ⟨b,0,none⟩)(ht:dP w b 0 ts)(ha:∀x∈ts,isName x):
  Calls ar 105 #[.slice p ts.length c] w fun e w'=>e=.returned (.bool true)/\w'=w:=by
 go_enter func105,ntmps105;go_wp2;go_loop [7] (fun i=>∃k:Nat,k<=ts.length/\i=.int .i64 k) (fun i=>ts.length-(intOf i).toNat)
 case atStart=>exact⟨0,aQ _,rfl⟩
 case round =>
  obtain⟨k,hk,rfl⟩:=hrel;by_cases bZ:k<ts.length
  ·have e:=hp (fun e=>by rw[e] at bZ;simp at bZ);subst e;have h1:=ht k bZ;rw[bh] at h1;have xV:=ID ts[k] (ha _ (aD bZ)) w;go_wp2_with (go_at_call 68;refine xV.mono ?_;rintro e w' ⟨rfl,rfl⟩)
   go_round
   case rel=>exact⟨k+1,aa,by go_num⟩
   case measure=>simp[intOf];omega
  ·go_wp2;go_ret;exact⟨rfl,rfl⟩
theorem OD(n:Int)(w:ae)(h1:1<=n)(h5:n<=5):Calls ar 106 #[.int .i64 n] w fun e w'=>e=.returned (.bool true)/\w'=w:=by
 go_enter func106,ntmps106;go_wp2;go_ret;exact⟨rfl,rfl⟩
structure oK(w:ae)(p:Option Addr)(b:Nat)(rs:List aL)(NM:aL->List ah)(NB:aL->Nat):Prop where
 gT:rs.length<=8
 ptr:rs≠[]->p=some ⟨b,0,none⟩/\b<w.heap.size
 at_:dX w b rs
 nm:∀r∈rs,r.sl=(NM r).length/\(NM r≠[]->r.sa=some ⟨NB r,0,none⟩/\NB r<w.heap.size)/\dP w (NB r) 0 (NM r)/\(NM r).length<=4
theorem oK.below{w w':ae}{p:Option Addr}{b:Nat}{rs:List aL}{NM:aL->List ah}{NB:aL->Nat}(h:oK w p b rs NM NB)(hw:Below w.heap.size w w'):oK w' p b rs NM NB:=by
 refine⟨h.gT,fun q=>⟨(h.ptr q).1,bm (h.ptr q).2 hw.size⟩,fun i hi=>?_,fun r hr=>⟨(h.nm r hr).1,fun q=>⟨((h.nm r hr).2.1 q).1,bm ((h.nm r hr).2.1 q).2 hw.size⟩,fun k hk=>?_,(h.nm r hr).2.2.2⟩⟩
 ·exact h.at_.below (h.ptr (fun q=>by rw[q] at hi;simp at hi)).2 hw i hi
 ·exact(h.nm r hr).2.2.1.below ((h.nm r hr).2.1 (fun q=>by rw[q] at hk;simp at hk)).2 hw k hk
structure Cc(rs:List aL)(NM:aL->List ah)(RK:ah->Nat):Prop where
 outs:∀r∈rs,isName r.out
 ins:∀r∈rs,∀x∈NM r,isName x
 eD:∀r∈rs,1<=r.eD/\r.eD<=5
 nodup:(rs.map (·.out)).Nodup
 Ig:∀r∈rs,∀x∈NM r,x∈rs.map (·.out)->RK x<RK r.out
def Mn(rk:Nat->Nat)(g:Nat->Bool):Prop:=∀i j,i<8->j<8->g (i*8+j)=true->rk j<rk i
structure qa(rk:Nat->Nat)(cs:Array Value):Prop where
 size:cs.size=64
 ex:∃g:Nat->Bool,(∀k,k<64->cs[k]?=some (.bool (g k)))/\Mn rk g
theorem qa.one{rk:Nat->Nat}{cs:Array Value}(h:qa rk cs):cs.all (·.oneCell')=true:=by
 obtain⟨g,hg,-⟩:=h.ex;rw[Array.all_eq_true_iff_forall_mem];intro v hv;obtain⟨k,hk,rfl⟩:=Array.getElem_of_mem hv;have:=hg k (by rw[<- h.size];exact hk);rw[aG hk] at this;rw[aK this];rfl
theorem vB:(ar.info? 201).map (·.size)=some 64:=af
structure lA(w:ae)(b:Nat)(rk:Nat->Nat):Prop where
 ex:∃g:Nat->Bool,w.rowIs b 201 64 (fun j=>.bool (g j))/\Mn rk g
theorem lA.blk{w:ae}{b:Nat}{rk:Nat->Nat}(h:lA w b rk):∃cs,w.heap[b]?=some (.cells cs 201 (0,0))/\qa rk cs:=by
 obtain⟨g,⟨cs,h1,h2,h3⟩,hg⟩:=h.ex;exact⟨cs,h1,h2,g,fun k hk=>h3 k hk,hg⟩
theorem qa.at{w:ae}{b:Nat}{rk:Nat->Nat}{cs:Array Value}(h:qa rk cs)(hb:w.heap[b]?=some (.cells cs 201 (0,0))):lA w b rk:=by
 obtain⟨g,h1,hg⟩:=h.ex;exact⟨g,⟨cs,hb,h.size,fun k hk=>h1 k hk⟩,hg⟩
theorem lA.of_block{w w':ae}{b:Nat}{rk:Nat->Nat}(h:lA w b rk)(e:w'.heap[b]?=w.heap[b]?):lA w' b rk:=by
 obtain⟨g,h1,hg⟩:=h.ex;exact⟨g,h1.of_block e,hg⟩
theorem lA.set{w:ae}{b:Nat}{rk:Nat->Nat}(h:lA w b rk){i j:Nat}(hi:i<8)(hj:j<8)(hr:rk j<rk i):lA (w.setCell ⟨b,i*8+j,none⟩ (.bool true)) b rk:=by
 obtain⟨g,h1,hg⟩:=h.ex;refine⟨fun k=>if k=i*8+j then true else g k,(h1.set (i*8+j) _).congr fun k hk=>?_,fun i' j' lQ rY hq=>?_⟩
 ·by_cases e:k=i*8+j
  ·simp[e]
  ·simp[e]
 ·by_cases e:i'*8+j'=i*8+j
  ·have e1:i'=i:=aa;have e2:j'=j:=aa;rw[e1,e2];exact hr
  ·simp only[if_neg e] at hq;exact hg i' j' lQ rY hq
structure NS(w:ae)(rk:Nat->Nat)(w':ae):Prop where
 K9:Below w.heap.size w w'
 size:w'.heap.size=w.heap.size+2
 ua:lA w' w.heap.size rk
 res:∃z:Array Value,w'.heap[w.heap.size+1]?=some (.cells z 201 (0,0))/\z.size=64
theorem NS.set{w w':ae}{rk:Nat->Nat}(h:NS w rk w'){i j:Nat}(hi:i<8)(hj:j<8)(hr:rk j<rk i):NS w rk (w'.setCell ⟨w.heap.size,i*8+j,none⟩ (.bool true)):=by
 obtain⟨z,h1,h2⟩:=h.res;have on:=fW w' w.heap.size (i*8+j) (.bool true);exact⟨h.K9.setCell (ag _) _,on.1.trans h.size,h.ua.set hi hj hr,z,(on.2 _ aa).trans h1,h2⟩
theorem alloc_old(w:ae)(x:Obj)(b:Nat)(h:b<w.heap.size):(w.alloc x).heap[b]?=w.heap[b]?:=by
 show(w.heap.push x)[b]?=_;rw[cT h,aG h]
theorem rI{B g:Nat}{a w:ae}(h:Below B a w)(hg:B<=g)(cs:Array Value):Below B a (w.setRow g cs) :=
 ⟨h.os,h.tape,h.output,by rw[setRow_size];exact h.size,fun b hb=>(setRow_other w g b cs aa).trans (h.block b hb)⟩
end
section
open Go.RowKit
open Go.Ren (fW cN)
theorem IE(rk:Nat->Nat)(cs:Array Value)(Ps:qa rk cs)(w:ae):
  Calls ar 108 #[.agg cs] w fun e w'=>∃Ct,e=.returned (.agg Ct)/\qa rk Ct/\Below w.heap.size w w'/\w.heap.size<=w'.heap.size:=by
 have ft:=Ps.size;go_enter func108,ntmps108;go_wp2;go_loopw [6] (fun i w'=>∃m:Nat,m<=8/\i=.int .i64 m/\NS w rk w') (fun i _=>8-(intOf i).toNat)
 case atStart =>
  refine⟨0,aa,rfl,((Below.refl _ _).alloc (ag _) _).alloc an _,an,Ps.at (heap_alloc2_old w _ _),Array.replicate 64 (.bool false),heap_alloc2_new w _ _,an⟩
 case round =>
  obtain⟨m,hm,rfl,hS⟩:=hrel;by_cases bZ:m<8
  ·have hmI:(m:Int)<8:=aa;go_wp2;go_loopw [9] (fun i w'=>∃f:Nat,f<=8/\i=.int .i64 f/\NS w rk w') (fun i _=>8-(intOf i).toNat)
   case atStart=>exact⟨0,aa,rfl,hS⟩
   case round =>
    clear hS;obtain⟨f,hf,rfl,hS⟩:=hrel;by_cases Jc:f<8
    ·have hfI:(f:Int)<8:=aa;go_wp2;go_loopw [12] (fun i w'=>∃t:Nat,t<=8/\i=.int .i64 t/\NS w rk w') (fun i _=>8-(intOf i).toNat)
     case atStart=>exact⟨0,aa,rfl,hS⟩
     case round =>
      clear hS;obtain⟨t,ht,rfl,hS⟩:=hrel;by_cases xD:t<8
      ·have htI:(t:Int)<8:=aa;obtain⟨g,b6,ja⟩:=hS.ua.ex;have c1:=b6.cell (show f*8+m<64 by omega);have c2:=b6.cell (show m*8+t<64 by omega);have c3:=b6.cell (show f*8+t<64 by omega);have f3:=b6.frozen (f*8+t);cases h1:g (f*8+m)
       ·rw[h1] at c1;go_wp2;exact⟨⟨t+1,aa,by go_num,hS⟩,by simp[intOf];omega⟩
       ·rw[h1] at c1;cases h2:g (m*8+t)
        ·rw[h2] at c2;go_wp2;exact⟨⟨t+1,aa,by go_num,hS⟩,by simp[intOf];omega⟩
        ·rw[h2] at c2;have hr:rk t<rk f:=jN (ja m t bZ xD h2) (ja f m Jc bZ h1);go_wp2;exact⟨⟨t+1,aa,by go_num,hS.set Jc xD hr⟩,by simp[intOf];omega⟩
      ·go_wp2;exact⟨⟨f+1,aa,by go_num,hS⟩,by simp[intOf];omega⟩
    ·go_wp2;exact⟨⟨m+1,aa,by go_num,hS⟩,by simp[intOf];omega⟩
  ·obtain⟨Ct,mo,UT⟩:=hS.ua.blk;obtain⟨z,hz,WZ⟩:=hS.res;have hi:(ar.info? 201).map (·.size)=some Ct.size:=by rw[UT.size];exact vB
   go_wp2_with (first
    | (refine wpList_load_row rfl 201 _ rfl w.heap.size rfl 201 Ct (0,0) _ mo underlying201 rfl hi ?_)
    | (refine wpList_plain rfl fun _ hK=>wp_store_row 201 _ _ rfl (w.heap.size+1) Ct rfl rfl 201 z hz hi (WZ.trans UT.size.symm) UT.one (hK _ _ ?_)))
   refine bodyPost_ret (results_cell_row ai _ _ (w.heap.size+1) 201 Ct (0,0) _ rfl (setRow_heap _ _ _ _ _ _ hz) underlying201 rfl hi) rfl ⟨Ct,rfl,UT,?_,?_⟩
   ·exact rI hS.K9 aa _
   ·rw[setRow_size,hS.size];omega
structure DS(w:ae)(rk:Nat->Nat)(w':ae):Prop where
 K9:Below w.heap.size w w'
 size:w.heap.size+2<=w'.heap.size
 ua:lA w' (w.heap.size+1) rk
 res:∃z:Array Value,w'.heap[w.heap.size]?=some (.cells z 201 (0,0))/\z.size=64
theorem DS.set{w w':ae}{rk:Nat->Nat}(h:DS w rk w'){i j:Nat}(hi:i<8)(hj:j<8)(hr:rk j<rk i):DS w rk (w'.setCell ⟨w.heap.size+1,i*8+j,none⟩ (.bool true)):=by
 obtain⟨z,h1,h2⟩:=h.res;have on:=fW w' (w.heap.size+1) (i*8+j) (.bool true);exact⟨h.K9.setCell an _,by rw[on.1];exact h.size,h.ua.set hi hj hr,z,(on.2 _ aa).trans h1,h2⟩
theorem DS.alloc{w w':ae}{rk:Nat->Nat}(h:DS w rk w')(x:Obj):DS w rk (w'.alloc x):=by
 obtain⟨z,h1,h2⟩:=h.res;have:=h.size;exact⟨h.K9.alloc aa _,eR,h.ua.of_block (alloc_old _ _ _ aa),z,(alloc_old _ _ _ aa).trans h1,h2⟩
theorem La(rk:Nat->Nat)(p:Option Addr)(b c:Nat)(rs:List aL)(NM:aL->List ah)(NB:aL->Nat)(w:ae)(hR:oK w p b rs NM NB)(Un:∀i (hi:i<rs.length),∀x∈NM rs[i],∀j (hj:j<rs.length),rs[j].out=x->rk j<rk i):
  Calls ar 109 #[.slice p rs.length c] w fun e w'=>∃Ct,e=.returned (.agg Ct)/\qa rk Ct/\Below w.heap.size w w'/\w.heap.size<=w'.heap.size:=by
 have E6:=hR.gT;go_enter func109,ntmps109;go_wp2;go_loopw [11] (fun i w'=>∃m:Nat,m<=rs.length/\i=.int .i64 m/\DS w rk w') (fun i _=>rs.length-(intOf i).toNat)
 case atStart =>
  refine⟨0,aa,rfl,((Below.refl _ _).alloc (ag _) _).alloc an _,an,⟨fun _=>false,⟨Array.replicate 64 (.bool false),heap_alloc2_new w _ _,an,fun k hk=>by simp[hk]⟩,fun i j _ _ q=>by cases q⟩,Array.replicate 64 (.bool false),heap_alloc2_old w _ _,an⟩
 case round =>
  obtain⟨m,hm,rfl,hS⟩:=hrel;by_cases bZ:m<rs.length
  ·obtain⟨ep,hb⟩:=hR.ptr (fun e=>by rw[e] at bZ;simp at bZ);subst ep;have Jh:=hR.below hS.K9;obtain⟨c0,c1,c2⟩:=Jh.at_ m bZ;obtain⟨n1,n2,n3,n4⟩:=hR.nm rs[m] (aD bZ);rw[n1] at c2;have hrm:=Un m bZ;generalize amY:NM rs[m]=ts at *;generalize rs[m].sa=sa at *;generalize NB rs[m]=nb at *;generalize rs[m].sc=sc at *;have hSa:=hS.alloc (.cells #[.string rs[m].out,.int .i64 rs[m].eD,.slice sa ts.length sc] 42);go_wp2;go_loopw [19] (fun i w'=>∃t:Nat,t<=ts.length/\i=.int .i64 t/\DS w rk w') (fun i _=>ts.length-(intOf i).toNat)
   case atStart=>exact⟨0,aa,rfl,hSa⟩
   case round =>
    clear hSa hS Jh;obtain⟨t,ht,rfl,hS⟩:=hrel;by_cases xD:t<ts.length
    ·obtain⟨e1,e2⟩:=n2 (fun e=>by rw[e] at xD;simp at xD);subst e1;have h1:=n3.below e2 hS.K9 t xD;rw[bh] at h1;have Jh:=hR.below hS.K9;have D4:=Cb b c _ rs ts[t] _ aa (fun q=>rfl) Jh.at_;obtain⟨g,b6,ja⟩:=hS.ua.ex;have hx:=IC rs ts[t];generalize Ca rs ts[t] 0=r at *;rcases hx.ex with⟨rfl,-⟩|⟨j,hj,rfl,hj2⟩
     ·go_wp2_with (go_at_call 107;refine D4.mono ?_;rintro e w' ⟨rfl,rfl⟩);exact⟨⟨t+1,aa,by go_num,hS⟩,by simp[intOf];omega⟩
     ·have hj8:j<8:=aa;have hjI:(j:Int)<8:=aa;have hmI:(m:Int)<8:=aa;have c3:=b6.cell (show m*8+j<64 by omega);have f3:=b6.frozen (m*8+j);go_wp2_with (go_at_call 107;refine D4.mono ?_;rintro e w' ⟨rfl,rfl⟩);exact⟨⟨t+1,aa,by go_num,hS.set aa hj8 (hrm _ (aD xD) j hj hj2)⟩,by simp[intOf];omega⟩
    ·go_wp2;exact⟨⟨m+1,aa,by go_num,hS⟩,by simp[intOf];omega⟩
  ·obtain⟨Ct,mo,UT⟩:=hS.ua.blk;obtain⟨z,hz,WZ⟩:=hS.res;have hi:(ar.info? 201).map (·.size)=some Ct.size:=by rw[UT.size];exact vB
   go_wp2_with (first
    | (refine wpList_load_row rfl 201 _ rfl (w.heap.size+1) rfl 201 Ct (0,0) _ mo underlying201 rfl hi ?_)
    | (refine wpList_plain rfl fun _ hK=>wp_store_row 201 _ _ rfl w.heap.size Ct rfl rfl 201 z hz hi (WZ.trans UT.size.symm) UT.one (hK _ _ ?_)))
   refine bodyPost_ret (results_cell_row ai _ _ w.heap.size 201 Ct (0,0) _ rfl (setRow_heap _ _ _ _ _ _ hz) underlying201 rfl hi) rfl ⟨Ct,rfl,UT,?_,?_⟩
   ·exact rI hS.K9 (ag _) _
   ·rw[setRow_size];have:=hS.size;omega
end
section
open Go.RowKit
theorem qa.info{rk:Nat->Nat}{cs:Array Value}(h:qa rk cs):(ar.info? 201).map (·.size)=some cs.size:=by rw[h.size];exact vB
theorem Cd(rk:Nat->Nat)(p:Option Addr)(b c:Nat)(rs:List aL)(NM:aL->List ah)(NB:aL->Nat)(w:ae)(hR:oK w p b rs NM NB)(Un:∀i (hi:i<rs.length),∀x∈NM rs[i],∀j (hj:j<rs.length),rs[j].out=x->rk j<rk i):
  Calls ar 67 #[.slice p rs.length c] w fun e w'=>e=.returned (.int .i64 (-1))/\Below w.heap.size w w'/\w.heap.size<=w'.heap.size:=by
 have E6:=hR.gT;go_enter func67,ntmps67;go_wp2_with (first
  | (go_at_call 109;refine(La rk p b c rs NM NB w hR Un).mono ?_;rintro e w1 ⟨rW,rfl,hN1,Ag,TT⟩)
  | (go_at_call 108;refine(IE rk rW hN1 w1).mono ?_;rintro e w2 ⟨Zu,rfl,hN2,pE,Ya⟩;have hi:=hN2.info)
  | (refine wpList_plain rfl fun _ hK=>wp_store_row 201 _ _ rfl w2.heap.size Zu rfl rfl 201 _ (jR _ _) hi hN2.size.symm hN2.one (hK _ _ ?_)))
 have agv:Below w.heap.size w w2:=Ag.trans (pE.mono TT);generalize hzc:(Obj.cells (#[Value.bool false,Value.bool false,Value.bool false,Value.bool false,Value.bool false,Value.bool false,Value.bool false,Value.bool false,Value.bool false,Value.bool false,Value.bool false,Value.bool false,Value.bool false,Value.bool false,Value.bool false,Value.bool false,Value.bool false,Value.bool false,Value.bool false,Value.bool false,Value.bool false,Value.bool false,Value.bool false,Value.bool false,Value.bool false,Value.bool false,Value.bool false,Value.bool false,Value.bool false,Value.bool false,Value.bool false,Value.bool false,Value.bool false,Value.bool false,Value.bool false,Value.bool false,Value.bool false,Value.bool false,Value.bool false,Value.bool false,Value.bool false,Value.bool false,Value.bool false,Value.bool false,Value.bool false,Value.bool false,Value.bool false,Value.bool false,Value.bool false,Value.bool false,Value.bool false,Value.bool false,Value.bool false,Value.bool false,Value.bool false,Value.bool false,Value.bool false,Value.bool false,Value.bool false,Value.bool false,Value.bool false,Value.bool false,Value.bool false,Value.bool false]) 201 (0,0))=zc;have vE:Below w.heap.size w ((w2.alloc zc).setRow w2.heap.size Zu)/\w.heap.size<=((w2.alloc zc).setRow w2.heap.size Zu).heap.size :=
  ⟨rI (agv.alloc aa _) aa _,by rw[setRow_size];simp;omega⟩
 have SY:lA ((w2.alloc zc).setRow w2.heap.size Zu) w2.heap.size rk:=by
  rw[<- hzc];exact hN2.at (setRow_heap _ _ _ _ _ _ (jR _ _))
 generalize (w2.alloc zc).setRow w2.heap.size Zu=w3 at *;obtain⟨g,b6,ja⟩:=SY.ex;go_loop [10] (fun i=>∃k:Nat,k<=rs.length/\i=.int .i64 k) (fun i=>rs.length-(intOf i).toNat)
 case atStart=>exact⟨0,aQ _,rfl⟩
 case round =>
  obtain⟨k,hk,rfl⟩:=hrel;by_cases bZ:k<rs.length
  ·have Yf:(k:Int)<8:=aa;have c1:=b6.cell (show k*8+k<64 by omega);have hg:g (k*8+k)=false:=by
    cases h:g (k*8+k)
    ·rfl
    ·have:=ja k k aa aa h;omega
   rw[hg] at c1;go_wp2
   go_round
   case rel=>exact⟨k+1,aa,by go_num⟩
   case measure=>simp[intOf];omega
  ·go_wp2;go_ret;exact⟨rfl,vE⟩
theorem IF(b c:Nat)(p:Option Addr)(rs:List aL)(x:ah)(w:ae)(hn:rs.length<=100000)(hp:rs≠[]->p=some ⟨b,0,none⟩)(hv:dX w b rs)(hx:∀q∈rs,q.out≠x):
  Calls ar 107 #[.slice p rs.length c,.string x] w fun e w'=>e=.returned (.int .i64 (-1))/\w'=w:=by
 have:=Cb b c p rs x w hn hp hv;rcases(IC rs x).ex with⟨e,-⟩|⟨i,hi,e,q⟩
 ·rw[e] at this;exact this
 ·exact absurd q (hx _ (aD hi))
theorem IG(p:Option Addr)(b c:Nat)(rs:List aL)(NM:aL->List ah)(NB:aL->Nat)(RK:ah->Nat)(w:ae)(hR:oK w p b rs NM NB)(hY:Cc rs NM RK)(k:Nat)(hk:k<rs.length)(hc:rs.length<=c):
  Calls ar 66 #[.slice p rs.length c,.int .i64 k] w fun e w'=>e=.returned (.int .i64 0)/\Below w.heap.size w w'/\w.heap.size<=w'.heap.size:=by
 have E6:=hR.gT;obtain⟨ep,hb⟩:=hR.ptr (fun e=>by rw[e] at hk;simp at hk);subst ep;obtain⟨c0,c1,c2⟩:=hR.at_ k hk;obtain⟨n1,n2,n3,n4⟩:=hR.nm rs[k] (aD hk);have y1:=hY.outs rs[k] (aD hk);have y2:=hY.ins rs[k] (aD hk);obtain⟨y3,y4⟩:=hY.eD rs[k] (aD hk);rw[n1] at c2;have OE:∀q∈rs.take k,q.out≠rs[k].out:=fun q hq e=>by
  obtain⟨j,hj,rfl⟩:=a8 hq;have rY:j<k:=by simp at hj;omega
  rw[List.getElem_take] at e;have:=List.pairwise_iff_getElem.1 hY.nodup j k eR eR rY;simp at this;exact this e
 have gv:∀x:Obj,Below w.heap.size w (w.alloc x):=fun x=>(Below.refl _ _).alloc (ag _) _;have nT:∀x:Obj,dX (w.alloc x) b (rs.take k):=fun x i hi=>by
  have lQ:i<rs.length:=by simp at hi;omega
  have:=(hR.at_.below hb (gv x)) i lQ;simpa using this
 have gY:=fun x=>FA (NB rs[k]) rs[k].sc rs[k].sa (NM rs[k]) (w.alloc x) aa (fun q=>(n2 q).1) (fun j hj=>n3.below (n2 (fun e=>by rw[e] at hj;simp at hj)).2 (gv x) j hj) y2;have xV:=fun x=>ID rs[k].out y1 (w.alloc x);have I4:=fun x=>OD rs[k].eD (w.alloc x) y3 y4;have uG:=fun x n=>IF b c (some ⟨b,0,none⟩) (rs.take k) rs[k].out ((w.alloc x).drewN n) eR (fun _=>rfl) (fun i hi=>nT x i hi) OE;have J5:(rs.take k).length=k:=eR;simp only[J5] at uG;have n4I:¬(4:Int)<((NM rs[k]).length:Int):=aa;have hkc:k<=c:=aa;have agx:(k:Int)<=(c:Int):=aa;clear nT gv n2 n3 OE;generalize rs[k].out=y at *;generalize rs[k].eD=rc at *;generalize rs[k].sa=sa at *;generalize rs[k].sc=sc at *;generalize (NM rs[k]).length=nl at *;go_enter func66,ntmps66;go_wp2_with (first
  | (go_at_call 68;refine(xV _).mono ?_;rintro e w' ⟨rfl,rfl⟩)
  | (go_at_call 105;refine(gY _).mono ?_;rintro e w' ⟨rfl,rfl⟩)
  | (go_at_call 106;refine(I4 _).mono ?_;rintro e w' ⟨rfl,rfl⟩))
 go_quiet (first|(go_at_call 107;refine Calls.quiet_of_same (uG _ _)))
 go_wp2;go_ret;have hB:=(Below.refl w.heap.size w).alloc (ag _) (.cells #[.string y,.int .i64 rc,.slice sa nl sc] 42);exact⟨rfl,⟨hB.os,hB.tape,hB.output,hB.size,hB.block⟩,hB.size⟩
theorem OF(p:Option Addr)(b c:Nat)(rs:List aL)(NM:aL->List ah)(NB:aL->Nat)(RK:ah->Nat)(w:ae)(hR:oK w p b rs NM NB)(hY:Cc rs NM RK)(hc:rs.length<=c):
  Calls ar 39 #[.slice p rs.length c] w fun e w'=>e=.returned (.tuple #[.int .i64 0,.int .i64 0])/\Below w.heap.size w w'/\w.heap.size<=w'.heap.size:=by
 have E6:=hR.gT;have h8:¬(8:Int)<(rs.length:Int):=aa;go_enter func39,ntmps39;go_wp2;go_loopw [12] (fun i w'=>∃k:Nat,k<=rs.length/\i=.int .i64 k/\Below w.heap.size w w'/\w.heap.size<=w'.heap.size) (fun i _=>rs.length-(intOf i).toNat)
 case atStart=>exact⟨0,aQ _,rfl,Below.refl _ _,ag _⟩
 case round =>
  obtain⟨k,hk,rfl,gv,hz⟩:=hrel;by_cases bZ:k<rs.length
  ·have agy:=IG p b c rs NM NB RK _ (hR.below gv) hY k bZ hc;go_wp2_with (go_at_call 66;refine agy.mono ?_;rintro e w2 ⟨rfl,pE,Ya⟩);exact⟨⟨k+1,aa,by go_num,gv.trans (pE.mono hz),aa⟩,by simp[intOf];omega⟩
  ·have Vt:=Cd (fun i=>((rs[i]?).map fun r=>RK r.out).getD 0) p b c rs NM NB _ (hR.below gv) (fun i hi x hx j hj e=>by
    simp only[cp hi,cp hj,cR,y7];rw[e];exact hY.Ig _ (aD hi) x hx (by rw[<- e];exact List.mem_map.2 ⟨_,aD hj,rfl⟩))
   go_wp2_with (go_at_call 67;refine Vt.mono ?_;rintro e w2 ⟨rfl,pE,Ya⟩)
   go_ret2
   exact⟨rfl,gv.trans (pE.mono hz),aa⟩
end
section
open Go.RowKit
theorem RH:(ar.info? 44).map (fun i=>(i.zero,i.size,i.bytes))=some (some (.agg #[.string aN,.string aN]),2,32):=af
def fi(fs:List (ah×ah)):List Value:=(fs.map fun f=>[Value.string f.1,.string f.2]).flatten
theorem De(fs:List (ah×ah))(f:ah×ah):fi (fs++[f])=fi fs++[.string f.1,.string f.2]:=by simp[fi]
theorem uY:∀(fs:List (ah×ah)) (i:Nat) (h:i<fs.length),(fi fs)[i*2]?=some (.string fs[i].1)/\(fi fs)[i*2+1]?=some (.string fs[i].2)
 |f::fs,0,h=>by simp[fi]
 |f::fs,i+1,h=>by
  have ih:=uY fs i (by simpa using h);have e:fi (f::fs)=.string f.1 :: .string f.2::fi fs:=by simp[fi]
  have e2:(i+1)*2=i*2+1+1:=aa;rw[e,e2];simpa using ih
def tA(w:ae)(b:Nat)(fs:List (ah×ah)):Prop:=∀i (h:i<fs.length),w.cell? ⟨b,i*2,none⟩=some (.string fs[i].1)/\w.cell? ⟨b,i*2+1,none⟩=some (.string fs[i].2)
theorem tA.below{w w':ae}{b:Nat}{fs:List (ah×ah)}(h:tA w b fs)(hb:b<w.heap.size)(hw:Below w.heap.size w w'):tA w' b fs:=fun k hk=>by
 obtain⟨hc,-⟩:=uM hw;rw[hc _ _ hb,hc _ _ hb];exact h k hk
theorem rU(W:ae)(lo:Nat)(v:Value)(fs:List (ah×ah))(x t:ah)(A:Nat)(h:W.ownsRow lo 44 2 v fs.length (fi fs))(hn:fs.length<=100000)(uL:lo<=W.heap.size)(c0:W.cell? ⟨A,0,none⟩=some (.string x))(c1:W.cell? ⟨A,1,none⟩=some (.string t)):
  ∃v' W',(Builtin.append_ #[37,37] 37 #[v,.slice (some ⟨A,0,none⟩) 1 1]).run ar W=.ok v' W'/\W'.ownsRow lo 44 2 v' (fs++[(x,t)]).length (fi (fs++[(x,t)]))/\W.grownBy W' v.ownBlock:=by
 obtain⟨i,hi,oF⟩:=Option.map_eq_some_iff.1 RH;simp only[WS] at oF;obtain⟨v',W',e1,e2,e3,_⟩:=run_append_own (P:=ar) W lo 37 37 44 i _ 2 32 underlying37 hi oF.1 oF.2.1 oF.2.2 rfl aa v fs.length (fi fs) h ⟨A,0,none⟩ 1 1 [.string x,.string t] rfl (fun j u hj=>by
  match j,hj with
  |0,hj=>simp at hj;subst hj;simpa[Addr.add] using c0
  |1,hj=>simp at hj;subst hj;simpa[Addr.add] using c1) (by simp;exact⟨rfl,rfl⟩) (by simp[maxLen];omega) aa uL
 exact⟨v',W',e1,by rw[De];simpa using e2,e3⟩
theorem jV{w:ae}{lo e sz n:Nat}{v:Value}{xs:List Value}(h:w.ownsRow lo e sz v n xs):∃p l c,v=.slice p l c:=by
 obtain⟨_,hc⟩:=h;rcases hc with⟨rfl,_⟩|⟨g,cap,cur,rfl,h1,_⟩
 ·exact⟨_,_,_,rfl⟩
 ·exact⟨_,_,_,rfl⟩
def FB(fs:List (ah×ah))(x:ah):Bool:=Jn (fs.map (·.1)) x
def rJ(fs:List (ah×ah))(x:ah):List (ah×ah):=fs.filter fun f=>decide (f.1≠x)
def pC(fs:List (ah×ah))(x t:ah)(there:Bool):List (ah×ah):=rJ fs x++(if there then[(x,t)] else[])
theorem IH(fs:List (ah×ah))(x:ah):(rJ fs x).length<=fs.length:=eC _ _
theorem OG(fs:List (ah×ah))(x:ah)(k:Nat)(h:k<fs.length):rJ (fs.take (k+1)) x=rJ (fs.take k) x++(if fs[k].1=x then[] else[fs[k]]):=by
 rw[take_succ fs k h,rJ,aah];by_cases e:fs[k].1=x
 ·simp[rJ,e]
 ·simp[rJ,e]
theorem UU(S b c:Nat)(kv rv:Value)(ed:Int)(p:Option Addr)(fs:List (ah×ah))(x:ah)(w:ae)(hS:w.cell? ⟨S,2,none⟩=some (.slice p fs.length c))(hn:fs.length<=1000)(hp:fs≠[]->p=some ⟨b,0,none⟩)(hf:tA w b fs):
  Calls ar 35 #[.pointer (some ⟨S,0,none⟩),.string x] w fun e w'=>e=.returned (.bool (FB fs x))/\w'=w:=by
 go_enter func35,ntmps35;go_wp2;go_loop [5] (fun i=>∃k:Nat,k<=fs.length/\i=.int .i64 k/\x∉(fs.take k).map (·.1)) (fun i=>fs.length-(intOf i).toNat)
 case atStart=>exact⟨0,aQ _,rfl,an⟩
 case round =>
  obtain⟨k,hk,rfl,hs⟩:=hrel;by_cases bZ:k<fs.length
  ·have e:=hp (fun e=>by rw[e] at bZ;simp at bZ);subst e;obtain⟨h1,-⟩:=hf k bZ;have hm:fs[k].1∈fs.map (·.1):=List.mem_map.2 ⟨_,aD bZ,rfl⟩;have qJ:(fs.take (k+1)).map (·.1)=(fs.take k).map (·.1)++[fs[k].1]:=by rw[take_succ fs k bZ,jY];rfl
   generalize fs[k].1=y at *;by_cases hx:y=x
   ·have pd:FB fs x=true:=(oJ x _).2 (hx▸hm);clear qJ hm hs;subst hx;go_wp2;go_ret;exact⟨rfl,rfl⟩
   ·have Zv:=tV hx;go_wp2
    go_round
    case rel=>exact⟨k+1,aa,by go_num,by rw[qJ];simp only[List.mem_append,List.mem_singleton];exact fun q=>q.elim hs fun e=>hx e.symm⟩
    case measure=>simp[intOf];omega
  ·rw[cE aa] at hs;have pd:FB fs x=false:=by
    cases h:FB fs x
    ·rfl
    ·exact absurd ((oJ x _).1 h) hs
   go_wp2;go_ret;exact⟨rfl,rfl⟩
theorem UW(S b c:Nat)(p:Option Addr)(fs:List (ah×ah))(x t:ah)(there:Bool)(w:ae)(hS:w.cell? ⟨S,2,none⟩=some (.slice p fs.length c))(hSf:w.frozen? ⟨S,2,none⟩=false)(ZE:S<w.heap.size)(hn:fs.length<=1000)(hp:fs≠[]->p=some ⟨b,0,none⟩/\b<w.heap.size)(hf:tA w b fs):
  Calls ar 22 #[.pointer (some ⟨S,0,none⟩),.string x,.string t,.bool there] w fun e w'=>e=.returned (.tuple #[])/\∃v w2,Below w.heap.size w w2/\w.heap.size<=w2.heap.size/\w2.ownsRow w.heap.size 44 2 v (pC fs x t there).length (fi (pC fs x t there))/\w'=w2.setCell ⟨S,2,none⟩ v:=by
 go_enter func22,ntmps22;go_wp2;go_loopw [8,9] (fun v i w'=>∃k:Nat,k<=fs.length/\i=.int .i64 k/\Below w.heap.size w w'/\w.heap.size<=w'.heap.size/\w'.ownsRow w.heap.size 44 2 v (rJ (fs.take k) x).length (fi (rJ (fs.take k) x))) (fun v i _=>fs.length-(intOf i).toNat)
 case atStart=>exact⟨0,aQ _,rfl,Below.refl _ _,ag _,by simp[rJ,fi],.inl ⟨rfl,rfl⟩⟩
 case round =>
  obtain⟨k,hk,rfl,gv,hz,b6⟩:=hrel;have Vq:=(gv.cell (p:=⟨S,2,none⟩) ZE).trans hS;have am1:=(gv.frozen (p:=⟨S,2,none⟩) ZE).trans hSf;by_cases bZ:k<fs.length
  ·obtain⟨e,hb⟩:=hp (fun e=>by rw[e] at bZ;simp at bZ);subst e;obtain⟨h1,h2⟩:=hf.below hb gv k bZ;have C5:=OG fs x k bZ;have hl:=IH (fs.take k) x;have Ge:(fs.take k).length<=k:=eR;generalize rJ (fs.take k) x=raw at *;generalize fs[k]=f at *;obtain⟨y,ty⟩:=f;simp only at h1 h2 C5;by_cases hx:y=x
   ·rw[if_pos hx,List.append_nil] at C5;subst hx;go_wp2;exact⟨⟨k+1,aa,by go_num,gv,hz,by rw[C5];exact b6⟩,by simp[intOf];omega⟩
   ·rw[if_neg hx] at C5;have Zv:=tV hx;obtain⟨v',W',e1,e2,e3⟩:=rU (wr.alloc (.cells #[.string y,.string ty] 44)) w.heap.size _ _ y ty wr.heap.size (oP b6 _) aa eR (nK _ _ _ 0) (nK _ _ _ 1);have vE:=Below.grown (gv.alloc aa _) e3 eR (yh b6);go_wp2_with (at_builtin;refine fM rfl _ _ 37 rfl rfl rfl e1 ?_);exact⟨⟨k+1,aa,by go_num,vE,vE.size,by rw[C5];exact e2⟩,by simp[intOf];omega⟩
  ·rw[cE aa] at b6;have hl:=IH fs x;have zE:pC fs x t there=rJ fs x++(if there then[(x,t)] else[]):=rfl;generalize rJ fs x=raw at *;cases there
   ·have RJ:pC fs x t false=raw:=by rw[zE];simp
    clear zE;obtain⟨sp,sl,sc,rfl⟩:=jV b6;go_wp2
    go_end0
    exact⟨rfl,_,_,gv,hz,by rw[RJ];exact b6,rfl⟩
   ·have RJ:pC fs x t true=raw++[(x,t)]:=by rw[zE];simp
    clear zE;obtain⟨v',W',e1,e2,e3⟩:=rU (wr.alloc (.cells #[.string x,.string t] 44)) w.heap.size _ _ x t wr.heap.size (oP b6 _) aa eR (nK _ _ _ 0) (nK _ _ _ 1);have vE:=Below.grown (gv.alloc aa _) e3 eR (yh b6);obtain⟨sp,sl,sc,rfl⟩:=jV e2;have hc3:=(vE.cell (p:=⟨S,2,none⟩) ZE).trans hS;have am2:=(vE.frozen (p:=⟨S,2,none⟩) ZE).trans hSf;go_wp2_with (at_builtin;refine fM rfl _ _ 37 rfl rfl rfl e1 ?_)
    go_end0
    exact⟨rfl,_,_,vE,vE.size,by rw[RJ];exact e2,rfl⟩
end
section
open Go.RowKit
theorem Lc(b c:Nat)(p:Option Addr)(ts:List ah)(w:ae)(hn:ts.length<=100000)(hp:p=none->ts=[])(hq:ts≠[]->p=some ⟨b,0,none⟩)(ht:dP w b 0 ts):
  Calls ar 51 #[.slice p ts.length c] w fun e w'=>∃v,e=.returned v/\w'.ownsRow w.heap.size 9 1 v ts.length (ts.map .string)/\Below w.heap.size w w'/\w.heap.size<=w'.heap.size:=by
 cases p with
 |none =>
  obtain rfl:=hp rfl;refine(Tryz.slices_Clone_string_nil _ _ w).mono fun e w' hq=>?_;obtain⟨rfl,rfl⟩:=hq;exact⟨_,rfl,⟨an,.inl ⟨rfl,rfl⟩⟩,Below.refl _ _,ag _⟩
 |some a =>
  by_cases cV:ts=[]
  ·subst cV;refine(Tryz.slices_Clone_string_zero a _ w).mono fun e w' hq=>?_;obtain⟨v',rfl,h1,-,h2⟩:=hq;exact⟨_,rfl,h1,h2,h2.size⟩
  ·have e:=hq cV;cases e;refine(Tryz.slices_Clone_string b 0 ts.length c ts w (ag _) aa (fun j hj=>?_)).mono fun e w' hq=>?_
   ·rw[ht j hj];simp[hj]
   ·obtain⟨v',rfl,h1,h2⟩:=hq;rw[dz] at h1;exact⟨_,rfl,h1,h2.2,h2.2.size⟩
def dM(rs:List aL):List Value:=(rs.map aL.cells).flatten
theorem pD(r:aL)(rs:List aL):dM (r::rs)=.string r.out :: .int .i64 r.eD :: .slice r.sa r.sl r.sc::dM rs:=by simp[dM,aL.cells]
theorem qc(rs:List aL):(dM rs).length=rs.length*3:=by
 induction rs with
 |nil=>rfl
 |cons r rs ih =>
  rw[pD];simp[ih];omega
theorem na:∀(rs:List aL) (i:Nat) (h:i<rs.length),(dM rs)[i*3]?=some (.string rs[i].out)/\(dM rs)[i*3+1]?=some (.int .i64 rs[i].eD)/\(dM rs)[i*3+2]?=some (.slice rs[i].sa rs[i].sl rs[i].sc)
 |r::rs,0,h=>by simp[pD]
 |r::rs,i+1,h=>by
  have ih:=na rs i (by simpa using h);have e2:(i+1)*3=i*3+1+1+1:=aa;rw[pD,e2];simpa using ih
theorem Df(rs:List aL):∀u∈dM rs,u.oneCell'=true:=fun u hu=>by
 simp only[dM,List.mem_flatten,List.mem_map] at hu;obtain⟨l,⟨r,-,rfl⟩,hu⟩:=hu;simp[aL.cells] at hu;rcases hu with rfl|rfl|rfl<;>rfl
theorem Dg{w:ae}{b:Nat}{rs:List aL}(h:dX w b rs):∀j u,(dM rs)[j]?=some u->w.cell? ⟨b,j,none⟩=some u:=fun j u hu=>by
 have hj:j<rs.length*3:=by
  rw[<- qc];exact(List.getElem?_eq_some_iff.1 hu).1
 have hi:j/3<rs.length:=aa;obtain⟨c0,c1,c2⟩:=na rs (j/3) hi;obtain⟨d0,d1,d2⟩:=h (j/3) hi;have h3:j=j/3*3\/j=j/3*3+1\/j=j/3*3+2:=aa;generalize j/3=i at *;rcases h3 with rfl|rfl|rfl
 ·rw[c0] at hu;rw[d0];exact hu
 ·rw[c1] at hu;rw[d1];exact hu
 ·rw[c2] at hu;rw[d2];exact hu
theorem RL:(ar.info? 222).map (fun i=>(i.zero,i.size,i.bytes))=some (some (.agg #[.bool false,.slice none 0 0,.bool false,.string aN]),4,56):=af
theorem Dh(w:ae)(n:Nat)(hn:n<=100000):(Instr.makeSlice 148 (.int .i64 (n:Int)) (.int .i64 (n:Int))).run ar w=.ok (.slice (some ⟨w.heap.size,0,none⟩) n n) (w.alloc (.cells (madeCells #[.bool false,.slice none 0 0,.bool false,.string aN] (n*4)) 222)):=by
 obtain⟨i,hi,hz⟩:=Option.map_eq_some_iff.1 RL;simp only[WS] at hz;obtain⟨hz,hs,hb⟩:=hz;have:=run_make (P:=ar) w 148 222 i _ underlying148 hi hz .i64 .i64 n n aa (fh _) (by rw[hb];omega) aa;rw[this,hs];simp[Value.cells]
theorem Ak{w:ae}{lo e sz n:Nat}{v:Value}{xs:List Value}(h:w.ownsRow lo e sz v n xs){p:Option Addr}{l c:Nat}(hv:v=.slice p l c):l=n:=by
 obtain⟨h0,hc⟩:=h;rcases hc with⟨rfl,h2⟩|⟨g,cap,cur,rfl,h1,_⟩
 ·cases hv;exact h2.symm
 ·cases hv;rfl
def rK(j:Nat):Value:=match j%4 with
 |0=>.bool false
 |1=>.slice none 0 0
 |2=>.bool false
 |_=>.string aN
def tB(lo hi:Nat)(v:Value)(ts:List ah)(w':ae):Prop:=(v=.slice none 0 0/\ts=[])\/∃g cap,v=.slice (some ⟨g,0,none⟩) ts.length cap/\lo<g/\g<hi/\dP w' g 0 ts
theorem tB.keep{lo hi lQ:Nat}{v:Value}{ts:List ah}{w w':ae}(h:tB lo hi v ts w)(hz:hi<=lQ)(e:∀g,lo<g->g<hi->w'.heap[g]?=w.heap[g]?):tB lo lQ v ts w':=by
 rcases h with h|⟨g,cap,h1,h2,h3,h4⟩
 ·exact .inl h
 ·exact .inr ⟨g,cap,h1,h2,aa,fun k hk=>(World.cell?_of_block (w:=w) (w':=w') (a:=⟨g,0+k,none⟩) (e g h2 h3)).trans (h4 k hk)⟩
theorem OH{lo:Nat}{v:Value}{ts:List ah}{w1 w2:ae}(h:w2.ownsRow w1.heap.size 9 1 v ts.length (ts.map .string))(uL:lo<w1.heap.size):tB lo w2.heap.size v ts w2:=by
 have h0:=h;obtain⟨h4,h5⟩:=h;rcases h5 with⟨e1,e2⟩|⟨g,cap,cur,rfl,q1,q2,q3,q4,q5,q6⟩
 ·refine .inl ⟨e1,?_⟩;cases ts with
  |nil=>rfl
  |cons r rs=>simp at e2
 ·have hg:g<w2.heap.size:=aO fun q=>by
   rw[cb (cL q)] at q2;cases q2
  refine .inr ⟨g,cap,rfl,aa,hg,fun i hi=>?_⟩;have hc:=h0.cells (g:=g) rfl i (.string ts[i]) (by simp[hi]);have ha:(⟨g,0,none⟩:Addr).add i=⟨g,i,none⟩:=by simp[Addr.add];omega
  rw[ha] at hc;rw[bh];exact hc
structure BI(w:ae)(rs:List aL)(NM:aL->List ah)(Ru k:Nat)(w':ae):Prop where
 K9:Below w.heap.size w w'
 ru:rs≠[]->w.heap.size<=Ru/\Ru<w'.heap.size
 row:rs≠[]->∃N f,w'.rowIs Ru 42 N f/\rs.length*3<=N/\∀i (h:i<rs.length),f (i*3)=.string rs[i].out/\f (i*3+1)=.int .i64 rs[i].eD/\(k<=i->f (i*3+2)=.slice rs[i].sa rs[i].sl rs[i].sc)/\(i<k->tB Ru w'.heap.size (f (i*3+2)) (NM rs[i]) w')
structure Ld(lo:Nat)(rs:List aL)(NM:aL->List ah)(v:Value)(w':ae):Prop where
 ex:∃(bb Rb Ru c:Nat) (p':Option Addr) (f:Nat->Value),v=.pointer (some ⟨bb,0,none⟩)/\lo<=Rb/\Rb<bb/\bb<w'.heap.size/\((p'=none/\rs=[])\/(p'=some ⟨Ru,0,none⟩/\lo<=Ru/\Ru<Rb)) /\
  (∀i (h:i<rs.length),w'.cell? ⟨Ru,i*3,none⟩=some (.string rs[i].out)/\w'.cell? ⟨Ru,i*3+1,none⟩=some (.int .i64 rs[i].eD)/\w'.cell? ⟨Ru,i*3+2,none⟩=some (f i)/\tB Ru Rb (f i) (NM rs[i]) w') /\
  w'.heap[bb]?=some (Ji (.slice p' rs.length c) (.int .u32 0) (.int .i32 0) (.int .u32 0) (.slice none 0 0) (.slice none 0 0) (.slice none 0 0) (.slice (some ⟨Rb,0,none⟩) rs.length rs.length)) /\
  w'.rowIs Rb 222 (rs.length*4) rK
theorem RN(p:Option Addr)(b c:Nat)(rs:List aL)(NM:aL->List ah)(NB:aL->Nat)(w:ae)(hR:oK w p b rs NM NB)(hp:p=none->rs=[])(hpi:∀r∈rs,r.sa=none->NM r=[]):
  Calls ar 41 #[.slice p rs.length c] w fun e w'=>∃v,e=.returned v/\Below w.heap.size w w'/\w.heap.size<=w'.heap.size/\Ld w.heap.size rs NM v w':=by
 have E6:=hR.gT;have eY:=Dd b c rs.length p (dM rs) w (qc rs) aa (fun e=>by rw[hp e];rfl) (fun cV=>(hR.ptr (fun e=>cV (by rw[e];rfl))).1) (Dg hR.at_) (Df rs);have LV:=fun w=>Dh w rs.length aa;go_enter func41,ntmps41;go_wp2_with (go_at_call 71;refine eY.mono ?_;rintro e w1 ⟨v1,rfl,II,Ag,TT⟩;obtain⟨p',sl,c',Gd⟩:=jV II;have SO:=Ak II Gd;subst SO;subst Gd);obtain⟨Ru,fy,hB0⟩:∃Ru,((p'=none/\rs=[])\/(p'=some ⟨Ru,0,none⟩/\w.heap.size<=Ru/\Ru<w1.heap.size))/\BI w rs NM Ru 0 w1:=by
  rcases II.2 with⟨e1,e2⟩|⟨g,cap,cur,e1,q1,q2,q3,q4,q5,q6⟩
  ·have xU:rs=[]:=List.length_eq_zero_iff.1 e2;injection e1 with e1 _ _;exact⟨0,.inl ⟨e1,xU⟩,Ag,fun q=>absurd xU q,fun q=>absurd xU q⟩
  ·have hg:g<w1.heap.size:=aO fun q=>by
    rw[cb (cL q)] at q2;cases q2
   have hc:=II.cells (g:=g) (by rw[e1];rfl);cases e1;refine⟨g,.inr ⟨rfl,q1,hg⟩,Ag,fun _=>⟨q1,hg⟩,fun _=>⟨cur.size,fun j=>cur.getD j undef,⟨cur,q2,rfl,fun j hj=>by simp[hj]⟩,by rw[q5];exact iu _ q3,fun i hi=>?_⟩⟩;obtain⟨c0,c1,c2⟩:=na rs i hi;have cc:∀j u,(dM rs)[j]?=some u->cur.getD j undef=u:=fun j u hu=>by
    have:=hc j u hu;have hj:j<rs.length*3:=by
     rw[<- qc];exact(List.getElem?_eq_some_iff.1 hu).1
    have hj2:j<cur.size:=by rw[q5];exact bm hj (iu _ q3)
    have ha:(⟨g,0,none⟩:Addr).add j=⟨g,j,none⟩:=by simp[Addr.add];omega
    rw[ha] at this;simp[World.cell?,q2,hj2] at this;simp[hj2,this]
   exact⟨cc _ _ c0,cc _ _ c1,fun _=>cc _ _ c2,fun q=>aa⟩
 clear II Ag;go_loopw [9] (fun i w'=>∃k:Nat,k<=rs.length/\i=.int .i64 k/\BI w rs NM Ru k w'/\w1.heap.size<=w'.heap.size) (fun i _=>rs.length-(intOf i).toNat)
 case atStart=>exact⟨0,aQ _,rfl,hB0,ag _⟩
 case round =>
  clear hB0;obtain⟨k,hk,rfl,hB,oF⟩:=hrel;by_cases bZ:k<rs.length
  ·have cV:rs≠[]:=fun e=>by rw[e] at bZ;simp at bZ
   rcases fy with⟨-,e⟩|⟨rfl,kR,Kp⟩
   ·exact absurd e cV
   obtain⟨N,f,b6,hN,hf⟩:=hB.row cV;obtain⟨-,xz⟩:=hB.ru cV;obtain⟨f0,f1,f2,-⟩:=hf k bZ;have c2:=b6.cell (show k*3+2<N by omega);have z2:=b6.frozen (k*3+2);rw[f2 (ag _)] at c2;obtain⟨n1,n2,n3,n4⟩:=hR.nm rs[k] (aD bZ);rw[n1] at c2;have Ps:=Lc (NB rs[k]) rs[k].sc rs[k].sa (NM rs[k]) wr aa (hpi _ (aD bZ)) (fun q=>(n2 q).1) (fun j hj=>n3.below (n2 (fun e=>by rw[e] at hj;simp at hj)).2 hB.K9 j hj);go_wp2_with (go_at_call 51;refine Ps.mono ?_;rintro e w2 ⟨v2,rfl,Wm,pE,Ya⟩;have pd:=OH Wm xz;have I2:=jV Wm;obtain⟨sp,sl,sc2,I2⟩:=I2;subst I2;have cc2:=(pE.cell (p:=⟨Ru,k*3+2,none⟩) xz).trans c2;have zz2:=(pE.frozen (p:=⟨Ru,k*3+2,none⟩) xz).trans z2);have acf:=World.rowIs.of_block b6 (pE.block Ru xz);have on:=Go.Ren.fW w2 Ru (k*3+2) (.slice sp sl sc2);refine⟨⟨k+1,aa,by go_num,⟨?_,fun _=>⟨kR,by rw[on.1];omega⟩,fun _=>⟨N,fun j=>if j=k*3+2 then .slice sp sl sc2 else f j,(acf.set (k*3+2) _).congr fun j hj=>rfl,hN,fun i hi=>?_⟩⟩,by rw[on.1];omega⟩,by simp[intOf];omega⟩
   ·exact(hB.K9.trans (pE.mono (by have:=hB.K9.size;omega))).setCell (by simpa using kR) _
   ·obtain⟨g0,g1,g2,g3⟩:=hf i hi;have e0:¬i*3=k*3+2:=aa;have e1:¬i*3+1=k*3+2:=aa;simp only[if_neg e0,if_neg e1];refine⟨g0,g1,fun q=>?_,fun q=>?_⟩
    ·have e2:¬i*3+2=k*3+2:=aa;rw[if_neg e2];exact g2 aa
    ·by_cases e:i=k
     ·subst e;rw[if_pos rfl];exact pd.keep (bq on.1.symm) fun g hg _=>on.2 g aa
     ·have e2:¬i*3+2=k*3+2:=aa;rw[if_neg e2];exact(g3 aa).keep (by rw[on.1];exact Ya) fun g hg Cv=>(on.2 g aa).trans (pE.block g Cv)
  ·have kY:k=rs.length:=aa;subst kY;go_wp2;go_ret;generalize hm:madeCells #[.bool false,.slice none 0 0,.bool false,.string aN] (rs.length*4)=mc;have hms:mc.size=rs.length*4:=by rw[<- hm];simp[size_madeCells]
   have hzw:=hB.K9.size;refine⟨_,rfl,(hB.K9.alloc aa _).alloc eR _,eR,⟨wr.heap.size+1,wr.heap.size,Ru,c',p',fun i=>((wr.cell? ⟨Ru,i*3+2,none⟩).getD undef),rfl,hzw,aa,an,?_,fun i hi=>?_,heap_alloc2_new wr _ _,mc,heap_alloc2_old wr _ _,hms,fun j hj=>?_⟩⟩
   ·exact fy.imp id fun q=>⟨q.1,q.2.1,aa⟩
   ·have cV:rs≠[]:=fun e=>by rw[e] at hi;simp at hi
    obtain⟨N,f,b6,hN,hf⟩:=hB.row cV;obtain⟨-,xz⟩:=hB.ru cV;obtain⟨g0,g1,-,g3⟩:=hf i hi;have tt:((wr.alloc (.cells mc 222)).alloc (Ji (.slice p' rs.length c') (.int .u32 0) (.int .i32 0) (.int .u32 0) (.slice none 0 0) (.slice none 0 0) (.slice none 0 0) (.slice (some ⟨wr.heap.size,0,none⟩) rs.length rs.length))).heap[Ru]?=wr.heap[Ru]?:=(alloc_old _ _ _ eR).trans (alloc_old _ _ _ xz);have RP:=World.rowIs.of_block b6 tt;have d0:=RP.cell (show i*3<N by omega);have d1:=RP.cell (show i*3+1<N by omega);have d2:=RP.cell (show i*3+2<N by omega);have d3:=b6.cell (show i*3+2<N by omega);rw[g0] at d0;rw[g1] at d1;refine⟨d0,d1,?_,?_⟩
    ·show _=some ((wr.cell? ⟨Ru,i*3+2,none⟩).getD undef);rw[d3];exact d2
    show tB _ _ ((wr.cell? ⟨Ru,i*3+2,none⟩).getD undef) _ _;rw[d3];exact(g3 hi).keep (ag _) fun g _ hg=>(alloc_old _ _ _ eR).trans (alloc_old _ _ _ hg)
   ·rw[<- hm];simp only[madeCells,br,Array.getElem?_range,hj,if_true,cR];have h4:j%4=0\/j%4=1\/j%4=2\/j%4=3:=aa;rcases h4 with e|e|e|e<;>simp[e,rK]
end
def fileOf:List ah->List V->ah->V
 |k::ks,v::vs,x=>if x=k then v else fileOf ks vs x
 |_,_,_=>V0
theorem xn:∀(ks:List ah) (vs:List V),(∀v∈vs,v.2.size<=12)->∀x,(fileOf ks vs x).2.size<=12
 | [],_,_,_=>by simp[fileOf,V0]
 |_::_,[],_,_=>by simp[fileOf,V0]
 |k::ks,v::vs,h,x=>by
  unfold fileOf;split
  ·exact h v an
  ·exact xn ks vs (fun u hu=>h u (by simp[hu])) x
theorem Ce:∀(ks:List ah) (vs:List V),ks.Nodup->vs.length=ks.length->vs=ks.map (fileOf ks vs)
 | [],[],_,_=>rfl
 | [],_::_,_,h=>by simp at h
 |_::_,[],_,h=>by simp at h
 |k::ks,v::vs,hn,h=>by
  have hn':=List.nodup_cons.1 hn;have ih:=Ce ks vs hn'.2 (by simpa using h);have e1:fileOf (k::ks) (v::vs) k=v:=by simp[fileOf]
  have e2:ks.map (fileOf (k::ks) (v::vs))=ks.map (fileOf ks vs):=cU fun x hx=>by
   have:x≠k:=fun e=>hn'.1 (e▸hx);simp[fileOf,this]
  rw[bU,e1,e2,<- ih]
theorem nY.nodup{xs:List ah}(h:nY xs):xs.Nodup:=List.pairwise_iff_getElem.2 fun i j hi hj DU e=>by
 have:=h i j hi hj DU;rw[e,tP] at this;exact absurd this dh
theorem IJ{α:Type}{x:ah}{v:α}:∀{l:List (ah×α)},eO l x=some v->(x,v)∈l
 | [],h=>by cases h
 | (k,u)::l,h=>by
  unfold eO at h;split at h
  ·rename_i e;cases h;subst e;simp
  ·exact bo _ (IJ h)
theorem IK{α:Type}{x:ah}{v:α}{y:ah×α}:∀{l:List (ah×α)},y∈gU l x v->y=(x,v)\/y∈l
 | [],h=>by simpa[gU] using h
 | (k,u)::l,h=>by
  unfold gU at h;split at h
  ·rcases List.mem_cons.1 h with h|h
   ·exact .inl h
   ·exact .inr (bo _ h)
  ·rcases List.mem_cons.1 h with h|h
   ·exact .inr (h▸iY)
   ·exact(IK h).imp id (bo _)
theorem IL{α:Type}{x:ah}{y:ah×α}:∀{l:List (ah×α)},y∈lI l x->y∈l
 | [],h=>by cases h
 | (k,u)::l,h=>by
  unfold lI at h;split at h
  ·exact bo _ h
  ·rcases List.mem_cons.1 h with h|h
   ·exact h▸iY
   ·exact bo _ (IL h)
structure Sound(K:sj)(s:kT):Prop where
 ph:s.phase<=3
 fd:s.phase=2\/s.phase=3->∃lo F,s.fd=some (lo,F)
 src:s.phase=2\/s.phase=3->s.src=iq K.B.NM K.B.rs
 idle:s.phase<=1->s.src=[]/\s.rd=[]/\s.ck=0
 early:s.phase=2->s.ck=0
 full:s.phase=3->s.rd.length=s.src.length
 rd:∀x∈s.rd,x.1.2.size<=12
 th:∀x∈s.th,x.2.size<=12
 once:s.qn.Nodup
 lost:s.lost=true->4<=s.qn.length
theorem Cf{ts:List ah}{lost:Bool}{x:ah}(hn:ts.Nodup)(hl:lost=true->4<=ts.length):(iX ts lost x).1.Nodup/\((iX ts lost x).2=true->4<=(iX ts lost x).1.length)/\(∀y,y∈(iX ts lost x).1->y=x\/y∈ts)/\(∀y∈ts,y∈(iX ts lost x).1)/\(x∈(iX ts lost x).1\/(iX ts lost x).2=true)/\(lost=true->(iX ts lost x).2=true):=by
 unfold iX;by_cases hc:Lib.containsS ts x=true
 ·rw[if_pos hc];exact⟨hn,hl,fun y hy=>.inr hy,fun y hy=>hy,.inl ((Lib.containsS_iff _ _).1 hc),id⟩
 ·rw[if_neg hc];have hx:x∉ts:=fun q=>hc ((Lib.containsS_iff _ _).2 q);by_cases h4:4<=ts.length
  ·rw[if_pos h4];exact⟨hn,fun _=>h4,fun y hy=>.inr hy,fun y hy=>hy,.inr rfl,fun _=>rfl⟩
  ·rw[if_neg h4];refine⟨?_,fun q=>absurd (hl q) h4,fun y hy=>?_,fun y hy=>by simp[hy],.inl an,id⟩
   ·refine List.nodup_append.2 ⟨hn,an,fun a ha b hb e=>?_⟩;simp at hb;exact hx (by rw[<- hb,<- e];exact ha)
   ·simp at hy;exact hy.symm
section
variable {Fin:bH} {o:aM} {w:ae} {K:sj} {s s':kT} {lab:Nat->Nat}
theorem Sound.tick(h:Sound K s)(t:Nat):Sound K {s with time:=t}:=⟨h.ph,h.fd,h.src,h.idle,h.early,h.full,h.rd,h.th,h.once,h.lost⟩
theorem Sound.edit(h:Sound K s){x t:ah}(ht:t.size<=12)(st':List (ah×Int))(rE:Value):Sound K {s with th:=gU s.th x t,st:=st',qv:=rE,qn:=(iX s.qn s.lost x).1,lost:=(iX s.qn s.lost x).2}:=by
 obtain⟨q1,q2,-⟩:=Cf (x:=x) h.once h.lost;refine⟨h.ph,h.fd,h.src,h.idle,h.early,h.full,h.rd,fun y hy=>?_,q1,q2⟩;rcases IK hy with rfl|hy
 ·exact ht
 ·exact h.th y hy
theorem Sound.remove(h:Sound K s){x:ah}(st':List (ah×Int))(rE:Value):Sound K {s with th:=lI s.th x,st:=st',qv:=rE,qn:=(iX s.qn s.lost x).1,lost:=(iX s.qn s.lost x).2}:=by
 obtain⟨q1,q2,-⟩:=Cf (x:=x) h.once h.lost;exact⟨h.ph,h.fd,h.src,h.idle,h.early,h.full,h.rd,fun y hy=>h.th y (IL hy),q1,q2⟩
theorem Sound.stand(h:Sound K s){p t:Nat}(hp:p<=1):Sound K (s.stand p t):=by
 refine⟨?_,?_,?_,?_,?_,?_,?_,h.th,h.once,h.lost⟩<;>simp only[kT.stand]
 ·omega
 ·omega
 ·omega
 ·exact fun _=>⟨trivial,trivial,trivial⟩
 ·omega
 ·omega
 ·simp
theorem Sound.checked{F:dm}{file:ah->V}{v:Value}(h:Sound K s)(h3:s.phase=3)(hc:Checked K s s' F file v):Sound K s':=by
 rcases hc with⟨-,-,ir,Wh,zk,zm,-,rfl⟩|⟨h1,h2,⟨-,-,rfl⟩|⟨-,-,rfl⟩⟩
 ·have q:=h.stand (p:=0) (t:=0) aa;exact⟨q.ph,q.fd,q.src,q.idle,q.early,q.full,q.rd,q.th,q.once,q.lost⟩
 ·exact h.stand aa
 ·exact⟨h.ph,h.fd,h.src,fun q=>by have:s.phase<=1:=q;omega,fun q=>by have:s.phase=2:=q;omega,h.full,h.rd,h.th,h.once,h.lost⟩
theorem Sound.late(h:Sound K s)(h2:s.phase=2)(hf:s.rd.length=s.src.length):Sound K {s with phase:=3} :=
 ⟨an,fun _=>h.fd (.inl h2),fun _=>h.src (.inl h2),fun q=>by simp at q,fun q=>by simp at q,fun _=>hf,h.rd,h.th,h.once,h.lost⟩
theorem IM{th:List (ah×ah)}(h:∀x∈th,x.2.size<=12)(x:ah):(jE th x).2.size<=12:=by
 unfold jE;split
 ·rename_i t e;exact h _ (IJ e)
 ·simp[V0]
theorem Sound.work{F:dm}{file:ah->V}{v:Value}(h:Sound K s)(hc:kX K s s' F file v):Sound K s':=by
 rcases hc with⟨h2,⟨h3,h4⟩|⟨h3,h4,SW,rfl⟩⟩|⟨h2,h3⟩|⟨h2,h3,h4⟩
 ·exact(h.late h2 h3).checked rfl h4
 ·refine⟨h.ph,h.fd,h.src,fun q=>by have:s.phase<=1:=q;omega,h.early,fun q=>by have:s.phase=3:=q;omega,fun x hx=>?_,h.th,h.once,h.lost⟩;rcases List.mem_append.1 hx with hx|hx
  ·exact h.rd x hx
  ·simp at hx;subst hx;exact IM h.th _
 ·exact h.checked h2 h3
 ·rcases h4 with⟨-,-,rfl⟩|⟨-,-,-,lo,F',SX,rfl⟩|⟨-,-,-,rfl⟩
  ·have q:Sound K {s with qv:=.slice none 0 0,qn:=[],lost:=false}:=⟨h.ph,h.fd,h.src,h.idle,h.early,h.full,h.rd,h.th,an,an⟩;exact q.stand aa
  ·exact⟨by simp[kT.stand],fun _=>⟨lo,F',rfl⟩,fun _=>rfl,fun q=>by simp[kT.stand] at q,fun _=>rfl,fun q=>by simp[kT.stand] at q,by simp[kT.stand],h.th,h.once,h.lost⟩
  ·exact h
theorem kX.kind{F:dm}{file:ah->V}{v:Value}(hc:kX K s s' F file v):∃n x,v=did n x/\0<=n/\n<=6/\((n=1/\s'.qn=[]/\s'.lost=false)\/(n≠1/\s'.qn=s.qn/\s'.lost=s.lost))/\s'.th=s.th/\s'.st=s.st/\s'.time=s.time:=by
 have chk:∀s s':kT,Checked K s s' F file v->∃n x,v=did n x/\0<=n/\n<=6/\((n=1/\s'.qn=[]/\s'.lost=false)\/(n≠1/\s'.qn=s.qn/\s'.lost=s.lost))/\s'.th=s.th/\s'.st=s.st/\s'.time=s.time:=fun s s' hc=>by
  rcases hc with⟨-,e,ir,Wh,zk,zm,-,rfl⟩|⟨h1,h2,⟨-,e,rfl⟩|⟨-,e,rfl⟩⟩;all_goals exact⟨_,_,e,aa,aa,.inr ⟨aa,rfl,rfl⟩,rfl,rfl,rfl⟩
 rcases hc with⟨h2,⟨h3,h4⟩|⟨h3,e,SW,rfl⟩⟩|⟨h2,h3⟩|⟨h2,h3,h4⟩
 ·exact chk {s with phase:=3} s' h4
 ·exact⟨_,_,e,aa,aa,.inr ⟨aa,rfl,rfl⟩,rfl,rfl,rfl⟩
 ·exact chk _ _ h3
 ·rcases h4 with⟨-,e,rfl⟩|⟨-,-,e,lo,F',SX,rfl⟩|⟨-,-,e,rfl⟩
  ·exact⟨_,_,e,aa,aa,.inl ⟨rfl,rfl,rfl⟩,rfl,rfl,rfl⟩
  ·exact⟨_,_,e,aa,aa,.inr ⟨aa,rfl,rfl⟩,rfl,rfl,rfl⟩
  ·exact⟨_,_,e,aa,aa,.inr ⟨aa,rfl,rfl⟩,rfl,rfl,rfl⟩
theorem yz[Payload](h:bg o w K s 0 lab)(hs:Sound K s):
  bp ar (XB ar Fin 0) 38 #[.pointer (some ⟨K.kb,0,none⟩)] o w fun v o' w'=>∃s' lab' F,((s.phase=2\/s.phase=3)->∃lo,s.fd=some (lo,F))/\kX K s s' F (fileOf s.src (s.rd.map (·.1))) v/\Sound K s'/\bg o' w' K s' 0 lab'/\cK o w lab o' w' lab':=by
 have pU:∀x,(fileOf s.src (s.rd.map (·.1)) x).2.size<=100:=fun x=>by
  have:=xn s.src (s.rd.map (·.1)) (fun v hv=>by
   obtain⟨y,hy,rfl⟩:=List.mem_map.1 hv;exact hs.rd y hy) x
  omega
 have ach:s.src=iq K.B.NM K.B.rs->s.rd.length=s.src.length->s.rd.map (·.1)=(iq K.B.NM K.B.rs).map (fileOf s.src (s.rd.map (·.1))):=fun e hl=>by
  have hn:s.src.Nodup:=by rw[e];exact(pA _).1.nodup
  have:=Ce s.src (s.rd.map (·.1)) hn (by simpa using hl);rw[<- e];exact this
 obtain⟨lo,F,hF⟩:∃(lo:Nat) (F:dm),s.phase=2\/s.phase=3->s.fd=some (lo,F):=by
  by_cases hp:s.phase=2\/s.phase=3
  ·obtain⟨lo,F,e⟩:=hs.fd hp;exact⟨lo,F,fun _=>e⟩
  ·exact⟨0,⟨[],0,0,fun _=>0,.slice none 0 0⟩,fun q=>absurd q hp⟩
 refine(Yy h lo F _ pU hF (fun h2 hl=>ach (hs.src (.inl h2)) hl) (fun h3=>⟨hs.full h3,ach (hs.src (.inr h3)) (hs.full h3)⟩)).mono ?_;rintro v o' w' ⟨s',lab',hw,hk,hS⟩;exact⟨s',lab',F,fun q=>⟨lo,hF q⟩,hw,hs.work hw,hk,hS⟩
end
section
open Go.RowKit (intOf)
theorem FC(w:ae):Calls ar 60 #[] w fun e w'=>e=.returned (.pointer (some ⟨w.heap.size+2,0,none⟩))/\w'=((w.alloc (.map #[] 0)).alloc (.map #[] 0)).alloc (.cells #[.map (some w.heap.size),.map (some (w.heap.size+1))] 164):=by
 have LV:∀(t:TypeId) (w:ae),(Instr.makeMap t none).run ar w=.ok (.map (some w.heap.size)) (w.alloc (.map #[] 0)):=fun t w=>rfl;go_enter func60,ntmps60;go_wp2;go_ret;exact⟨rfl,rfl⟩
section
variable {Fin:bH} {o o':aM} {w w':ae}
structure Hand(o:aM)(w:ae)(p:Option Addr)(b c:Nat)(rs:List aL)(NM:aL->List ah)(NB:aL->Nat)(RK:ah->Nat):Prop where
 gT:rs.length<=8
 ptr:rs≠[]->p=some ⟨b,0,none⟩/\o b
 nil:p=none->rs=[]
 at_:dX w b rs
 cl:Cl ar L0 o (.slice p rs.length c)
 cap:rs.length<=c
 nm:∀r∈rs,r.sl=(NM r).length/\(NM r≠[]->r.sa=some ⟨NB r,0,none⟩/\o (NB r))/\dP w (NB r) 0 (NM r)/\(NM r).length<=4
 nmn:∀r∈rs,r.sa=none->NM r=[]
 yes:Cc rs NM RK
 low:∀r∈rs,RK r.out<rs.length
theorem Hand.rin{p:Option Addr}{b c:Nat}{rs:List aL}{NM:aL->List ah}{NB:aL->Nat}{RK:ah->Nat}{wl:ae}(h:Hand o w p b c rs NM NB RK)(hF:bE ar L0 o w)(hz:wl.heap.size=w.heap.size)(aE:∀b,o b->wl.heap[b]?=w.heap[b]?):oK wl p b rs NM NB:=by
 refine⟨h.gT,fun q=>⟨(h.ptr q).1,by rw[hz];exact hF.lt (h.ptr q).2⟩,fun i hi=>?_,fun r hr=>⟨(h.nm r hr).1,fun q=>⟨((h.nm r hr).2.1 q).1,by rw[hz];exact hF.lt ((h.nm r hr).2.1 q).2⟩,fun k hk=>?_,(h.nm r hr).2.2.2⟩⟩
 ·exact gp h.at_ (aE b (h.ptr (fun q=>by rw[q] at hi;simp at hi)).2) i hi
 ·exact cI (h.nm r hr).2.2.1 (aE _ ((h.nm r hr).2.1 (fun q=>by rw[q] at hk;simp at hk)).2) k hk
theorem UX{p:Option Addr}{b c:Nat}{rs:List aL}{NM:aL->List ah}{NB:aL->Nat}{RK:ah->Nat}(hF:bE ar L0 o w)(h:Hand o w p b c rs NM NB RK):
  bp ar (XB ar Fin 0) 39 #[.slice p rs.length c] o w fun v o' w'=>v=.tuple #[.int .i64 0,.int .i64 0]/\fw o w v o' w':=by
 refine bp.mono (dS af hF (fun y hy=>by simp at hy;subst hy;exact h.cl) (Q:=fun wl v w'=>v=.tuple #[.int .i64 0,.int .i64 0]) (fun wl Ai v w1 w2 e1 e2 h=>h) (fun wl hz aE=>?_)) (fun v o' w' hq=>?_)
 ·refine(OF p b c rs NM NB RK wl (h.rin hF hz aE) h.yes h.cap).mono fun e w' hq=>?_;obtain⟨rfl,h1,h2⟩:=hq;exact⟨_,rfl,h2,fun b hb=>h1.block b hb,rfl⟩
 ·obtain⟨hN,wl,aI,-,-,-,h1⟩:=hq;exact⟨h1,hN⟩
theorem xo{w1 w2:ae}{b off:Nat}(e:w2.heap[b]?=w1.heap[b]?):w2.cell? ⟨b,off,none⟩=w1.cell? ⟨b,off,none⟩:=World.cell?_of_block (w:=w1) (w':=w2) (a:=⟨b,off,none⟩) e
theorem YD{p:Option Addr}{b c:Nat}{rs:List aL}{NM:aL->List ah}{NB:aL->Nat}{RK:ah->Nat}(hF:bE ar L0 o w)(h:Hand o w p b c rs NM NB RK):
  bp ar (XB ar Fin 0) 41 #[.slice p rs.length c] o w fun v o' w'=>fw o w v o' w'/\Ld w.heap.size rs NM v w':=by
 refine bp.mono (dS af hF (fun y hy=>by simp at hy;subst hy;exact h.cl) (Q:=fun wl v w'=>Ld wl.heap.size rs NM v w') (fun wl Ai v w1 w2 e1 e2 h=>?_) (fun wl hz aE=>?_)) (fun v o' w' hq=>?_)
 ·rw[e1];obtain⟨bb,Rb,Ru,c,p',f,h1,h2,h3,h4,h5,h6,h7,h8⟩:=h.ex;refine⟨bb,Rb,Ru,c,p',f,h1,h2,h3,by rw[e2];exact h4,h5,fun i hi=>?_,by rw[e2];exact h7,h8.of_block (by rw[e2])⟩;obtain⟨k1,k2,k3,k4⟩:=h6 i hi;exact⟨(xo (by rw[e2])).trans k1,(xo (by rw[e2])).trans k2,(xo (by rw[e2])).trans k3,k4.keep (ag _) fun g _ _=>by rw[e2]⟩
 ·refine(RN p b c rs NM NB wl (h.rin hF hz aE) h.nil h.nmn).mono fun e w' hq=>?_;obtain⟨v,rfl,h1,h2,h3⟩:=hq;exact⟨_,rfl,h2,fun b hb=>h1.block b hb,h3⟩
 ·obtain⟨hN,wl,aI,z1,z2,hs,h3⟩:=hq;refine⟨hN,?_⟩;rw[z1] at h3;obtain⟨bb,Rb,Ru,c,p',f,h1,h2,h3,h4,h5,h6,h7,h8⟩:=h3.ex;refine⟨bb,Rb,Ru,c,p',f,h1,h2,h3,aa,h5,fun i hi=>?_,(hs bb aa aa).trans h7,h8.of_block (hs Rb h2 aa)⟩;obtain⟨k1,k2,k3,k4⟩:=h6 i hi;have xz:w.heap.size<=Ru/\Ru<Rb:=by
   rcases h5 with⟨-,e⟩|⟨-,q1,q2⟩
   ·rw[e] at hi;simp at hi
   ·exact⟨q1,q2⟩
  have e:=hs Ru xz.1 aa;exact⟨(xo e).trans k1,(xo e).trans k2,(xo e).trans k3,k4.keep (ag _) fun g g1 g2=>hs g aa aa⟩
theorem Le(hF:bE ar L0 o w):
  bp ar (XB ar Fin 0) 60 #[] o w fun v o' w'=>fw o w v o' w'/\v=.pointer (some ⟨w.heap.size+2,0,none⟩)/\w'.heap.size=w.heap.size+3/\w'.heap[w.heap.size]?=some (.map #[] 0)/\w'.heap[w.heap.size+1]?=some (.map #[] 0)/\w'.heap[w.heap.size+2]?=some (.cells #[.map (some w.heap.size),.map (some (w.heap.size+1))] 164):=by
 refine bp.mono (dS af hF (fun y hy=>by simp at hy) (Q:=fun wl v w'=>v=.pointer (some ⟨wl.heap.size+2,0,none⟩)/\w'.heap.size=wl.heap.size+3/\w'.heap[wl.heap.size]?=some (.map #[] 0)/\w'.heap[wl.heap.size+1]?=some (.map #[] 0)/\w'.heap[wl.heap.size+2]?=some (.cells #[.map (some wl.heap.size),.map (some (wl.heap.size+1))] 164)) (fun wl Ai v w1 w2 e1 e2 h=>?_) (fun wl hz aE=>?_)) (fun v o' w' hq=>?_)
 ·rw[e1,e2];exact h
 ·refine(FC wl).mono fun e w' hq=>?_;obtain⟨rfl,rfl⟩:=hq;refine⟨_,rfl,eR,fun b hb=>?_,rfl,an,?_,?_,?_⟩
  ·rw[alloc_old _ _ _ eR,alloc_old _ _ _ eR,alloc_old _ _ _ hb]
  ·rw[alloc_old _ _ _ eR,alloc_old _ _ _ an,jR]
  ·rw[alloc_old _ _ _ an];exact heap_alloc2_new _ _ _
  ·have:=jR ((wl.alloc (.map #[] 0)).alloc (.map #[] 0)) (.cells #[.map (some wl.heap.size),.map (some (wl.heap.size+1))] 164);simpa using this
 ·obtain⟨hN,wl,aI,z1,z2,hs,rfl,h2,h3,h4,h5⟩:=hq;rw[z1] at h2 h3 h4 h5 hN |-;exact⟨hN,rfl,aa,(hs _ aa aa).trans h3,(hs _ aa aa).trans h4,(hs _ aa aa).trans h5⟩
end
end
def ZF:Value->Option Addr
 | .slice a _ _=>a
 |_=>none
def slL:Value->Nat
 | .slice _ l _=>l
 |_=>0
def slC:Value->Nat
 | .slice _ _ c=>c
 |_=>0
def Mo(rs:List aL)(f:Nat->Value)(i:Nat):aL:=⟨((rs[i]?).map (·.out)).getD aN,((rs[i]?).map (·.eD)).getD 0,ZF (f i),slL (f i),slC (f i)⟩
def jq(rs:List aL)(f:Nat->Value):List aL:=(List.range rs.length).map (Mo rs f)
theorem rL(rs:List aL)(f:Nat->Value):(jq rs f).length=rs.length:=by simp[jq]
theorem oM(rs:List aL)(f:Nat->Value)(i:Nat)(h:i<rs.length)(h':i<(jq rs f).length):(jq rs f)[i]=⟨rs[i].out,rs[i].eD,ZF (f i),slL (f i),slC (f i)⟩:=by simp[jq,Mo,h]
theorem qd(rs:List aL)(f:Nat->Value):(jq rs f).map (·.out)=rs.map (·.out):=by
 apply List.ext_getElem
 ·simp[rL]
 ·intro i h1 h2;have hi:i<rs.length:=by simpa using h2
  simp[oM rs f i hi]
theorem oN{rs:List aL}{f:Nat->Value}{r:aL}(h:r∈jq rs f):∃i,∃hi:i<rs.length,r=⟨rs[i].out,rs[i].eD,ZF (f i),slL (f i),slC (f i)⟩:=by
 obtain⟨i,hi,rfl⟩:=a8 h;have lQ:i<rs.length:=by rw[<- rL rs f];exact hi
 exact⟨i,lQ,oM rs f i lQ hi⟩
def Di:List aL->(aL->List ah)->ah->List ah
 | [],_,_=>[]
 |r::l,NM,x=>if r.out=x then NM r else Di l NM x
theorem Mp{NM:aL->List ah}:∀{rs:List aL},(rs.map (·.out)).Nodup->∀r∈rs,Di rs NM r.out=NM r
 | [],_,r,h=>by simp at h
 |q::l,hn,r,h=>by
  rw[bU,cS] at hn;unfold Di;rcases List.mem_cons.1 h with rfl|h
  ·rw[if_pos rfl]
  ·rw[if_neg (fun e=>hn.1 (by rw[e];exact List.mem_map.2 ⟨r,h,rfl⟩)),Mp hn.2 r h]
structure tX(rs:List aL)(NM:aL->List ah)(RK:ah->Nat)(B:zf):Prop where
 len:B.rs.length=rs.length
 at_:∀i (h:i<rs.length) (h':i<B.rs.length),B.rs[i].out=rs[i].out/\B.rs[i].eD=rs[i].eD/\B.NM B.rs[i]=NM rs[i]
 outs:B.rs.map (·.out)=rs.map (·.out)
 rk:B.RK=RK
section
variable {Fin:bH} {o o':aM} {w w':ae}
theorem IN{lo:Nat}{rs:List aL}{NM:aL->List ah}{RK:ah->Nat}{v:Value}(hF:bE ar L0 o' w')(uL:4<=lo)(own:∀b,lo<=b->b<w'.heap.size->o' b)(gT:rs.length<=8)(yes:Cc rs NM RK)(low:∀r∈rs,RK r.out<rs.length)(four:∀r∈rs,(NM r).length<=4)(pow:jB w')(N:Ld lo rs NM v w'):
  ∃B:zf,v=.pointer (some ⟨B.bb,0,none⟩)/\fq o' w' B none (fun _=>none)/\tX rs NM RK B/\(∀b,mB B none (fun _=>none) b->b=1\/(lo<=b/\b<=B.bb))/\lo<=B.bb/\B.bb<w'.heap.size:=by
 obtain⟨bb,Rb,Ru0,c,p',f,h1,h2,h3,h4,h5,h6,h7,h8⟩:=N.ex;have o1:o' 1:=hF.jF 1 (by rw[show ar.globals.size=4 by kernel_rfl];omega);obtain⟨Ru,hp,xz,h6⟩:∃Ru,((p'=none/\rs=[])\/p'=some ⟨Ru,0,none⟩)/\(Ru=1\/(lo<=Ru/\Ru<Rb))/\∀i (h:i<rs.length),w'.cell? ⟨Ru,i*3,none⟩=some (.string rs[i].out)/\w'.cell? ⟨Ru,i*3+1,none⟩=some (.int .i64 rs[i].eD)/\w'.cell? ⟨Ru,i*3+2,none⟩=some (f i)/\(lo<=Ru/\tB Ru Rb (f i) (NM rs[i]) w'):=by
  rcases h5 with⟨e1,e2⟩|⟨e1,e2,e3⟩
  ·exact⟨1,.inl ⟨e1,e2⟩,.inl rfl,fun i hi=>by rw[e2] at hi;simp at hi⟩
  ·exact⟨Ru0,.inr e1,.inr ⟨e2,e3⟩,fun i hi=>⟨(h6 i hi).1,(h6 i hi).2.1,(h6 i hi).2.2.1,e2,(h6 i hi).2.2.2⟩⟩
 have oRu:o' Ru:=by
  rcases xz with rfl|q
  ·exact o1
  ·exact own Ru q.1 aa
 have hlen:=rL rs f;have xV:∀i (hi:i<rs.length),Di rs NM rs[i].out=NM rs[i]:=fun i hi=>Mp yes.nodup _ (aD hi);have Fl:∀i (hi:i<rs.length),f i=.slice (ZF (f i)) (slL (f i)) (slC (f i))/\slL (f i)=(NM rs[i]).length/\((ZF (f i)=none/\NM rs[i]=[])\/∃g,ZF (f i)=some ⟨g,0,none⟩/\lo<=g/\g<Rb/\dP w' g 0 (NM rs[i])):=fun i hi=>by
  obtain⟨-,-,-,k1,k2⟩:=h6 i hi;rcases k2 with⟨e1,e2⟩|⟨g,cap,e1,e2,e3,e4⟩
  ·rw[e1,e2];exact⟨rfl,rfl,.inl ⟨rfl,rfl⟩⟩
  ·rw[e1];exact⟨rfl,rfl,.inr ⟨g,rfl,aa,e3,e4⟩⟩
 have hR:mQ (jq rs f) (fun r=>Di rs NM r.out) RK:=by
  refine⟨by rw[qd];exact yes.nodup,fun r hr=>?_,fun r hr x hx ho=>?_,fun r hr=>?_,fun r hr=>?_⟩;all_goals obtain⟨i,hi,rfl⟩:=oN hr
  ·rw[hlen];exact low rs[i] (aD hi)
  ·simp only[xV i hi] at hx;rw[qd] at ho;exact yes.Ig _ (aD hi) x hx ho
  ·exact yes.eD rs[i] (aD hi)
  ·simp only[xV i hi];exact four _ (aD hi)
 have EK:∀r∈jq rs f,Di rs NM r.out≠[]->lo<=(r.sa.map (·.block)).getD 0/\(r.sa.map (·.block)).getD 0<Rb:=fun r hr cV=>by
  obtain⟨i,hi,rfl⟩:=oN hr;simp only[xV i hi] at cV;obtain⟨-,-,q⟩:=Fl i hi;rcases q with⟨-,q⟩|⟨g,q,q1,q2,-⟩
  ·exact absurd q cV
  ·simp only[q,cR,y7];exact⟨q1,q2⟩
 have hOK:kQ o' w' p' Ru c (jq rs f) (fun r=>Di rs NM r.out) (fun r=>(r.sa.map (·.block)).getD 0):=by
  refine⟨aa,fun cV=>?_,oRu,fun i hi=>?_,fun r hr=>?_,?_,fun r hr=>?_⟩
  ·rcases hp with⟨-,e⟩|e
   ·exact absurd (by subst e;rfl) cV
   ·exact e
  ·have lQ:i<rs.length:=aa;obtain⟨k0,k1,k2,-⟩:=h6 i lQ;rw[oM rs f i lQ hi];refine⟨k0,k1,?_⟩;rw[k2];exact congrArg some (Fl i lQ).1
  ·obtain⟨i,hi,rfl⟩:=oN hr;obtain⟨-,-,q⟩:=Fl i hi;rcases q with⟨q,-⟩|⟨g,q,q1,q2,-⟩
   ·simp only[q];exact gS
   ·simp only[q];exact di (own g q1 aa)
  ·rcases hp with⟨e,-⟩|e
   ·rw[e];exact gS
   ·rw[e];exact di oRu
  ·obtain⟨i,hi,rfl⟩:=oN hr;obtain⟨-,q0,q⟩:=Fl i hi;simp only[xV i hi];refine⟨q0,fun cV=>?_,?_,four _ (aD hi)⟩
   ·rcases q with⟨-,q⟩|⟨g,q,q1,q2,-⟩
    ·exact absurd q cV
    ·simp only[q,cR,y7];exact⟨trivial,own g q1 aa⟩
   ·rcases q with⟨-,q⟩|⟨g,q,q1,q2,q3⟩
    ·rw[q];exact fun k hk=>by simp at hk
    ·simp only[q,cR,y7];exact q3
 obtain⟨cs,r1,r2,r3⟩:=h8;have cm:∀s,s<rs.length->∀j,j<4->w'.cell? ⟨Rb,s*4+j,none⟩=some (rK (s*4+j)):=fun s hs j hj=>World.rowIs.cell (b:=Rb) ⟨cs,r1,r2,r3⟩ (show s*4+j<rs.length*4 by omega);refine⟨⟨bb,p',Ru,c,Rb,jq rs f,fun r=>Di rs NM r.out,fun r=>(r.sa.map (·.block)).getD 0,RK⟩,h1,⟨fun b hb=>?_,hR,hOK,?_,⟨_,_,_,by simp only[hlen];exact h7,(fun lo F e=>by cases e)⟩,(fun lo F e=>by cases e),fun _ _ _=>rfl,⟨cs,r1,by rw[r2,hlen]⟩,fun s hs r _=>?_,(fun s b vs _ e=>by cases e),pow⟩,⟨hlen,fun i h h'=>?_,qd rs f,rfl⟩,fun b hb=>?_,by simp only;omega,h4⟩
 ·rcases hb with rfl|rfl|rfl|rfl|⟨r,hr,q1,rfl⟩|⟨lo,F,q,-⟩|⟨s,vs,-,q⟩
  ·exact own _ aa h4
  ·exact oRu
  ·exact own _ h2 aa
  ·exact o1
  ·obtain⟨k1,k2⟩:=EK r hr q1;exact own _ k1 (jN k2 aa)
  ·cases q
  ·cases q
 ·show Ru≠bb/\Rb≠bb/\(∀r∈jq rs f,Di rs NM r.out≠[]->(r.sa.map (·.block)).getD 0≠bb)/\4<=Rb/\4<=bb/\Ru≠Rb/\(∀r∈jq rs f,Di rs NM r.out≠[]->(r.sa.map (·.block)).getD 0≠Rb);refine⟨aa,aa,fun r hr q=>?_,aa,aa,aa,fun r hr q=>?_⟩
  ·have:=EK r hr q;omega
  ·have:=EK r hr q;omega
 ·simp only[hlen] at hs;have e0:s*4%4=0:=aa;have e1:(s*4+1)%4=1:=aa;have e2:(s*4+2)%4=2:=aa;have e3:(s*4+3)%4=3:=aa;refine⟨?_,?_,?_,?_⟩
  ·have:=cm s hs 0 aa;simpa[rK,e0] using this
  ·have:=cm s hs 1 aa;simpa[rK,e1] using this
  ·have:=cm s hs 2 aa;simpa[rK,e2] using this
  ·have:=cm s hs 3 aa;simpa[rK,e3] using this
 ·simp only[oM rs f i h h',xV i h];exact⟨trivial,trivial,trivial⟩
 ·rcases hb with rfl|rfl|rfl|rfl|⟨r,hr,q1,rfl⟩|⟨lo,F,q,-⟩|⟨s,vs,-,q⟩
  ·exact .inr ⟨jO (Nat.lt_of_le_of_lt h2 h3),ag _⟩
  ·rcases xz with e|q
   ·exact .inl e
   ·exact .inr ⟨q.1,jO (jN q.2 h3)⟩
  ·exact .inr ⟨h2,jO h3⟩
  ·exact .inl rfl
  ·obtain⟨k1,k2⟩:=EK r hr q1;exact .inr ⟨k1,jO (jN k2 h3)⟩
  ·cases q
  ·cases q
end
def s0(pb:Nat):kT where
 fd:=none
 old:=fun _=>none
 th:=[]
 st:=[]
 qv:=.slice none 0 0
 qn:=[]
 lost:=false
 time:=0
 phase:=0
 since:=0
 sv:=.slice none 0 0
 src:=[]
 rv:=.slice none 0 0
 rd:=[]
 ck:=0
 pb:=pb
 num:=0
 kW:=.slice none 0 0
 res:=[]
 mz:=.slice none 0 0
 ku:=[]
theorem RQ(K:sj)(pb:Nat):Sound K (s0 pb):=⟨by simp[s0],by simp[s0],by simp[s0],fun _=>⟨rfl,rfl,rfl⟩,by simp[s0],by simp[s0],by simp[s0],by simp[s0],by simp[s0],by simp[s0]⟩
section
variable {Fin:bH} {o o':aM} {w w':ae}
theorem Ld.keep{lo:Nat}{rs:List aL}{NM:aL->List ah}{v:Value}{w w':ae}(h:Ld lo rs NM v w)(hz:w.heap.size<=w'.heap.size)(e:∀b,lo<=b->b<w.heap.size->w'.heap[b]?=w.heap[b]?):Ld lo rs NM v w':=by
 obtain⟨bb,Rb,Ru,c,p',f,h1,h2,h3,h4,h5,h6,h7,h8⟩:=h.ex;refine⟨bb,Rb,Ru,c,p',f,h1,h2,h3,aa,h5,fun i hi=>?_,(e bb aa h4).trans h7,h8.of_block (e Rb h2 aa)⟩;obtain⟨k1,k2,k3,k4⟩:=h6 i hi;have xz:lo<=Ru/\Ru<Rb:=by
  rcases h5 with⟨-,e⟩|⟨-,q1,q2⟩
  ·rw[e] at hi;simp at hi
  ·exact⟨q1,q2⟩
 have e':=e Ru xz.1 aa;exact⟨(xo e').trans k1,(xo e').trans k2,(xo e').trans k3,k4.keep (ag _) fun g g1 g2=>e g aa aa⟩
def OI(lo bb mT kb pb b:Nat):Nat:=if b=kb then 0 else if b=pb then 6 else if mT<=b/\b<=mT+2 then 2 else if b=1 then 8 else if lo<=b/\b<=bb then 1 else 7
theorem Lg{lo mT kb pb:Nat}{B:zf}(hF:bE ar L0 o' w')(hB:fq o' w' B none (fun _=>none))(zp:∀b,mB B none (fun _=>none) b->b=1\/(lo<=b/\b<=B.bb))(uL:4<=lo)(h1:B.bb<mT)(hlb:lo<=B.bb)(h2:mT+2<kb)(h3:kb<pb)(own:∀b,lo<=b->b<w'.heap.size->o' b)(hpb:pb<w'.heap.size)(m1:w'.heap[mT]?=some (.map #[] 0))(m2:w'.heap[mT+1]?=some (.map #[] 0))(m3:w'.heap[mT+2]?=some (.cells #[.map (some mT),.map (some (mT+1))] 164))(hk:w'.heap[kb]?=some (.cells #[.int .i32 0,.int .u32 0,.pointer (some ⟨B.bb,0,none⟩),.pointer (some ⟨mT+2,0,none⟩),.slice none 0 0,.bool false,.int .i64 0,.int .i64 0,.int .i64 0,.slice none 0 0,.slice none 0 0,.int .i64 0,.pointer (some ⟨pb,0,none⟩)] 120))(hp:w'.heap[pb]?=some (.cells #[.int .i64 0,.slice none 0 0,.slice none 0 0] 59)):
  bg o' w' ⟨B,kb,mT+2,mT,mT+1⟩ (s0 pb) 0 (OI lo B.bb mT kb pb):=by
 refine⟨hF,⟨_,hk,rfl,fun j hj=>?_⟩,own kb aa aa,hB,⟨m3,⟨#[],0,m1,rfl⟩,⟨#[],0,m2,rfl⟩,⟨own (mT+2) aa aa,own mT aa aa,own (mT+1) aa aa⟩,show mT+2≠mT/\mT+2≠mT+1/\mT≠mT+1 by omega⟩,?_,⟨⟨none,0,0,rfl,fun _=>rfl,fun q=>absurd rfl q,fun k hk=>by simp[s0] at hk⟩,gS,by simp[s0]⟩,⟨⟨0,aQ _,rfl,.inl ⟨rfl,rfl⟩⟩,gS,by simp[s0]⟩,⟨hp,own pb aa hpb,⟨none,0,0,rfl,fun _=>rfl,fun q=>absurd rfl q,fun i hi=>by simp[s0] at hi⟩,gS,by simp[s0],⟨⟨none,0,0,rfl,fun _=>rfl,fun q=>absurd rfl q,fun k hk=>by simp[s0] at hk⟩,gS,by simp[s0]⟩⟩,?_,fun b hb=>?_,fun b hb=>?_,(fun b hb=>by cases hb),(fun b hb=>by cases hb),(fun b hb=>by cases hb),fun b hb=>?_,by simp[s0]⟩
 ·rcases mm hj with rfl|rfl|rfl|rfl|rfl|rfl|rfl|rfl|rfl|rfl|rfl|rfl|rfl<;>rfl
 ·exact⟨⟨0,aQ _,rfl,.inl ⟨rfl,rfl⟩⟩,gS⟩
 ·simp[OI]
 ·have:=zp b hb;simp only[OI];rw[if_neg aa,if_neg aa,if_neg aa];unfold KY;by_cases e:b=1
  ·rw[if_pos e,if_pos e]
  ·rw[if_neg e,if_neg e,if_pos (this.resolve_left e)]
 ·have:mT<=b/\b<=mT+2:=by simp only at hb;omega
  simp only[OI];rw[if_neg aa,if_neg aa,if_pos this]
 ·rcases hb with hb|hb|hb
  ·have:b=pb:=hb;subst this;simp only[OI];rw[if_neg aa,if_pos trivial]
  ·cases hb
  ·cases hb
theorem Wn{p:Option Addr}{b c:Nat}{rs:List aL}{NM:aL->List ah}{NB:aL->Nat}{RK:ah->Nat}(hF:bE ar L0 o w)(h:Hand o w p b c rs NM NB RK)(pow:jB w):
  bp ar (XB ar Fin 0) 34 #[.slice p rs.length c] o w fun v o' w'=>∃K pb lab,v=.tuple #[.pointer (some ⟨K.kb,0,none⟩),.int .i64 0]/\bg o' w' K (s0 pb) 0 lab/\bu (fun _=>False) o w o' w'/\tX rs NM RK K.B/\(∀b,b<w.heap.size->7<=lab b/\(b≠1->lab b=7))/\w.heap.size<=K.kb:=by
 have W:=bJ (P:=ar) (Fin:=Fin) (d:=0);have g4:ar.globals.size=4:=af;refine bA W func34 ai ?_;walk_nrmf Tryz.f34;refine aA ?_;refine aF W rfl ai rfl func39 af rfl aC rfl ((UX hF h).mono ?_);rintro v1 o1 w1 ⟨rfl,N1⟩;have W1:bu (fun _=>False) o w o1 w1:=bu.dL N1;have hz:=hF.size;have h1:Hand o1 w1 p b c rs NM NB RK:=by
  refine⟨h.gT,fun q=>⟨(h.ptr q).1,W1.more _ (h.ptr q).2⟩,h.nil,fun i hi=>?_,h.cl.up W1.more,h.cap,fun r hr=>⟨(h.nm r hr).1,fun q=>⟨((h.nm r hr).2.1 q).1,W1.more _ ((h.nm r hr).2.1 q).2⟩,fun k hk=>?_,(h.nm r hr).2.2.2⟩,h.nmn,h.yes,h.low⟩
  ·exact gp h.at_ (N1.old _ (hF.lt (h.ptr (fun q=>by rw[q] at hi;simp at hi)).2)) i hi
  ·exact cI (h.nm r hr).2.2.1 (N1.old _ (hF.lt ((h.nm r hr).2.1 (fun q=>by rw[q] at hk;simp at hk)).2)) k hk
 refine aA ?_;refine aF W rfl ai rfl func41 af rfl aC rfl ((YD N1.ay h1).mono ?_);rintro v2 o2 w2 ⟨N2,B2⟩;have W2:bu (fun _=>False) o1 w1 o2 w2:=bu.dL N2;obtain⟨bb,tt,Uf,I2⟩:∃bb,w1.heap.size<=bb/\bb<w2.heap.size/\v2=.pointer (some ⟨bb,0,none⟩):=by
  obtain⟨bb,Rb,Ru,c,p',f,h1,h2,h3,h4,-⟩:=B2.ex;exact⟨bb,aa,h4,h1⟩
 subst I2;have obb:o2 bb:=by rw[N2.own];exact .inr ⟨tt,Uf⟩
 refine aA ?_;refine aF W rfl ai rfl func60 af rfl aC rfl ((Le N2.ay).mono ?_);rintro v3 o3 w3 ⟨N3,rfl,z3,m1,m2,m3⟩;have W3:bu (fun _=>False) o2 w2 o3 w3:=bu.dL N3;have ofb:o3 (w2.heap.size+2):=by rw[N3.own];exact .inr ⟨aa,aa⟩
 have agB:∀b,w1.heap.size<=b->b<w3.heap.size->o3 b:=fun b q1 q2=>by
  by_cases q:b<w2.heap.size
  ·exact W3.more _ (by rw[N2.own];exact .inr ⟨q1,q⟩)
  ·rw[N3.own];exact .inr ⟨aa,q2⟩
 have B3:=B2.keep W3.size fun b q1 q2=>N3.old b q2;have ana:bb<w2.heap.size:=Uf;generalize w2.heap.size=mT at *;refine aA ?_;refine cq aX N3.ay rfl ai ai ?_ rfl (R:=fun wl v aI=>v=.pointer (some ⟨wl.heap.size,0,none⟩)/\aI=wl.alloc (Obj.cells #[.int .i32 0,.int .u32 0,.pointer (some ⟨bb,0,none⟩),.pointer (some ⟨mT+2,0,none⟩),.slice none 0 0,.bool false,.int .i64 0,.int .i64 0,.int .i64 0,.slice none 0 0,.slice none 0 0,.int .i64 0,.pointer none] 120)) (fun wl aE=>⟨_,_,by first|(simp[go_sem];done)|(simp[go_sem];rfl),rfl,rfl⟩) fun wl v1 aI w4 aE hR ba=>?_
 ·refine cj ?_;refine cJ (vs:=[_,_,_,_,_,_,_,_,_,_,_,_,_]) (fun x hx=>?_);simp at hx;rcases hx with rfl|rfl|rfl|rfl|rfl|rfl|rfl|rfl|rfl|rfl;all_goals first|exact bN|exact gS|exact kn|exact Aa|exact aH ofb|exact aH (W3.more _ obb)
 obtain⟨rfl,hR⟩:=hR;obtain⟨z4,k4,si⟩:=ba.alloc N3.ay aE hR;obtain⟨W4,hK4⟩:=bu.mn ba.ay z4 k4;rw[aE.size];have agC:∀b,w1.heap.size<=b->b<w4.heap.size->grow o3 w3 w4 b:=fun b q1 q2=>by
  by_cases q:b<w3.heap.size
  ·exact W4.more _ (agB b q1 q)
  ·exact .inr ⟨aa,q2⟩
 clear hR ba aE wl aI;generalize grow o3 w3 w4=o4 at *;refine aA ?_;refine cq aX W4.ay rfl ai ai ?_ rfl (R:=fun wl v aI=>v=.pointer (some ⟨wl.heap.size,0,none⟩)/\aI=wl.alloc (Obj.cells #[.int .i64 0,.slice none 0 0,.slice none 0 0] 59)) (fun wl aE=>⟨_,_,by first|(simp[go_sem];done)|(simp[go_sem];rfl),rfl,rfl⟩) fun wl v1 aI w5 aE hR ba=>?_
 ·refine cj ?_;refine cJ (vs:=[_,_,_]) (fun x hx=>?_);simp at hx;rcases hx with rfl|rfl;all_goals first|exact bN|exact gS
 obtain⟨rfl,hR⟩:=hR;obtain⟨z5,k5,Jj⟩:=ba.alloc W4.ay aE hR;obtain⟨W5,hP5⟩:=bu.mn ba.ay z5 k5;rw[aE.size];have acj:∀b,w1.heap.size<=b->b<w5.heap.size->grow o4 w4 w5 b:=fun b q1 q2=>by
  by_cases q:b<w4.heap.size
  ·exact W5.more _ (agC b q1 q)
  ·exact .inr ⟨aa,q2⟩
 clear hR ba aE wl aI;generalize grow o4 w4 w5=o5 at *;have kk5:=(k5 w3.heap.size aa).trans si;have z45:w3.heap.size<w4.heap.size:=aa;refine aA ?_;refine aF W rfl ai rfl func61 af rfl aC rfl ((BS w3.heap.size 12 w4.heap.size _ _ _ (.pointer none) (by simp[World.cell?,kk5]) (by simp[World.frozen?,kk5]) Jj).mono ?_);rintro v6 o6 w6 ⟨rfl,rfl,rfl⟩;have RG:=fW w5 w3.heap.size 12 (.pointer (some ⟨w4.heap.size,0,none⟩));have kk6:(w5.setCell ⟨w3.heap.size,12,none⟩ (.pointer (some ⟨w4.heap.size,0,none⟩))).heap[w3.heap.size]?=some (.cells #[.int .i32 0,.int .u32 0,.pointer (some ⟨bb,0,none⟩),.pointer (some ⟨mT+2,0,none⟩),.slice none 0 0,.bool false,.int .i64 0,.int .i64 0,.int .i64 0,.slice none 0 0,.slice none 0 0,.int .i64 0,.pointer (some ⟨w4.heap.size,0,none⟩)] 120):=by
  simp[World.setCell,er,kk5]
 have C3:bE ar L0 o6 (w5.setCell ⟨w3.heap.size,12,none⟩ (.pointer (some ⟨w4.heap.size,0,none⟩))):=Go.Conc.bE.setCell W5.ay (aH hP5);generalize w5.setCell ⟨w3.heap.size,12,none⟩ (.pointer (some ⟨w4.heap.size,0,none⟩))=w6 at *;have z6:=RG.1;have z12:=W1.size;have z21:=W2.size;have z32:=W3.size;have m16:=((RG.2 mT aa).trans ((k5 mT aa).trans (k4 mT aa))).trans m1;have m26:=((RG.2 (mT+1) aa).trans ((k5 (mT+1) aa).trans (k4 (mT+1) aa))).trans m2;have m36:=((RG.2 (mT+2) aa).trans ((k5 (mT+2) aa).trans (k4 (mT+2) aa))).trans m3;have kp6:=(RG.2 w4.heap.size aa).trans Jj;have hold:∀b,b<w3.heap.size->w6.heap[b]?=w3.heap[b]?:=fun b hb=>(RG.2 b aa).trans ((k5 b aa).trans (k4 b hb));have B6:=B3.keep (w':=w6) aa fun b q1 q2=>hold b q2;have o1w:∀b,b<w.heap.size->w6.heap[b]?=w.heap[b]?:=fun b hb=>by rw[hold b aa,N3.old b aa,N2.old b aa,N1.old b hb]
 have agE:jB w6:=fun q hq=>(cell_of (o1w 1 aa)).trans (pow q hq);obtain⟨B,e1,hB,hS,zp,Ag,pE⟩:=IN C3 aa (fun b q1 q2=>acj b q1 aa) h.gT h.yes h.low (fun r hr=>(h.nm r hr).2.2.2) agE B6;have e2:B.bb=bb:=by injection e1 with e1;injection e1 with e1;injection e1 with e1 _ _;exact e1.symm
 rw[<- e2] at kk6;have hk:=Lg (mT:=mT) (kb:=w3.heap.size) (pb:=w4.heap.size) C3 hB zp aa aa Ag aa aa (fun b q1 q2=>acj b q1 aa) aa m16 m26 m36 kk6 kp6;clear B6 B3 B2 hB zp;refine aA ?_;refine⟨.inr trivial,trivial,_,resultsC_tmp2 (t:=2) (u:=3) ai _,_,w4.heap.size,_,by first|(simp[Act.eval];done)|(simp[Act.eval];rfl),hk,⟨C3,fun b hb=>W5.more _ (W4.more _ (W3.more _ (W2.more _ (W1.more _ hb)))),fun b hb=>?_,aa,fun b hb _=>o1w b hb⟩,hS,fun b hb=>?_,by simp only;omega⟩
 ·by_cases q:b<w.heap.size
  ·refine .inl ?_;have a5:=(W5.new b hb).resolve_right aa;have a4:=(W4.new b a5).resolve_right aa;have a3:=(W3.new b a4).resolve_right aa;have a2:=(W2.new b a3).resolve_right aa;exact(W1.new b a2).resolve_right aa
  ·exact .inr aa
 ·simp only[OI];rw[if_neg aa,if_neg aa,if_neg aa];by_cases e:b=1
  ·rw[if_pos e];exact⟨aa,fun q=>absurd e q⟩
  ·rw[if_neg e,if_neg aa];exact⟨ag _,fun _=>rfl⟩
def iG:Array Value:=(je.map Value.string).toArray
theorem FD(hF:bE ar L0 o w):
  bp ar (XB ar Fin 0) 18 #[] o w fun v o' w'=>fw o w v o' w'/\v=.slice (some ⟨w.heap.size,0,none⟩) 6 6/\w'.heap.size=w.heap.size+1/\w'.heap[w.heap.size]?=some (.cells iG 9):=by
 refine bp.mono (dS af hF (fun y hy=>by simp at hy) (Q:=fun wl v w'=>v=.slice (some ⟨wl.heap.size,0,none⟩) 6 6/\w'.heap.size=wl.heap.size+1/\w'.heap[wl.heap.size]?=some (.cells iG 9)) (fun wl Ai v w1 w2 e1 e2 h=>?_) (fun wl hz aE=>?_)) (fun v o' w' hq=>?_)
 ·rw[e1,e2];exact h
 ·refine(OA wl).mono fun e w' hq=>?_;obtain⟨rfl,rfl⟩:=hq;exact⟨_,rfl,an,fun b hb=>alloc_old _ _ _ hb,rfl,an,jR _ _⟩
 ·obtain⟨hN,wl,aI,z1,z2,hs,rfl,h2,h3⟩:=hq;rw[z1] at h2 h3 hN |-;exact⟨hN,rfl,aa,(hs _ aa aa).trans h3⟩
theorem vC(hF:bE ar L0 o w)(c:Int)(n:Nat)(h1:-9223372036854775808<=c)(h2:c<=9223372036854775807)(hn:0<n)(O1:n<=1000):
  bp ar (XB ar Fin 0) 19 #[.int .i64 c,.int .i64 n] o w fun v o' w'=>v=.int .i64 (cW c n:Nat)/\fw o w v o' w':=by
 refine bp.mono (dS af hF (fun y hy=>by simp at hy;rcases hy with rfl|rfl<;>exact bN) (Q:=fun wl v w'=>v=.int .i64 (cW c n:Nat)) (fun wl Ai v w1 w2 e1 e2 h=>h) (fun wl hz aE=>?_)) (fun v o' w' hq=>?_)
 ·refine(IA c n wl h1 h2 hn O1).mono fun e w' hq=>?_;obtain⟨rfl,rfl⟩:=hq;exact⟨_,rfl,ag _,fun _ _=>rfl,rfl⟩
 ·obtain⟨hN,wl,aI,-,-,-,h1⟩:=hq;exact⟨h1,hN⟩
theorem Wo(hF:bE ar L0 o w)(i:Nat)(hi:i<8):
  bp ar (XB ar Fin 0) 15 #[.int .i64 i] o w fun v o' w'=>v=.string (gu i)/\fw o w v o' w':=by
 refine bp.mono (dS af hF (fun y hy=>by simp at hy;subst hy;exact bN) (Q:=fun wl v w'=>v=.string (gu i)) (fun wl Ai v w1 w2 e1 e2 h=>h) (fun wl hz aE=>?_)) (fun v o' w' hq=>?_)
 ·refine(US i hi wl).mono fun e w' hq=>?_;obtain⟨rfl,h1,h2⟩:=hq;exact⟨_,rfl,h2,fun b hb=>h1.block b hb,rfl⟩
 ·obtain⟨hN,wl,aI,-,-,-,h1⟩:=hq;exact⟨h1,hN⟩
theorem UY(hF:bE ar L0 o w)(c:Int)(h1:-9223372036854775808<=c)(h2:c<=9223372036854775807):
  bp ar (XB ar Fin 0) 20 #[.int .i64 c] o w fun v o' w'=>v=.string (qH c)/\fw o w v o' w':=by
 refine bp.mono (dS af hF (fun y hy=>by simp at hy;subst hy;exact bN) (Q:=fun wl v w'=>v=.string (qH c)) (fun wl Ai v w1 w2 e1 e2 h=>h) (fun wl hz aE=>?_)) (fun v o' w' hq=>?_)
 ·refine(OB c wl h1 h2).mono fun e w' hq=>?_;obtain⟨rfl,rfl⟩:=hq;exact⟨_,rfl,ag _,fun _ _=>rfl,rfl⟩
 ·obtain⟨hN,wl,aI,-,-,-,h1⟩:=hq;exact⟨h1,hN⟩
structure qe(o:aM)(w:ae)(fv:Value)(fs:List (ah×ah)):Prop where
 ex:∃p b c,fv=.slice p fs.length c/\(fs≠[]->p=some ⟨b,0,none⟩/\o b)/\tA w b fs
 cl:Cl ar L0 o fv
theorem rM{w w':ae}{b:Nat}{fs:List (ah×ah)}(h:tA w b fs)(e:w'.heap[b]?=w.heap[b]?):tA w' b fs:=fun i hi=>⟨(cell_of e).trans (h i hi).1,(cell_of e).trans (h i hi).2⟩
theorem qe.keep{fv:Value}{fs:List (ah×ah)}(h:qe o w fv fs)(mW:∀b,o b->o' b)(e:∀g,fv.ownBlock=some g->w'.heap[g]?=w.heap[g]?):qe o' w' fv fs:=by
 obtain⟨p,b,c,h1,h2,h3⟩:=h.ex;refine⟨⟨p,b,c,h1,fun q=>⟨(h2 q).1,mW _ (h2 q).2⟩,fun i hi=>?_⟩,h.cl.up mW⟩;have q:fs≠[]:=fun q=>by rw[q] at hi;simp at hi
 exact rM h3 (e b (by rw[h1,(h2 q).1];rfl)) i hi
theorem ack(hF:bE ar L0 o w)(S:Nat)(kv rv fv:Value)(ed:Int)(fs:List (ah×ah))(x:ah)(hS:w.heap[S]?=some (.cells #[kv,rv,fv,.int .i64 ed] 39))(oS:o S)(hf:qe o w fv fs)(hn:fs.length<=1000):
  bp ar (XB ar Fin 0) 35 #[.pointer (some ⟨S,0,none⟩),.string x] o w fun v o' w'=>v=.bool (FB fs x)/\fw o w v o' w':=by
 obtain⟨p,b,c,h1,h2,h3⟩:=hf.ex;refine bp.mono (dS af hF (fun y hy=>by simp at hy;rcases hy with rfl|rfl;exact aH oS;exact bf) (Q:=fun wl v w'=>v=.bool (FB fs x)) (fun wl Ai v w1 w2 e1 e2 h=>h) (fun wl hz aE=>?_)) (fun v o' w' hq=>?_)
 ·refine(UU S b c kv rv ed p fs x wl (by simp[World.cell?,aE S oS,hS,h1]) hn (fun q=>(h2 q).1) (fun k hk=>rM h3 (aE b (h2 (fun e=>by rw[e] at hk;simp at hk)).2) k hk)).mono fun e w' hq=>?_;obtain⟨rfl,rfl⟩:=hq;exact⟨_,rfl,ag _,fun _ _=>rfl,rfl⟩
 ·obtain⟨hN,wl,aI,-,-,-,h1⟩:=hq;exact⟨h1,hN⟩
theorem RR(hF:bE ar L0 o w)(S:Nat)(kv rv fv:Value)(ed:Int)(fs:List (ah×ah))(x t:ah)(there:Bool)(hS:w.heap[S]?=some (.cells #[kv,rv,fv,.int .i64 ed] 39))(oS:o S)(hf:qe o w fv fs)(hn:fs.length<=1000)(cV:fv.ownBlock≠some S):
  bp ar (XB ar Fin 0) 22 #[.pointer (some ⟨S,0,none⟩),.string x,.string t,.bool there] o w fun v o' w'=>v=.tuple #[]/\bu (fun b=>b=S) o w o' w'/\∃zq,w'.heap[S]?=some (.cells #[kv,rv,zq,.int .i64 ed] 39)/\qe o' w' zq (pC fs x t there)/\∀g,zq.ownBlock=some g->w.heap.size<=g:=by
 obtain⟨p,b,c,h1,h2,h3⟩:=hf.ex;refine re aX af hF (Ma (fun y hy=>by simp at hy;rcases hy with rfl|rfl|rfl|rfl;exact aH oS;exact bf;exact bf;exact kn))
  (R:=fun wl v aI=>v=.tuple #[]/\∃zq w2h,wl.heap.size<=w2h.size/\(∀b,b<wl.heap.size->w2h[b]?=wl.heap[b]?)/\(∃w2:ae,w2.heap=w2h/\w2.ownsRow wl.heap.size 44 2 zq (pC fs x t there).length (fi (pC fs x t there))/\aI.heap=(w2.setCell ⟨S,2,none⟩ zq).heap))
  (fun wl v w1 τ d h=>h) (fun wl τ d v w' h=>h) (fun wl hz aE=>?_) ?_
 ·refine(UW S b c p fs x t there wl (by simp[World.cell?,aE S oS,hS,h1]) (by simp[World.frozen?,aE S oS,hS]) (by rw[hz];exact hF.lt oS) hn (fun q=>⟨(h2 q).1,by rw[hz];exact hF.lt (h2 q).2⟩) (fun k hk=>rM h3 (aE b (h2 (fun e=>by rw[e] at hk;simp at hk)).2) k hk)).mono fun e w' hq=>?_;obtain⟨rfl,zq,w2,q1,q2,q3,rfl⟩:=hq;exact⟨_,rfl,rfl,zq,w2.heap,q2,fun b hb=>q1.block b hb,w2,rfl,q3,rfl⟩
 ·rintro wl v aI w' hz aE ⟨rfl,zq,w2h,q1,q2,w2,rfl,q3,q4⟩ B;have hSl:S<wl.heap.size:=by rw[hz];exact hF.lt oS
  have on:=fW w2 S 2 zq;have zz:aI.heap.size=w2.heap.size:=by rw[q4];exact on.1
  have eS:w'.heap[S]?=some (.cells #[kv,rv,zq,.int .i64 ed] 39):=by
   rw[B.same S (.inl oS),q4];have e:w2.heap[S]?=some (.cells #[kv,rv,fv,.int .i64 ed] 39):=(q2 S hSl).trans ((aE S oS).trans hS);simp[World.setCell,er,e]
  have Nc:=yh q3;have hW:bu (fun b=>b=S) o w (grow o w w') w':=by
   refine⟨B.ay,iK,fun b hb=>hb.imp id fun q=>q.1,B.gO,fun b hb hx=>?_⟩;by_cases ho:o b
   ·rw[B.same b (.inl ho),q4,on.2 b hx,q2 b aa,aE b ho]
   ·exact B.rest b hb ho
  have z2:=B.size;refine⟨rfl,hW,zq,eS,⟨?_,?_⟩,fun g hg=>by rw[<- hz];exact Nc g hg⟩
  ·obtain⟨h0,hc⟩:=q3;rcases hc with⟨rfl,e⟩|⟨g,cap,cur,rfl,k1,k2,k3,k4,k5,k6⟩
   ·have OJ:=List.length_eq_zero_iff.1 e;rw[OJ];exact⟨none,0,0,rfl,fun q=>absurd rfl q,fun i hi=>by simp at hi⟩
   ·have QV:g<w2.heap.size:=(Array.getElem?_eq_some_iff.1 k2).1;refine⟨_,g,cap,rfl,fun _=>⟨rfl,.inr ⟨aa,aa⟩⟩,fun i hi=>?_⟩;have eg:w'.heap[g]?=w2.heap[g]?:=by
     rw[B.same g (.inr ⟨aa,aa⟩),q4];exact on.2 g aa
    have own:w2.ownsRow wl.heap.size 44 2 (.slice (some ⟨g,0,none⟩) (pC fs x t there).length cap) (pC fs x t there).length (fi (pC fs x t there)):=⟨h0,.inr ⟨g,cap,cur,rfl,k1,k2,k3,k4,k5,k6⟩⟩;obtain⟨c0,c1⟩:=uY (pC fs x t there) i hi;have kZ:∀j u,(fi (pC fs x t there))[j]?=some u->w2.cell? ⟨g,j,none⟩=some u:=fun j u hu=>by
     have:=own.cells (g:=g) rfl j u hu;have ha:(⟨g,0,none⟩:Addr).add j=⟨g,j,none⟩:=by simp[Addr.add];omega
     rw[ha] at this;exact this
    exact⟨(cell_of eg).trans (kZ _ _ c0),(cell_of eg).trans (kZ _ _ c1)⟩
  ·obtain⟨h0,hc⟩:=q3;rcases hc with⟨rfl,e⟩|⟨g,cap,cur,rfl,k1,k2,k3,k4,k5,k6⟩
   ·exact gS
   ·have QV:g<w2.heap.size:=(Array.getElem?_eq_some_iff.1 k2).1;exact di (.inr ⟨aa,aa⟩)
end
section
variable {Fin:bH} {o o' o1 o2:aM} {w w' w1 w2:ae}
structure gi(o:aM)(w:ae)(o':aM)(w':ae):Prop where
 aU:bu (fun _=>False) o w o' w'
 all:∀b,w.heap.size<=b->b<w'.heap.size->o' b
theorem gi.refl(hF:bE ar L0 o w):gi o w o w:=⟨bu.refl hF,fun b h1 h2=>aa⟩
theorem gi.trans(h:gi o w o1 w1)(k:gi o1 w1 o2 w2):gi o w o2 w2:=⟨h.aU.trans k.aU,fun b h1 h2=>by
 by_cases q:b<w1.heap.size
 ·exact k.aU.more _ (h.all b h1 q)
 ·exact k.all b aa h2⟩
theorem gi.dL{v:Value}(h:fw o w v o' w'):gi o w o' w':=⟨bu.dL h,fun b h1 h2=>by rw[h.own];exact .inr ⟨h1,h2⟩⟩
theorem gi.tY(hF:bE ar L0 (grow o w w') w')(z:w.heap.size<=w'.heap.size)(k:∀b,b<w.heap.size->w'.heap[b]?=w.heap[b]?):gi o w (grow o w w') w' :=
 ⟨⟨hF,iK,fun b hb=>hb.imp id fun q=>q.1,z,fun b hb _=>k b hb⟩,fun b h1 h2=>.inr ⟨h1,h2⟩⟩
theorem gi.wrote{A:Nat}(h:gi o w o1 w1)(hA:w.heap.size<=A)(hF:bE ar L0 o1 w2)(on:cN A w1 w2):gi o w o1 w2:=by
 refine⟨⟨hF,h.aU.more,h.aU.new,by rw[on.1];exact h.aU.size,fun b hb hx=>?_⟩,fun b h1 h2=>h.all b h1 (by rw[<- on.1];exact h2)⟩;rw[on.2 b aa];exact h.aU.same b hb hx
theorem gi.row{v:Value}(h:gi o w o1 w1)(hv:∀b,v.ownBlock=some b->w.heap.size<=b)(k:bu (fun b=>v.ownBlock=some b) o1 w1 (grow o1 w1 w2) w2):gi o w (grow o1 w1 w2) w2:=by
 have z1:=h.aU.size;have z2:=k.size;refine⟨⟨k.ay,fun b hb=>k.more b (h.aU.more b hb),fun b hb=>(k.new b hb).elim (fun q=>h.aU.new b q) fun q=>.inr aa,aa,fun b hb hx=>?_⟩,fun b h1 h2=>?_⟩
 ·rw[k.same b aa (fun e=>by have:=hv b e;omega)];exact h.aU.same b hb hx
 ·by_cases q:b<w1.heap.size
  ·exact k.more _ (h.all b h1 q)
  ·exact .inr ⟨aa,h2⟩
structure lJ(o:aM)(w:ae)(lo e sz:Nat)(v:Value)(n:Nat)(xs:List Value):Prop where
 row:w.ownsRow lo e sz v n xs
 cl:Cl ar L0 o v
 low:lo<=w.heap.size
theorem lJ.nil(o:aM)(w:ae)(lo e sz:Nat)(h:lo<=w.heap.size):lJ o w lo e sz (.slice none 0 0) 0 []:=⟨⟨an,.inl ⟨rfl,rfl⟩⟩,gS,h⟩
theorem lJ.keep{lo e sz n:Nat}{v:Value}{xs:List Value}(h:lJ o w lo e sz v n xs)(mW:∀b,o b->o' b)(hz:w.heap.size<=w'.heap.size)(k:∀g,v.ownBlock=some g->w'.heap[g]?=w.heap[g]?):lJ o' w' lo e sz v n xs :=
 ⟨cQ h.row fun g hg _=>k g hg.symm,h.cl.up mW,aR h.low hz⟩
theorem lJ.lt{lo e sz n:Nat}{v:Value}{xs:List Value}(h:lJ o w lo e sz v n xs):∀g,v.ownBlock=some g->lo<=g/\g<w.heap.size:=fun g hg=>by
 refine⟨yh h.row g hg,?_⟩;obtain⟨_,hc⟩:=h.row;rcases hc with⟨rfl,_⟩|⟨g',cap,cur,rfl,h1,h2,_⟩
 ·cases hg
 ·cases hg;exact(Array.getElem?_eq_some_iff.1 h2).1
theorem lJ.gO{lo e sz n:Nat}{v:Value}{xs:List Value}(h:lJ o w lo e sz v n xs)(G:gi o w o' w'):lJ o' w' lo e sz v n xs:=h.keep G.aU.more G.aU.size fun g hg=>G.aU.same g (h.lt g hg).2 id
theorem lJ.add{lo e sz n n':Nat}{v v':Value}{xs xs':List Value}{wl aI:ae}(hF:bE ar L0 o w)(h:lJ o w lo e sz v n xs)(aE:im o w wl)(ba:kS ar L0 o w w' aI v')(b6:aI.ownsRow lo e sz v' n' xs')(CS:wl.grownBy aI v.ownBlock)(Wc:v'.ownBlock=v.ownBlock\/v'.ownBlock=some wl.heap.size):
  lJ (grow o w w') w' lo e sz v' n' xs'/\bu (fun b=>v.ownBlock=some b) o w (grow o w w') w'/\∀b,v'.ownBlock=some b->v.ownBlock=some b\/w.heap.size<=b:=by
 rw[aE.size] at Wc;have C3:=ba.ay;have eY:Cl ar L0 (grow o w w') v':=ba.val;have z6:=ba.gO;have Is:∀b,v'.ownBlock=some b->grow o w w' b:=fO C3 eY;refine⟨⟨cQ b6 fun b hb _=>ba.same b (Is b hb.symm),eY,by have:=h.low;omega⟩,⟨C3,iK,fun b hb=>hb.imp id fun q=>q.1,z6,fun b hb X3=>?_⟩,fun b hb=>?_⟩
 ·by_cases ho:o b
  ·rw[ba.same b (.inl ho),CS.block b (by rw[aE.size];exact hb) (fun e=>X3 e.symm),aE.heap b ho]
  ·exact ba.rest b hb ho
 ·rcases Wc with e|e
  ·rw[hb] at e;exact .inl e.symm
  ·rw[hb] at e;exact .inr (bq (aK e).symm)
theorem xp(W:ae)(lo:Nat)(v:Value)(xs:List ah)(x:ah)(A:Nat)(h:W.ownsRow lo 9 1 v xs.length (xs.map .string))(hn:(xs.length+1)*16<=140737488355328)(uL:lo<=W.heap.size)(ha:W.heap[A]?=some (.cells #[.string x] 9)):
  ∃v' W',(Builtin.append_ #[40,40] 40 #[v,.slice (some ⟨A,0,none⟩) 1 1]).run ar W=.ok v' W'/\W'.ownsRow lo 9 1 v' (xs++[x]).length ((xs++[x]).map .string)/\W.grownBy W' v.ownBlock/\(v'.ownBlock=v.ownBlock\/v'.ownBlock=some W.heap.size):=by
 obtain⟨i,hi,oF⟩:=Option.map_eq_some_iff.1 pq;simp only[WS] at oF;obtain⟨v',W',e1,e2,e3,_,e4⟩:=run_append_own_at (P:=ar) W lo 40 40 9 i _ 1 16 underlying40 hi oF.1 oF.2.1 oF.2.2 rfl aa v xs.length (xs.map .string) h ⟨A,0,none⟩ 1 1 [.string x] rfl (fun j u hj=>by
  cases j with
  |zero=>simp at hj;subst hj;simp[Addr.add,World.cell?,ha]
  |succ j=>simp at hj) (by simp;rfl) (by simp[maxLen];omega) aa uL
 exact⟨v',W',e1,by simpa using e2,e3,e4⟩
theorem IP(W:ae)(lo:Nat)(v:Value)(rs:List aL)(r:aL)(A:Nat)(h:W.ownsRow lo 42 3 v rs.length (dM rs))(hn:rs.length<=1000)(uL:lo<=W.heap.size)(ha:W.heap[A]?=some (.cells #[.string r.out,.int .i64 r.eD,.slice r.sa r.sl r.sc] 42)):
  ∃v' W',(Builtin.append_ #[35,35] 35 #[v,.slice (some ⟨A,0,none⟩) 1 1]).run ar W=.ok v' W'/\W'.ownsRow lo 42 3 v' (rs++[r]).length (dM (rs++[r]))/\W.grownBy W' v.ownBlock/\(v'.ownBlock=v.ownBlock\/v'.ownBlock=some W.heap.size):=by
 obtain⟨i,hi,oF⟩:=Option.map_eq_some_iff.1 BF;simp only[WS] at oF;obtain⟨v',W',e1,e2,e3,_,e4⟩:=run_append_own_at (P:=ar) W lo 35 35 42 i _ 3 48 underlying35 hi oF.1 oF.2.1 oF.2.2 rfl aa v rs.length (dM rs) h ⟨A,0,none⟩ 1 1 [.string r.out,.int .i64 r.eD,.slice r.sa r.sl r.sc] rfl (fun j u hj=>by
  match j,hj with
  |0,hj=>simp at hj;subst hj;simp[Addr.add,World.cell?,ha]
  |1,hj=>simp at hj;subst hj;simp[Addr.add,World.cell?,ha]
  |2,hj=>simp at hj;subst hj;simp[Addr.add,World.cell?,ha]) (by simp;exact⟨rfl,rfl,rfl⟩) (by simp[maxLen];omega) aa uL
 have e:dM (rs++[r])=dM rs++[.string r.out,.int .i64 r.eD,.slice r.sa r.sl r.sc]:=by simp[dM,aL.cells]
 exact⟨v',W',e1,by rw[e];simpa using e2,e3,e4⟩
end
end Go.Proofs.Kz
namespace Go.Ren
open Go.Conc Go.ConcN
structure El(w wl:ae):Prop where
 heap:wl.heap=w.heap
theorem El.cell{w wl:ae}(h:El w wl){ad:Addr}:wl.cell? ad=w.cell? ad:=by simp[World.cell?,h.heap]
section
variable {P:Program} {Fin:bH} {d:Nat} {o:aM} {w:ae} {fn:FuncId} {Q:Exit->Act->aM->ae->Prop} {a:Act} {ops:Array Oper} {i:Nat} {rest:List Nat} {op:Oper}
theorem RS{ad:Addr}{wt sy:Bool}(h:wC Fin ad.block):Xu Fin o ⟨.cell ad,wt,sy⟩:=zY (o:=fun b=>o b\/wC Fin b) (.inr h)
theorem oQ{B:Nat}(hB:wC Fin B)(ho:ops[i]?=some op)(hw:Region.wanted op (yielded ops a.tmps)=true){v:Value}{dd:Option Tmp}(hd:op.dst=dd)(hr:∀wl,El w wl->(execOp a.eval op).run P wl=.ok (.value v) wl)(iH:∀wl,El w wl->∀x∈(execOp a.eval op).events P wl #[],∃ad wt sy,x=⟨.cell ad,wt,sy⟩/\ad.block=B)(h:fu (XB P Fin d) fn ops rest Q (a.put dd v) o w):fu (XB P Fin d) fn ops (i::rest) Q a o w :=
 KO ho hw hd (fun n=>hr _ ⟨rfl⟩) (fun n x hx=>by
  obtain⟨ad,wt,sy,rfl,e⟩:=iH (w.at n) ⟨rfl⟩ x hx;subst e;exact⟨RS hB,an,an⟩) h
end
section
variable {P:Program} {L:Nat->Bool} {Fin:bH} {d:Nat} {fn:FuncId} {Q:Exit->Act->aM->ae->Prop} {a:Act} {ops:Array Oper} {S:(Nat->Option Value)->aM->ae->Prop} {kds:List Kd} {v:Nat->Value} {K:Act->Prop} {j:Nat} {l:List Nat} {xs:List Kd} {op:Oper} {dd:Option Tmp}
theorem UZ{B:Nat}(hB:wC Fin B)(ho:ops[j]?=some op)(hd:op.dst=dd)(hn:Bs op.op=true)(hw:Region.wanted op (yielded ops a.tmps)=true){y:Value}(cm:∀σ o w,x7 ops kds v j σ->S σ o w->(∀wl,El w wl->(execOp a.eval op).run P wl=.ok (.value y) wl)/\∀wl,El w wl->∀x∈(execOp a.eval op).events P wl #[],∃ad wt sy,x=⟨.cell ad,wt,sy⟩/\ad.block=B)(h:da P (Ad P (XB P Fin d) fn ops Q S kds v) ops K v l xs (a.put dd y)):da P (Ad P (XB P Fin d) fn ops Q S kds v) ops K v (j::l) (some (some y)::xs) a:=by
 refine fG ho hd (fun A rest σ o w h1 h2 h3 h4 hS hc=>?_) rfl h;obtain⟨hr,iH⟩:=cm σ o w h3 hS;have hex:=execOp_congr op (qs hn) h1;exact oQ hB ho (h2.trans hw) rfl (fun wl aE=>by rw[hex];exact hr wl aE) (fun wl aE x hx=>by rw[hex] at hx;exact iH wl aE x hx) (hc y o w ⟨rfl,hS⟩)
end
end Go.Ren
