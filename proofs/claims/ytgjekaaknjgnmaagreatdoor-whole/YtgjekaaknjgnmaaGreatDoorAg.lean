import Derived.Test.YtgjekaaknjgnmaaGreatDoorAf
import Derived.BigQuiet
import Derived.Maps.AppendAt
set_option linter.all false
set_option maxHeartbeats 40000000
set_option maxRecDepth 200000
namespace Go.Proofs.Kz
open Go.Proofs.Tryz
open Go.Proofs.Tryz renaming prog → au
open _root_.ByteArray renaming empty → aP
open Go.Ren Go.Conc Go.Proofs Go.ConcN
open Go.ConcR (Payload)
section
variable {Fin:bL} {o o' o1:aN} {w w' w1:ae} {K:pG} {s:gV} {lk:Int} {lab dt:Nat->Nat}
theorem bo.opened(h:bo o w K s lk lab)(lD:bN au L0 (grow o w w1) w1)(z1:w1.heap.size=w.heap.size+1)(k1:∀b,b<w.heap.size->w1.heap[b]?=w.heap[b]?):∃dt,bo (grow o w w1) w1 K s lk dt/\(∀b,b<w.heap.size->dt b=lab b)/\dt w.heap.size=7/\grow o w w1 w.heap.size/\bB (fun _=>False) o w (grow o w w1) w1:=by
 have tI:bB (fun _=>False) o w (grow o w w1) w1:=⟨lD,jr,fun b hb=>hb.imp id fun q=>q.1,aa,fun b hb _=>k1 b hb⟩;have yS:∀b,b<w.heap.size->(if b=w.heap.size then 7 else lab b)=lab b:=fun b hb=>if_neg aa;exact⟨fun b=>if b=w.heap.size then 7 else lab b,((h.Kg fun b hb=>yS b (h.aG.lt hb)).yR tI).1,yS,if_pos rfl,.inr ⟨ag _,aa⟩,tI⟩
theorem bo.did{o9:aN}{w9 wA:ae}{Kj:Nat->Nat}{s':gV}(h:bo o9 w9 K s' lk Kj)(tI:bB (fun _=>False) o w o1 w1)(yS:∀b,b<w.heap.size->dt b=lab b)(S:cP o1 w1 dt o9 w9 Kj)(hl:Kj w.heap.size=7)(hF:bN au L0 o9 wA)(on:eK w.heap.size w9 wA):bo o9 wA K s' lk Kj/\cP o w lab o9 wA Kj:=by
 refine⟨h.aside (ex:=(·=w.heap.size)) (bB.dI hF on rfl) fun b hb=>by rw[hb];exact hl,⟨hF,fun b hb=>S.bt.more b (tI.more b hb),fun b hb=>(S.bt.new b hb).elim (fun q=>tI.new b q) fun q=>.inr (by have:=tI.size;omega),by rw[on.1];exact aX tI.size S.bt.size,fun b hb hx=>?_⟩,fun b hb=>(S.lab b (by have:=tI.size;omega)).trans (yS b hb)⟩;rw[on.2 b aa,S.bt.same b (by have:=tI.size;omega) (by rw[yS b hb];exact hx),tI.same b hb id]
def YE(K:pG)(s s':gV)(F:da)(file:af->V):Prop:=∃iu QL sD sE,(∀i,i<K.B.rs.length->∃b,iu i=some (b,mN K.B F file i))/\s'={s.stand 0 0 with old:=iu,pb:=QL,num:=IntKind.i64.wrap (s.num+1),lC:=sD,res:=nZ K.B F file,mO:=sE,jX:=rN (qW F.cu) (mO s.old (mN K.B F file)) K.B.rs.length}
def did(n:Int)(x:af):Value:=.agg #[.int .i64 n,.string x]
def Checked(K:pG)(s s':gV)(F:da)(file:af->V)(v:Value):Prop :=
 (s.ck=s.src.length/\v=did 6 aP/\YE K s s' F file) \/
 ∃(h:s.ck<s.src.length) (h':s.ck<s.rd.length),(cm s.st s.src[s.ck]≠s.rd[s.ck].2/\v=did 5 s.src[s.ck]/\s'=s.stand 1 s.time)\/(cm s.st s.src[s.ck]=s.rd[s.ck].2/\v=did 4 s.src[s.ck]/\s'={s with ck:=s.ck+1})
theorem AL[Payload](h:bo o w K s lk lab)(hlen:s.rd.length=s.src.length)(lo:Nat)(F:da)(D2:s.fd=some (lo,F))(file:af->V)(pF:∀x,(file x).2.size<=100)(TR:s.rd.map (·.1)=(fq K.B.NM K.B.rs).map file):
  bA au (XB au Fin 0) 64 #[.pointer (some ⟨K.kb,0,none⟩)] o w fun v o' w'=>∃s' lab',Checked K s s' F file v/\bo o' w' K s' lk lab'/\cP o w lab o' w' lab':=by
 have W:=bY (P:=au) (Fin:=Fin) (d:=0);refine eC W func64 ar ?_;bP Tryz.f64;refine ax ?_;refine dv bS h.aG rfl ar ar ni rfl (R:=fun wl v aW=>v=.pointer (some ⟨wl.heap.size,0,none⟩)/\aW=wl.alloc (Obj.cells #[.int .i64 0,.string aP] 32)) (fun wl aU=>⟨_,_,by simp[go_sem];rfl,rfl,rfl⟩) fun wl v1 aW w1 aU hR bO=>?_;obtain⟨rfl,hR⟩:=hR;obtain⟨z1,k1,tN⟩:=bO.alloc h.aG aU hR;have lD:=bO.aG;rw[aU.size];clear hR bO aU wl aW;obtain⟨dt,h1,yS,qJ,xa,tI⟩:=h.opened lD z1 k1;generalize grow o w w1=o1 at *;obtain⟨sp,sb,sc,QH,Rs,vF,eI⟩:=h1.cZ.row;have c9:w1.cell? ⟨K.kb,9,none⟩=some (.slice sp s.src.length sc):=by rw[h1.row.cell aa];exact congrArg some QH
 have c11:w1.cell? ⟨K.kb,11,none⟩=some (.int .i64 s.ck):=by rw[h1.row.cell aa];rfl
 have Ub:=h1.aG.lt h1.own;have hsf:=h1.cZ.gY;have HI:=h1.gY.2.2.2.2.1;have hW0:bB (fun _=>False) o1 w1 o1 w1:=bB.refl h1.aG;refine ax ?_;refine dS mixed ah [some none,some none,some none,some (some (.int .i64 s.ck)),some none,some none,some none,some (some (.slice sp s.src.length sc)),some none,some none]
  (S:=fun σ o' w'=>o1=o'/\w1=w') ⟨rfl,rfl⟩ fun v=>?_
 refine dR ?_;refine cE ?_;refine cq bS rfl rfl rfl ar ar (fun σ o' w' H hS=>?_) ?_
 ·obtain⟨rfl,rfl⟩:=hS;exact tM h1.aG h1.own c11
 refine cE ?_;refine cq bS rfl rfl rfl ar ar (fun σ o' w' H hS=>?_) ?_
 ·obtain⟨rfl,rfl⟩:=hS;exact tM h1.aG h1.own c9
 refine cE ?_;refine cD fun σ o3 w3 mC hS=>?_;obtain⟨rfl,rfl⟩:=hS;simp only[iM,dK,if_true,if_false,reduceIte,Nat.reduceEqDiff];refine ig W (t:=decide (s.ck=s.src.length)) (by simp[Act.eval];rw[dM];simp;omega) ?_;by_cases hc:s.ck=s.src.length
 ·rw[if_pos (cW hc)];refine ax ?_;refine cj func101 (QK h1 lo F D2 file pF TR) ?_;rintro v0 o4 w4 ⟨rfl,sF,iu,QL,sD,sE,S4,hold,h4⟩;have HK:sF w.heap.size=7:=(S4.lab _ aa).trans qJ;have yP:=(S4.bt.same w.heap.size aa (by rw[qJ];omega)).trans tN;have tK:=S4.bt.more _ xa;aE;refine mE 6 aP h4.aG tK yP fun wA AK Ad sY=>?_;obtain⟨hA,SA⟩:=h4.did tI yS S4 HK AK Ad;refine ax ?_;have c9:∀n,(wA.at n).cell? ⟨w.heap.size,0,none⟩=some (.int .i64 6)/\(wA.at n).cell? ⟨w.heap.size,1,none⟩=some (.string aP):=fun n=>⟨(dQ sY).1,(dQ sY).2.1⟩;refine⟨.inr trivial,trivial,.agg #[.int .i64 6,.string aP],xc (fun n=>?_) (fun n e he=>?_),_,sF,.inl ⟨hc,rfl,iu,QL,sD,sE,hold,rfl⟩,hA,SA⟩
  ·obtain⟨c0,c1⟩:=c9 n;simp[results,results64,go_sem,c0,c1]
  ·obtain⟨c0,c1⟩:=c9 n;simp[results,results64,go_sem,c0,c1] at he;rcases he with rfl|rfl;all_goals exact⟨_,_,_,rfl,tK⟩
 rw[if_neg (by simpa using hc)];have cB:s.ck<s.src.length:=aa;have ql:s.ck<s.rd.length:=aa;obtain⟨rfl,Ri⟩:=vF fun q=>by rw[q] at cB;simp at cB
 have hT:=eI s.ck cB;rw[bC] at hT;have zf:(s.ck:Int)<s.src.length:=aa;generalize hx:s.src[s.ck]=x at hT;refine ax ?_;refine dS mixed ah [some none,some none,some none,some (some (.slice (some ⟨sb,0,none⟩) s.src.length sc)),some none,some none,some none,some (some (.int .i64 s.ck)),some none,some (some (.string x)),some none]
  (S:=fun σ o' w'=>o1=o'/\w1=w') ⟨rfl,rfl⟩ fun v=>?_
 refine dR ?_;refine cE ?_;refine cq bS rfl rfl rfl ar ar (fun σ o' w' H hS=>?_) ?_
 ·obtain⟨rfl,rfl⟩:=hS;exact tM h1.aG h1.own c9
 refine cE ?_;refine cq bS rfl rfl rfl ar ar (fun σ o' w' H hS=>?_) ?_
 ·obtain⟨rfl,rfl⟩:=hS;exact tM h1.aG h1.own c11
 refine cE ?_;refine cq bS rfl rfl rfl ar ar (fun σ o' w' H hS=>?_) ?_
 ·obtain⟨rfl,rfl⟩:=hS;exact tM h1.aG Ri hT
 refine cE ?_;refine cD fun σ o3 w3 mC hS=>?_;obtain⟨rfl,rfl⟩:=hS;simp only[iM,dK,if_true,if_false,reduceIte,Nat.reduceEqDiff];obtain⟨rp,rb,rc,La,YD,Cw⟩:=h1.reads.view h1.aG;obtain⟨rfl,r8⟩:=YD fun q=>by rw[q] at ql;simp at ql
 have c10:w1.cell? ⟨K.kb,10,none⟩=some (.slice (some ⟨rb,0,none⟩) s.rd.length rc):=by rw[h1.row.cell aa];exact congrArg some La
 have c3:w1.cell? ⟨K.kb,3,none⟩=some (.pointer (some ⟨K.fb,0,none⟩)):=by rw[h1.row.cell aa];rfl
 have hR:=(Cw s.ck ql).2.2;have hrw:=h1.aG.lt r8;have apu:(s.ck:Int)<s.rd.length:=aa;generalize hy:s.rd[s.ck].2=ry at hR;generalize hz:cm s.st x=rz;generalize K0:(dW s.th x).1=s1;generalize vh:(dW s.th x).2=s2;refine ax ?_;refine dS mixed ah [some none,some none,some none,some (some (.pointer (some ⟨K.fb,0,none⟩))),some none,some (some (.agg #[.bool s1,.string s2,.int .i64 rz])),some none,some none,some none,some none,some (some (.slice (some ⟨rb,0,none⟩) s.rd.length rc)),some none,some none,some none,some (some (.int .i64 s.ck)),some none,some none,some (some (.int .i64 ry)),some none]
  (S:=fun σ o' w'=>bB (fun _=>False) o1 w1 o' w') hW0 fun v=>?_
 refine dR ?_;refine cE ?_;refine cq bS rfl rfl rfl ar ar (fun σ o' w' H hS=>?_) ?_
 ·have mq:=hS.more _ h1.own;exact tM hS.aG mq ((cell_of (hS.same _ Ub id)).trans c3)
 refine cE ?_;refine jU rfl rfl ar rfl func100 ah rfl (av:=#[.pointer (some ⟨K.fb,0,none⟩),.string x]) aI (fun σ o' w' H hS=>?_) ?_
 ·refine(YB hS.aG ((h1.yR hS).1).files x).mono ?_;rintro y o2 w2 ⟨rfl,N⟩;exact⟨by rw[K0,vh,hz],hS.trans (bB.eL N)⟩
 aE;have evf:∀w,(Instr.field 194 (.agg #[.bool s1,.string s2,.int .i64 rz]) 1).events au w #[]=#[]:=fun w=>ah;refine cE ?_;refine cq bS rfl rfl rfl ar ar (fun σ o' w' H hS=>?_) ?_
 ·have mq:=hS.more _ h1.own;exact tM hS.aG mq ((cell_of (hS.same _ Ub id)).trans c10)
 refine cE ?_;refine cq bS rfl rfl rfl ar ar (fun σ o' w' H hS=>?_) ?_
 ·have mq:=hS.more _ h1.own;exact tM hS.aG mq ((cell_of (hS.same _ Ub id)).trans c11)
 refine cE ?_;refine cq bS rfl rfl rfl ar ar (fun σ o' w' H hS=>?_) ?_
 ·have mq:=hS.more _ r8;exact tM hS.aG mq ((cell_of (hS.same _ hrw id)).trans hR)
 refine cE ?_;refine cD fun σ o5 w5 mC hS=>?_;simp only[iM,dK,if_true,if_false,reduceIte,Nat.reduceEqDiff];clear evf mC;obtain⟨h5,S5⟩:=h1.yR hS;have xj:=hS.more _ xa;have MQ:=(hS.same w.heap.size aa id).trans tN;refine ig W (t:=decide (rz≠ry)) (by simp[Act.eval];rw[dM];simp) ?_;by_cases hd:rz≠ry
 ·rw[if_pos (cW hd)];refine ax ?_;refine cj func102 (T1 h5) ?_;rintro v0 o4 w4 ⟨rfl,S4,h4⟩;have HK:dt w.heap.size=7:=qJ;have yP:=(S4.bt.same w.heap.size (by have:=hS.size;omega) (by rw[qJ];omega)).trans MQ;have tK:=S4.bt.more _ xj;have S45:=S5.trans S4;refine ax ?_;refine mE 5 x h4.aG tK yP fun wA AK Ad sY=>?_;obtain⟨hA,SA⟩:=h4.did tI yS S45 qJ AK Ad;refine ax ?_;have c9:∀n,(wA.at n).cell? ⟨w.heap.size,0,none⟩=some (.int .i64 5)/\(wA.at n).cell? ⟨w.heap.size,1,none⟩=some (.string x):=fun n=>⟨(dQ sY).1,(dQ sY).2.1⟩;refine⟨.inr trivial,trivial,.agg #[.int .i64 5,.string x],xc (fun n=>?_) (fun n e he=>?_),_,dt,.inr ⟨cB,ql,.inl ⟨by rw[hx,hy,hz];exact hd,by rw[hx];rfl,rfl⟩⟩,hA,SA⟩
  ·obtain⟨c0,c1⟩:=c9 n;simp[results,results64,go_sem,c0,c1]
  ·obtain⟨c0,c1⟩:=c9 n;simp[results,results64,go_sem,c0,c1] at he;rcases he with rfl|rfl;all_goals exact⟨_,_,_,rfl,tK⟩
 rw[if_neg (by simpa using hd)];have d11:w5.cell? ⟨K.kb,11,none⟩=some (.int .i64 s.ck):=by rw[h5.row.cell aa];rfl
 refine ax ?_;refine lz h5.aG h5.own d11 fun _=>?_;aE;have ve:IntKind.i64.wrap ((s.ck:Int)+1)=((s.ck+1:Nat):Int):=by rw[IntKind.wrap_i64]<;>omega
 refine ax ?_;refine dz bS h5.aG rfl ar ar ?_ rfl (R:=fun wl aW=>aW=wl.setCell ⟨K.kb,11,none⟩ (.int .i64 ((s.ck+1:Nat):Int))) (fun wl aU=>⟨_,?_,rfl⟩) fun wl aW w9 aU hR bO=>?_
 ·exact ja (bX h5.own) dU
 ·have rl:=World.rowIs.of_block h5.row (aU.heap _ h5.own);have e1:=(aU.cell h5.own).trans d11;have f:=rl.frozen;simp[go_sem,e1,f,ve]
 have hO:eK K.kb wl aW:=by rw[hR];exact je _ _ _ _
 obtain⟨lV,ow,e9⟩:=bO.only aU h5.own hO;have mB:=bO.aG;rw[e9] at mB |-;rw[hR] at ow;have h9:=h5.put (s':={s with ck:=s.ck+1}) (lk':=lk) mB lV ((World.rowIs.of_block ((World.rowIs.of_block h5.row (aU.heap _ h5.own)).set 11 _) ow).congr fun j hj=>by
  rcases nz hj with rfl|rfl|rfl|rfl|rfl|rfl|rfl|rfl|rfl|rfl|rfl|rfl|rfl<;>rfl) rfl rfl ⟨h5.gY.2.2.1,h5.gY.2.2.2.1,cB⟩
 have S9:=S5.trans (.of (bB.dI (ex:=(·=K.kb)) mB lV rfl) fun b hb=>by rw[hb,h5.l0];omega);have dJ:w.heap.size≠K.kb:=fun e=>by have:=h5.l0;rw[<- e,qJ] at this;omega
 have kbA:=(lV.2 _ dJ).trans MQ;clear hR bO aU hO ow wl aW e9;refine ax ?_;refine mE 4 x h9.aG xj kbA fun wA AK Ad sY=>?_;obtain⟨hA,SA⟩:=h9.did tI yS S9 qJ AK Ad;refine ax ?_;have c9:∀n,(wA.at n).cell? ⟨w.heap.size,0,none⟩=some (.int .i64 4)/\(wA.at n).cell? ⟨w.heap.size,1,none⟩=some (.string x):=fun n=>⟨(dQ sY).1,(dQ sY).2.1⟩;refine⟨.inr trivial,trivial,.agg #[.int .i64 4,.string x],xc (fun n=>?_) (fun n e he=>?_),_,dt,.inr ⟨cB,ql,.inr ⟨by rw[hx,hy,hz];simpa using hd,by rw[hx];rfl,rfl⟩⟩,hA,SA⟩
 ·obtain⟨c0,c1⟩:=c9 n;simp[results,results64,go_sem,c0,c1]
 ·obtain⟨c0,c1⟩:=c9 n;simp[results,results64,go_sem,c0,c1] at he;rcases he with rfl|rfl;all_goals exact⟨_,_,_,rfl,xj⟩
theorem QM:(au.info? 194).map (fun i=>(i.zero,i.size,i.bytes))=some (some (.agg #[.bool false,.string aP,.int .i64 0]),3,32):=ah
theorem Dp(ss:List (V×Int))(q:V×Int):ff (ss++[q])=ff ss++[.bool q.1.1,.string q.1.2,.int .i64 q.2]:=by simp[ff]
theorem Ae(W:ae)(lo:Nat)(v:Value)(ss:List (V×Int))(q:V×Int)(A:Nat)(h:W.ownsRow lo 194 3 v ss.length (ff ss))(hn:ss.length<=100000)(vO:lo<=W.heap.size)(ha:W.heap[A]?=some (.cells #[.bool q.1.1,.string q.1.2,.int .i64 q.2] 194)):
  ∃v' W',(Builtin.append_ #[110,110] 110 #[v,.slice (some ⟨A,0,none⟩) 1 1]).run au W=.ok v' W'/\W'.ownsRow lo 194 3 v' (ss++[q]).length (ff (ss++[q]))/\W.grownBy W' v.ownBlock/\(v'.ownBlock=v.ownBlock\/v'.ownBlock=some W.heap.size):=by
 obtain⟨i,hi,ov⟩:=Option.map_eq_some_iff.1 QM;simp only[bu] at ov;obtain⟨c0,c1,c2,-⟩:=eQ ha;have hc:∀j u,[Value.bool q.1.1,.string q.1.2,.int .i64 q.2][j]?=some u->W.cell? ((⟨A,0,none⟩:Addr).add j)=some u:=fun j u hj=>by
  match j with
  |0=>simp at hj;subst hj;simpa[Addr.add] using c0
  |1=>simp at hj;subst hj;simpa[Addr.add] using c1
  |2=>simp at hj;subst hj;simpa[Addr.add] using c2
  |j+3=>simp at hj
 obtain⟨v',W',e1,e2,e3,_⟩:=run_append_own (P:=au) W lo 110 110 194 i _ 3 32 underlying110 hi ov.1 ov.2.1 ov.2.2 rfl aa v ss.length (ff ss) h ⟨A,0,none⟩ 1 1 _ rfl hc (by simp;exact⟨rfl,rfl,rfl⟩) (by simp[maxLen];omega) aa vO;exact⟨v',W',e1,by rw[Dp];simpa using e2,e3,yO W lo 110 110 194 i _ 3 32 underlying110 hi ov.1 ov.2.1 ov.2.2 v ss.length (ff ss) h ⟨A,0,none⟩ 1 _ rfl hc (by simp;exact⟨rfl,rfl,rfl⟩) aa aa e1⟩
theorem K9.add{v v':Value}{ss:List (V×Int)}{q:V×Int}{wl aW:ae}{lo:Nat}(hF:bN au L0 o w)(h:K9 o w v ss)(hl:ss.length<1000)(aU:iF o w wl)(bO:lO au L0 o w w' aW v')(vO:lo<=w.heap.size)(cp:aW.ownsRow lo 194 3 v' (ss++[q]).length (ff (ss++[q])))(Ej:wl.grownBy aW v.ownBlock)(Yz:v'.ownBlock=v.ownBlock\/v'.ownBlock=some wl.heap.size):
  K9 (grow o w w') w' v' (ss++[q])/\bB (fun b=>v.ownBlock=some b) o w (grow o w w') w'/\∀b,v'.ownBlock=some b->v.ownBlock=some b\/w.heap.size<=b:=by
 rw[aU.size] at Yz;have Es:=bO.aG;have fB:Cl au L0 (grow o w w') v':=bO.val;have z6:=bO.jq;have Ka:∀b,v'.ownBlock=some b->grow o w w' b:=fun b hb=>by
  obtain⟨-,gf⟩:=cp;rcases gf with⟨rfl,-⟩|⟨g',cap,cur,rfl,-⟩
  ·cases hb
  ·cases hb;exact Hd Es fB
 refine⟨⟨⟨lo,aa,dF cp fun b hb _=>bO.same b (Ka b hb.symm)⟩,fB,dX⟩,⟨Es,jr,fun b hb=>hb.imp id fun q=>q.1,z6,fun b hb Ve=>?_⟩,fun b hb=>?_⟩
 ·by_cases ho:o b
  ·rw[bO.same b (.inl ho),Ej.block b (by rw[aU.size];exact hb) (fun e=>Ve e.symm),aU.heap b ho]
  ·exact bO.rest b hb ho
 ·rcases Yz with e|e
  ·rw[hb] at e;exact .inl e.symm
  ·rw[hb] at e;exact .inr (bH (aR e).symm)
theorem Checked.shape{s':gV}{F:da}{file:af->V}{v:Value}(h:Checked K s s' F file v):∃n x,v=did n x:=by
 rcases h with⟨-,e,-⟩|⟨_,_,⟨-,e,-⟩|⟨-,e,-⟩⟩
 ·exact⟨_,_,e⟩
 ·exact⟨_,_,e⟩
 ·exact⟨_,_,e⟩
theorem bo.aaC(h:bo o w K s lk lab){MU:Value}{rd':List (V×Int)}(hW:bB (fun b=>b=K.kb\/s.rv.ownBlock=some b) o w o' w')(hq:K9 o' w' MU rd')(hb:∀b,MU.ownBlock=some b->s.rv.ownBlock=some b\/w.heap.size<=b)(hr:w'.rowIs K.kb 120 13 (sC K {s with rv:=MU,rd:=rd'} lk))(hl:rd'.length<=s.src.length):
  ∃lab',bo o' w' K {s with rv:=MU,rd:=rd'} lk lab'/\cP o w lab o' w' lab':=by
 have hx:∀b,b=K.kb\/s.rv.ownBlock=some b->lab b=0\/lab b=5:=fun b hb=>hb.imp (fun e=>by rw[e];exact h.l0) fun e=>h.l5 b e;have P:=h.parts hW 0 5 hx;obtain⟨a1,a2,a3,a4⟩:=h.all;have lt:∀b,o b->b<w.heap.size:=fun b hb=>h.aG.lt hb;have lb:∀b,o b->(if w.heap.size<=b then 5 else lab b)=lab b:=fun b hb=>if_neg (by have:=lt b hb;omega);obtain⟨f1,f2,f3,f4,f5,f6⟩:=h.gY;refine⟨fun b=>if w.heap.size<=b then 5 else lab b,⟨hW.aG,hr,hW.more _ h.own,P.build aa aa,P.files aa aa,P.queue aa aa,P.cZ aa aa,hq,⟨(P.set aa aa).blk,(P.set aa aa).own,(P.set aa aa).res,(P.set aa aa).cl,(P.set aa aa).gY,(P.set aa aa).jX⟩,(lb _ h.own).trans h.l0,fun b hb=>(lb b (h.build.own b hb)).trans (h.l1 b hb),fun b hb=>(lb b ?_).trans (h.l2 b hb),fun b hb=>(lb b (a1 b hb)).trans (h.l3 b hb),fun b hb=>(lb b (a2 b hb)).trans (h.l4 b hb),fun b hq=>?_,fun b hb=>(lb b (a4 b hb)).trans (h.l6 b hb),f1,f2,f3,f4,f5,hl⟩,⟨hW.mono fun b hb=>by rcases hx b hb with e|e<;>omega,fun b hb=>if_neg aa⟩⟩
 ·rcases hb with rfl|rfl|rfl
  ·exact h.files.own.1
  ·exact h.files.own.2.1
  ·exact h.files.own.2.2
 ·rcases hb b hq with e|e
  ·exact(lb b (a3 b e)).trans (h.l5 b e)
  ·exact if_pos e
def Hf(K:pG)(s s':gV)(F:da)(file:af->V)(v:Value):Prop :=
 (s.rd.length=s.src.length/\Checked K {s with phase:=3} s' F file v) \/
 ∃h:s.rd.length<s.src.length,v=did 3 s.src[s.rd.length]/\∃MU,s'={s with rv:=MU,rd:=s.rd++[(dW s.th s.src[s.rd.length],cm s.st s.src[s.rd.length])]}
theorem MV[Payload](h:bo o w K s lk lab)(lo:Nat)(F:da)(D2:s.fd=some (lo,F))(file:af->V)(pF:∀x,(file x).2.size<=100)(TR:s.rd.length=s.src.length->s.rd.map (·.1)=(fq K.B.NM K.B.rs).map file):
  bA au (XB au Fin 0) 63 #[.pointer (some ⟨K.kb,0,none⟩)] o w fun v o' w'=>∃s' lab',Hf K s s' F file v/\bo o' w' K s' lk lab'/\cP o w lab o' w' lab':=by
 have W:=bY (P:=au) (Fin:=Fin) (d:=0);refine eC W func63 ar ?_;bP Tryz.f63;refine ax ?_;refine dv bS h.aG rfl ar ar ni rfl (R:=fun wl v aW=>v=.pointer (some ⟨wl.heap.size,0,none⟩)/\aW=wl.alloc (Obj.cells #[.int .i64 0,.string aP] 32)) (fun wl aU=>⟨_,_,by simp[go_sem];rfl,rfl,rfl⟩) fun wl v1 aW w1 aU hR bO=>?_;obtain⟨rfl,hR⟩:=hR;obtain⟨z1,k1,tN⟩:=bO.alloc h.aG aU hR;have lD:=bO.aG;rw[aU.size];clear hR bO aU wl aW;obtain⟨dt,h1,yS,qJ,xa,tI⟩:=h.opened lD z1 k1;generalize grow o w w1=o1 at *;obtain⟨sp,sb,sc,QH,Rs,vF,eI⟩:=h1.cZ.row;obtain⟨rp,rb,rc,La,YD,Cw⟩:=h1.reads.view h1.aG;have c9:w1.cell? ⟨K.kb,9,none⟩=some (.slice sp s.src.length sc):=by rw[h1.row.cell aa];exact congrArg some QH
 have c10:w1.cell? ⟨K.kb,10,none⟩=some (.slice rp s.rd.length rc):=by rw[h1.row.cell aa];exact congrArg some La
 have c3:w1.cell? ⟨K.kb,3,none⟩=some (.pointer (some ⟨K.fb,0,none⟩)):=by rw[h1.row.cell aa];rfl
 have Ub:=h1.aG.lt h1.own;have hsf:=h1.cZ.gY;have hrf:=h1.gY.2.2.2.2.2;have hW0:bB (fun _=>False) o1 w1 o1 w1:=bB.refl h1.aG;refine ax ?_;refine dS mixed ah [some none,some none,some none,some (some (.slice rp s.rd.length rc)),some none,some none,some none,some none,some (some (.slice sp s.src.length sc)),some none,some none]
  (S:=fun σ o' w'=>o1=o'/\w1=w') ⟨rfl,rfl⟩ fun v=>?_
 refine dR ?_;refine cE ?_;refine cq bS rfl rfl rfl ar ar (fun σ o' w' H hS=>?_) ?_
 ·obtain⟨rfl,rfl⟩:=hS;exact tM h1.aG h1.own c10
 refine cE ?_;refine cq bS rfl rfl rfl ar ar (fun σ o' w' H hS=>?_) ?_
 ·obtain⟨rfl,rfl⟩:=hS;exact tM h1.aG h1.own c9
 refine cE ?_;refine cD fun σ o3 w3 mC hS=>?_;obtain⟨rfl,rfl⟩:=hS;clear mC;simp only[iM,dK,if_true,if_false,reduceIte,Nat.reduceEqDiff];refine ig W (t:=decide (s.rd.length=s.src.length)) (by simp[Act.eval];rw[dM];simp;omega) ?_;by_cases hc:s.rd.length=s.src.length
 ·rw[if_pos (cW hc)];refine ax ?_;refine dz bS h1.aG rfl ar ar ?_ rfl (R:=fun wl aW=>aW=wl.setCell ⟨K.kb,7,none⟩ (.int .i64 3)) (fun wl aU=>⟨_,?_,rfl⟩) fun wl aW w9 aU hR bO=>?_
  ·exact ja (bX h1.own) dU
  ·have rl:=World.rowIs.of_block h1.row (aU.heap _ h1.own);have e1:=rl.cell (i:=7) aa;have f:=rl.frozen;simp[go_sem,e1,f]
  have hO:eK K.kb wl aW:=by rw[hR];exact je _ _ _ _
  obtain⟨lV,ow,e9⟩:=bO.only aU h1.own hO;have mB:=bO.aG;rw[e9] at mB |-;rw[hR] at ow;have h9:=h1.put (s':={s with phase:=3}) (lk':=lk) mB lV ((World.rowIs.of_block ((World.rowIs.of_block h1.row (aU.heap _ h1.own)).set 7 _) ow).congr fun j hj=>by
   rcases nz hj with rfl|rfl|rfl|rfl|rfl|rfl|rfl|rfl|rfl|rfl|rfl|rfl|rfl<;>rfl) rfl rfl ⟨h1.gY.2.2.1,h1.gY.2.2.2.1,h1.gY.2.2.2.2.1⟩
  have S9:cP o1 w1 dt o1 w9 dt:=.of (bB.dI (ex:=(·=K.kb)) mB lV rfl) fun b hb=>by rw[hb,h1.l0];omega
  have dJ:w.heap.size≠K.kb:=fun e=>by have:=h1.l0;rw[<- e,qJ] at this;omega
  have MQ:=(lV.2 _ dJ).trans tN;clear hR bO aU hO ow wl aW e9;refine ax ?_;refine cj func64 (AL h9 hc lo F D2 file pF (TR hc)) ?_;rintro v0 o4 w4 ⟨s',sF,vK,h4,S4⟩;have HK:sF w.heap.size=7:=(S4.lab _ (by rw[lV.1];omega)).trans qJ;have yP:=(S4.bt.same w.heap.size (by rw[lV.1];omega) (by rw[qJ];omega)).trans MQ;have tK:=S4.bt.more _ xa;have S94:=S9.trans S4;obtain⟨dn,dx,rfl⟩:=vK.shape;unfold did at vK |-;aE;refine mE dn dx h4.aG tK yP fun wA AK Ad sY=>?_;obtain⟨hA,SA⟩:=h4.did tI yS S94 HK AK Ad;refine ax ?_;have c9:∀n,(wA.at n).cell? ⟨w.heap.size,0,none⟩=some (.int .i64 dn)/\(wA.at n).cell? ⟨w.heap.size,1,none⟩=some (.string dx):=fun n=>⟨(dQ sY).1,(dQ sY).2.1⟩;refine⟨.inr trivial,trivial,.agg #[.int .i64 dn,.string dx],xc (fun n=>?_) (fun n e he=>?_),s',sF,.inl ⟨hc,vK⟩,hA,SA⟩
  ·obtain⟨c0,c1⟩:=c9 n;simp[results,results63,go_sem,c0,c1]
  ·obtain⟨c0,c1⟩:=c9 n;simp[results,results63,go_sem,c0,c1] at he;rcases he with rfl|rfl;all_goals exact⟨_,_,_,rfl,tK⟩
 rw[if_neg (by simpa using hc)];have cB:s.rd.length<s.src.length:=aa;obtain⟨rfl,Ri⟩:=vF fun q=>by rw[q] at cB;simp at cB
 have hT:=eI s.rd.length cB;rw[bC] at hT;have zf:(s.rd.length:Int)<s.src.length:=aa;generalize hx:s.src[s.rd.length]=x at hT;refine ax ?_;refine dS mixed ah [some none,some none,some none,some (some (.slice (some ⟨sb,0,none⟩) s.src.length sc)),some none,some none,some none,some (some (.slice rp s.rd.length rc)),some none,some none,some (some (.string x)),some none]
  (S:=fun σ o' w'=>o1=o'/\w1=w') ⟨rfl,rfl⟩ fun v=>?_
 refine dR ?_;refine cE ?_;refine cq bS rfl rfl rfl ar ar (fun σ o' w' H hS=>?_) ?_
 ·obtain⟨rfl,rfl⟩:=hS;exact tM h1.aG h1.own c9
 refine cE ?_;refine cq bS rfl rfl rfl ar ar (fun σ o' w' H hS=>?_) ?_
 ·obtain⟨rfl,rfl⟩:=hS;exact tM h1.aG h1.own c10
 refine cE ?_;refine cq bS rfl rfl rfl ar ar (fun σ o' w' H hS=>?_) ?_
 ·obtain⟨rfl,rfl⟩:=hS;exact tM h1.aG Ri hT
 refine cE ?_;refine cD fun σ o3 w3 mC hS=>?_;obtain⟨rfl,rfl⟩:=hS;clear mC;simp only[iM,dK,if_true,if_false,reduceIte,Nat.reduceEqDiff];generalize hz:cm s.st x=rz;generalize K0:(dW s.th x).1=s1;generalize vh:(dW s.th x).2=s2;have Vu:=h1.reads.cl;rw[La] at Vu;refine ax ?_;refine dS mixed ah [some none,some none,some none,some none,some (some (.slice rp s.rd.length rc)),some none,some none,some none,some (some (.pointer (some ⟨K.fb,0,none⟩))),some none,some (some (.agg #[.bool s1,.string s2,.int .i64 rz])),none,none,some none,some none,none]
  (S:=fun σ o' w'=>(σ 12=none/\σ 15=none/\bB (fun _=>False) o1 w1 o' w'/\∀y,σ 11=some y->∃Nb,y=.slice (some ⟨Nb,0,none⟩) 1 1/\w1.heap.size<=Nb/\o' Nb/\w'.heap[Nb]?=some (.cells #[.bool s1,.string s2,.int .i64 rz] 194)) \/
   (∃y,σ 12=some y/\σ 15=none/\(∃p l c,y=.slice p l c)/\K9 o' w' y (s.rd++[((s1,s2),rz)])/\bB (fun b=>s.rv.ownBlock=some b) o1 w1 o' w'/\∀b,y.ownBlock=some b->s.rv.ownBlock=some b\/w1.heap.size<=b) \/
   (∃y,σ 12=some y/\σ 15≠none/\K9 o' w' y (s.rd++[((s1,s2),rz)])/\bB (fun b=>b=K.kb\/s.rv.ownBlock=some b) o1 w1 o' w'/\(∀b,y.ownBlock=some b->s.rv.ownBlock=some b\/w1.heap.size<=b)/\w'.rowIs K.kb 120 13 (sC K {s with rv:=y,rd:=s.rd++[((s1,s2),rz)]} lk))) (.inl ⟨rfl,rfl,hW0,fun y hy=>by cases hy⟩) fun v=>?_
 refine dR ?_;refine cE ?_;refine cq bS rfl rfl rfl ar ar (fun σ o' w' H hS=>?_) ?_
 ·rcases hS with⟨-,-,hW,-⟩|⟨y,qa,-⟩|⟨y,qa,-⟩
  ·have mq:=hW.more _ h1.own;exact tM hW.aG mq ((cell_of (hW.same _ Ub id)).trans c10)
  ·rw[H.qQ [] 12 ah] at qa;cases qa
  ·rw[H.qQ [] 12 ah] at qa;cases qa
 refine cE ?_;refine cq bS rfl rfl rfl ar ar (fun σ o' w' H hS=>?_) ?_
 ·rcases hS with⟨-,-,hW,-⟩|⟨y,qa,-⟩|⟨y,qa,-⟩
  ·have mq:=hW.more _ h1.own;exact tM hW.aG mq ((cell_of (hW.same _ Ub id)).trans c3)
  ·rw[H.qQ [11,10] 12 ah] at qa;cases qa
  ·rw[H.qQ [11,10] 12 ah] at qa;cases qa
 refine cE ?_;refine jU rfl rfl ar rfl func100 ah rfl (av:=#[.pointer (some ⟨K.fb,0,none⟩),.string x]) aI (fun σ o' w' H hS=>?_) ?_
 ·rcases hS with⟨qa,Rv,hW,-⟩|⟨y,qa,-⟩|⟨y,qa,-⟩
  ·refine(YB hW.aG ((h1.yR hW).1).files x).mono ?_;rintro y o2 w2 ⟨rfl,N⟩;exact⟨by rw[K0,vh,hz],.inl ⟨qa,Rv,hW.trans (bB.eL N),fun y hy=>by rw[H.xz 11 ah] at hy;cases hy⟩⟩
  ·rw[H.qQ [11] 12 ah] at qa;cases qa
  ·rw[H.qQ [11] 12 ah] at qa;cases qa
 aE;refine qu bS rfl rfl rfl ar ar (fun σ o' w' H h11 hS=>?_) ?_
 ·rcases hS with⟨qa,Rv,hW,-⟩|⟨y,qa,-⟩|⟨y,qa,-⟩
  ·refine⟨hW.aG,fun y hy=>?_,fun wl v aW=>v=.slice (some ⟨wl.heap.size,0,none⟩) 1 1/\aW=wl.alloc (.cells #[.bool s1,.string s2,.int .i64 rz] 194),fun wl aU=>⟨_,_,by simp[go_sem,Act.eval],rfl,rfl⟩,fun wl y aW w2 aU hR bO=>?_⟩
   ·simp[Op.operands] at hy;subst hy;simp[Act.eval];exact fX (vs:=[_,_,_]) (fun x hx=>by
     simp at hx;rcases hx with rfl|rfl|rfl
     ·exact nf
     ·exact bU
     ·exact dU)
   ·obtain⟨rfl,hR⟩:=hR;obtain⟨z2,k2,Oy⟩:=bO.alloc hW.aG aU hR;refine .inl ⟨by simpa[fR] using qa,by simpa[fR] using Rv,hW.trans ⟨bO.aG,jr,fun b hb=>hb.imp id fun q=>q.1,aa,fun b hb _=>k2 b hb⟩,fun y hy=>?_⟩;simp only[fR,if_true,ay] at hy;exact⟨w'.heap.size,by rw[<- hy,aU.size],hW.size,.inr ⟨ag _,aa⟩,Oy⟩
  ·rw[H.xz 12 ah] at qa;cases qa
  ·rw[H.xz 12 ah] at qa;cases qa
 aE;refine qu bS rfl rfl rfl ar ar (fun σ o' w' H qa hS=>?_) ?_
 ·rcases hS with⟨-,Rv,hW,h9⟩|⟨y,q,-⟩|⟨y,q,-⟩
  ·obtain⟨Nb,hy,hNz,YF,WG⟩:=h9 _ (H.done 11 ah rfl);have hq:=((h1.yR hW).1).reads;rw[La] at hq;obtain⟨TJ,aem,cp⟩:=hq.row;have hqo:=gL hW.aG hq.cl;refine⟨hW.aG,fun y Oi=>?_,fun wl v aW=>aW.ownsRow TJ 194 3 v (s.rd++[((s1,s2),rz)]).length (ff (s.rd++[((s1,s2),rz)]))/\wl.grownBy aW (Value.slice rp s.rd.length rc).ownBlock/\(v.ownBlock=(Value.slice rp s.rd.length rc).ownBlock\/v.ownBlock=some wl.heap.size),fun wl aU=>?_,fun wl y aW w2 aU hR bO=>?_⟩
   ·simp[Op.operands,Call.operands] at Oi;rcases Oi with rfl|rfl
    ·simp[Act.eval];exact hq.cl
    ·simp[Act.eval];rw[hy];exact ee YF
   ·obtain⟨v',W',e1,e2,e3,e4⟩:=Ae wl TJ (.slice rp s.rd.length rc) s.rd ((s1,s2),rz) Nb (dF cp fun g hg _=>aU.heap g (hqo g hg.symm)) aa (by rw[aU.size];exact aem) ((aU.heap _ YF).trans WG);exact⟨v',W',jF (.tmp 39) (.tmp 46) 110 rfl aI (by simp[Act.eval];exact hy) e1,e2,e3,e4⟩
   ·obtain⟨r1,r2,r3⟩:=hR;obtain⟨q1,q2,q3⟩:=K9.add hW.aG hq aa aU bO aem r1 r2 r3;refine .inr (.inl ⟨y,by simp[fR],by simpa[fR] using Rv,?_,q1,?_,fun b hb=>?_⟩)
    ·obtain⟨-,gf⟩:=r1;rcases gf with⟨rfl,-⟩|⟨g',cap,cur,rfl,-⟩
     ·exact⟨_,_,_,rfl⟩
     ·exact⟨_,_,_,rfl⟩
    ·rw[La];exact(hW.mono fun b hb=>hb.elim).trans q2
    ·rw[La];exact(q3 b hb).imp id fun q=>aX hW.size q
  ·rw[qa] at q;cases q
  ·rw[qa] at q;cases q
 refine cE ?_;refine pS bS rfl rfl rfl ar ar (fun σ o' w' H Rv hS=>?_) ?_
 ·rcases hS with⟨qa,-⟩|⟨y,qa,-,⟨p,l,c,rfl⟩,q1,q2,q3⟩|⟨y,qa,q,-⟩
  ·rw[H.done 12 ah rfl] at qa;cases qa
  ·have hv:v 12=.slice p l c:=aR ((H.done 12 ah rfl).symm.trans qa);have hk:=q2.more _ h1.own;have dJ:s.rv.ownBlock≠some K.kb:=fun e=>by have:=h1.l5 _ e;rw[h1.l0] at this;omega
   have aeo:=World.rowIs.of_block h1.row (q2.same _ Ub dJ);refine⟨q2.aG,fun y hy=>?_,fun wl aW=>aW=wl.setCell ⟨K.kb,10,none⟩ (.slice p l c),fun wl aU=>⟨_,?_,rfl⟩,fun wl aW w2 aU hR bO=>?_⟩
   ·simp[Op.operands] at hy;rcases hy with rfl|rfl
    ·simp[Act.eval];exact bX hk
    ·simp[Act.eval];rw[hv];exact q1.cl
   ·have rl:=World.rowIs.of_block aeo (aU.heap _ hk);have e1:=rl.cell (i:=10) aa;have f:=rl.frozen;simp[go_sem,Act.eval,hv,e1,f]
   ·have hO:eK K.kb wl aW:=by rw[hR];exact je _ _ _ _
    obtain⟨on,ow,e9⟩:=bO.only aU hk hO;have mB:=bO.aG;rw[e9] at mB |-;rw[hR] at ow;refine .inr (.inr ⟨.slice p l c,by simpa[fR] using qa,by simp[fR],q1.keep (fun _ q=>q) (bH on.1.symm) (fun g hg=>on.2 g fun e=>?_),(q2.mono fun b hb=>.inr hb).trans (bB.dI mB on (.inl rfl)),q3,(World.rowIs.of_block ((World.rowIs.of_block aeo (aU.heap _ hk)).set 10 _) ow).congr fun j hj=>?_⟩)
    ·rcases q3 g hg with q|q
     ·exact dJ (by rw[q,e])
     ·omega
    ·rcases nz hj with rfl|rfl|rfl|rfl|rfl|rfl|rfl|rfl|rfl|rfl|rfl|rfl|rfl<;>rfl
  ·exact absurd Rv q
 aE;refine cD fun σ o5 w5 mC hS=>?_;rcases hS with⟨qa,-⟩|⟨y,qa,Rv,-⟩|⟨y,-,-,q1,q2,q3,q4⟩
 ·rw[mC 12 eA rfl] at qa;cases qa
 ·rw[mC 15 eA rfl] at Rv;cases Rv
 clear mC;simp only[iM,dK,if_true,if_false,reduceIte,Nat.reduceEqDiff];obtain⟨pf,h5,S5⟩:=h1.aaC q2 q1 q3 q4 dX;have Rw:pf w.heap.size=7:=(S5.lab _ aa).trans qJ;have MQ:=(S5.bt.same w.heap.size aa (by rw[qJ];omega)).trans tN;have xj:=S5.bt.more _ xa;clear q1 q2 q3 q4;refine ax ?_;refine mE 3 x h5.aG xj MQ fun wA AK Ad sY=>?_;obtain⟨hA,SA⟩:=h5.did tI yS S5 Rw AK Ad;refine ax ?_;have c9:∀n,(wA.at n).cell? ⟨w.heap.size,0,none⟩=some (.int .i64 3)/\(wA.at n).cell? ⟨w.heap.size,1,none⟩=some (.string x):=fun n=>⟨(dQ sY).1,(dQ sY).2.1⟩;refine⟨.inr trivial,trivial,.agg #[.int .i64 3,.string x],xc (fun n=>?_) (fun n e he=>?_),_,pf,.inr ⟨cB,by rw[hx];rfl,y,by rw[hx,hz,<- K0,<- vh]⟩,hA,SA⟩
 ·obtain⟨c0,c1⟩:=c9 n;simp[results,results63,go_sem,c0,c1]
 ·obtain⟨c0,c1⟩:=c9 n;simp[results,results63,go_sem,c0,c1] at he;rcases he with rfl|rfl;all_goals exact⟨_,_,_,rfl,xj⟩
theorem bo.WX(h:bo o w K s lk lab)(hF:bN au L0 o w')(hO:eK K.kb w w')(hr:w'.rowIs K.kb 120 13 (fun j=>if j=4+1 then .bool false else if j=4 then .slice none 0 0 else sC K s lk j)):
  bo o w' K {s with qv:=.slice none 0 0,qn:=[],lost:=false} lk lab:=by
 have hW:bB (·=K.kb) o w o w':=bB.dI hF hO rfl;have P:=h.parts hW 0 0 fun b hb=>.inl (by rw[hb];exact h.l0);have q6:=P.set aa aa;obtain⟨f1,f2,f3⟩:=h.gY;refine⟨hF,hr.congr fun j hj=>?_,h.own,P.build aa aa,P.files aa aa,⟨⟨0,aV _,aj,.inl ⟨rfl,rfl⟩⟩,iU⟩,P.cZ aa aa,P.reads aa aa,⟨q6.blk,q6.own,q6.res,q6.cl,q6.gY,q6.jX⟩,h.l0,h.l1,h.l2,(fun b hb=>by cases hb),h.l4,h.l5,h.l6,aj,f2,f3⟩;rcases nz hj with rfl|rfl|rfl|rfl|rfl|rfl|rfl|rfl|rfl|rfl|rfl|rfl|rfl<;>rfl
theorem bo.WY(h:bo o w K s lk lab)(hW:bB (·=K.B.bb) o w o' w'){fd':Option (Nat×da)}(hB:fQ o' w' K.B fd' s.old){mid:Nat}(hm:∀b,nI K.B fd' s.old b->b<mid)(uO:K.B.bb<w.heap.size)(hx:∀b,nI K.B fd' s.old b->nI K.B s.fd s.old b\/w.heap.size<=b):
  ∃lab',bo o' w' K {s with fd:=fd'} lk lab'/\cP o w lab o' w' lab'/\∀b,w.heap.size<=b->mid<=b->lab' b=4:=by
 have xx:∀b,b=K.B.bb->lab b=1:=fun b hb=>(h.l1 b (.inl hb)).trans (if_neg (by have:=h.build.apart.2.2.2.2.1;omega));have P:=h.parts hW 1 1 fun b hb=>.inl (xx b hb);obtain⟨a1,a2,a3,a4⟩:=h.all;have lb:∀b,o b->(if w.heap.size<=b then(if mid<=b then 4 else 1) else lab b)=lab b:=fun b hb=>if_neg (by have:=h.aG.lt hb;omega);have q6:=P.set aa aa;refine⟨fun b=>if w.heap.size<=b then(if mid<=b then 4 else 1) else lab b,⟨hW.aG,P.row aa aa,hW.more _ h.own,hB,P.files aa aa,P.queue aa aa,P.cZ aa aa,P.reads aa aa,⟨q6.blk,q6.own,q6.res,q6.cl,q6.gY,q6.jX⟩,(lb _ h.own).trans h.l0,fun b hb=>?_,fun b hb=>(lb b ?_).trans (h.l2 b hb),fun b hb=>(lb b (a1 b hb)).trans (h.l3 b hb),fun b hb=>(lb b (a2 b hb)).trans (h.l4 b hb),fun b hb=>(lb b (a3 b hb)).trans (h.l5 b hb),fun b hb=>(lb b (a4 b hb)).trans (h.l6 b hb),h.gY⟩,⟨hW.mono fun b hb=>by rw[xx b hb];omega,fun b hb=>if_neg aa⟩,fun b h1 h2=>by simp[h1,h2]⟩
 ·have:=hm b hb;rcases hx b hb with q|q
  ·exact(lb b (h.build.own b q)).trans (h.l1 b q)
  ·have h4:=h.build.apart.2.2.2.2.1;rw[if_pos q,if_neg aa];exact(if_neg aa).symm
 ·rcases hb with rfl|rfl|rfl
  ·exact h.files.own.1
  ·exact h.files.own.2.1
  ·exact h.files.own.2.2
theorem bo.started(h:bo o w K s lk lab){MW:Value}{aaE:List af}(hF:bN au L0 o w')(hO:eK K.kb w w')(hr:w'.rowIs K.kb 120 13 (sC K {s.stand 2 0 with sv:=MW,src:=aaE} lk))(ht:Rt o w MW aaE)(hl:∀b,MW.ownBlock=some b->lab b=4):bo o w' K {s.stand 2 0 with sv:=MW,src:=aaE} lk lab:=by
 have hW:bB (·=K.kb) o w o w':=bB.dI hF hO rfl;have P:=h.parts hW 0 0 fun b hb=>.inl (by rw[hb];exact h.l0);have q6:=P.set aa aa;obtain⟨f1,f2,f3,f4,f5,f6⟩:=h.gY;exact⟨hF,hr,h.own,P.build aa aa,P.files aa aa,P.queue aa aa,ht.keep (fun _ q=>q) (fun g hg=>hO.2 g fun e=>by have:=hl g hg;rw[e,h.l0] at this;omega),Ow,⟨q6.blk,q6.own,q6.res,q6.cl,q6.gY,q6.jX⟩,h.l0,h.l1,h.l2,h.l3,hl,(fun b hb=>by cases hb),h.l6,f1,f2,f3,aV _,aV _,aV _⟩
theorem Kk{B:vt}{fd:Option (Nat×da)}{old:Nat->Option (Nat×List V)}(h:fQ o w B fd old):(fq B.NM B.rs).length<=1000:=by
 have q1:=uN (lJ (B.rs.map (·.out)) (DZ B.NM B.rs) B.rs.length);have q2:=oY (B.rs.map (·.out)) (DZ B.NM B.rs) B.rs.length (fun i hi=>by rw[nt hi];exact h.right.four _ (aH hi)) B.rs.length (ag _);have q3:=h.rules.gY;have:(fq B.NM B.rs).length<=(lJ (B.rs.map (·.out)) (DZ B.NM B.rs) B.rs.length).length:=q1;omega
theorem MX{B:vt}{fd:Option (Nat×da)}{old:Nat->Option (Nat×List V)}{lo n:Nat}{F:da}(h:fQ o w B (some (lo,F)) old)(hf:fd=some (lo,F)\/fd=none/\lo=n):∀b,nI B (some (lo,F)) old b->nI B fd old b\/n<=b:=fun b hb=>by
 rcases hf with rfl|⟨rfl,rfl⟩
 ·exact .inl hb
 ·rcases hb with q|q|q|q|q|⟨TJ,F',e,q⟩|q
  ·exact .inl (.inl q)
  ·exact .inl (.inr (.inl q))
  ·exact .inl (.inr (.inr (.inl q)))
  ·exact .inl (.inr (.inr (.inr (.inl q))))
  ·exact .inl (.inr (.inr (.inr (.inr (.inl q)))))
  ·cases e;obtain⟨y0,y1,y2,-,hp⟩:=h.blk;exact .inr ((hp _ _ rfl).ge q)
  ·exact .inl (.inr (.inr (.inr (.inr (.inr (.inr q))))))
theorem ir.tat{lo:Nat}{ts:List af}{v:Value}(h:ir lo ts v w)(hc:Cl au L0 o v)(hg:∀g l c,v=.slice (some ⟨g,0,none⟩) l c->o g)(hl:ts.length<=1000):Rt o w v ts:=by
 refine⟨?_,hc,hl⟩;rcases h.own with⟨e,e2⟩|⟨g,cap,e,g1,g2,g3⟩
 ·exact⟨none,0,0,by rw[e2];exact e,fun _=>e2,fun q=>absurd e2 q,fun i hi=>by rw[e2] at hi;simp at hi⟩
 ·exact⟨_,g,cap,e,(fun q=>by cases q),fun _=>⟨rfl,hg g _ _ e⟩,g3⟩
def Hg(K:pG)(s s':gV)(v:Value):Prop :=
 ((0<s.qn.length\/s.lost=true)/\v=did 1 aP/\s'=gV.stand {s with qv:=.slice none 0 0,qn:=[],lost:=false} 1 s.time) \/
 (¬(0<s.qn.length\/s.lost=true)/\(s.phase=1/\s.since+5<=s.time)/\v=did 2 aP/\∃lo F MW,s'={s.stand 2 0 with fd:=some (lo,F),sv:=MW,src:=fq K.B.NM K.B.rs}) \/
 (¬(0<s.qn.length\/s.lost=true)/\¬(s.phase=1/\s.since+5<=s.time)/\v=did 0 aP/\s'=s)
theorem aaF(h:bo o w K s lk lab):
  bA au (XB au Fin 0) 65 #[.pointer (some ⟨K.kb,0,none⟩)] o w fun v o' w'=>∃s' lab',Hg K s s' v/\bo o' w' K s' lk lab'/\cP o w lab o' w' lab':=by
 have W:=bY (P:=au) (Fin:=Fin) (d:=0);refine eC W func65 ar ?_;bP Tryz.f65;refine ax ?_;refine dv bS h.aG rfl ar ar ni rfl (R:=fun wl v aW=>v=.pointer (some ⟨wl.heap.size,0,none⟩)/\aW=wl.alloc (Obj.cells #[.int .i64 0,.string aP] 32)) (fun wl aU=>⟨_,_,by simp[go_sem];rfl,rfl,rfl⟩) fun wl v1 aW w1 aU hR bO=>?_;obtain⟨rfl,hR⟩:=hR;obtain⟨z1,k1,tN⟩:=bO.alloc h.aG aU hR;have lD:=bO.aG;rw[aU.size];clear hR bO aU wl aW;obtain⟨dt,h1,yS,qJ,xa,tI⟩:=h.opened lD z1 k1;generalize grow o w w1=o1 at *;obtain⟨p,b,c,hqv,-,-,-,-⟩:=h1.queue.view h1.aG;have c4:w1.cell? ⟨K.kb,4,none⟩=some (.slice p s.qn.length c):=by rw[h1.row.cell aa];exact congrArg some hqv
 have c5:w1.cell? ⟨K.kb,5,none⟩=some (.bool s.lost):=by rw[h1.row.cell aa];rfl
 have c6:w1.cell? ⟨K.kb,6,none⟩=some (.int .i64 s.time):=by rw[h1.row.cell aa];rfl
 have c7:w1.cell? ⟨K.kb,7,none⟩=some (.int .i64 s.phase):=by rw[h1.row.cell aa];rfl
 have c8:w1.cell? ⟨K.kb,8,none⟩=some (.int .i64 s.since):=by rw[h1.row.cell aa];rfl
 have Ub:=h1.aG.lt h1.own;have S11:cP o1 w1 dt o1 w1 dt:=.of (ex:=fun _=>False) (bB.refl h1.aG) fun b hb=>hb.elim;have dJ:w.heap.size≠K.kb:=fun e=>by have:=h1.l0;rw[<- e,qJ] at this;omega
 refine ax ?_;refine cj func103 (WO h1.aG K.kb 4 s.qn.length c p s.lost h1.own c4 c5) ?_;rintro v0 o2 w2 ⟨rfl,rfl,rfl⟩;refine ax ?_;refine ig W (t:=decide (0<s.qn.length)||s.lost) aI ?_;by_cases hq:0<s.qn.length\/s.lost=true
 ·rw[if_pos (by simpa using hq)];refine ax ?_;refine cj func104 (WQ h1.aG K.kb 4 120 13 _ h1.own h1.row aa) ?_;rintro v0 o2' w3 ⟨rfl,rfl,pE,Kc,aiK⟩;have h3:=h1.WX pE Kc aiK;have S3:cP o2' w2 dt o2' w3 dt:=.of (bB.dI (ex:=(·=K.kb)) pE Kc rfl) fun b hb=>by rw[hb,h1.l0];omega
  refine ax ?_;refine cj func102 (T1 h3) ?_;rintro v0 o4 w4 ⟨rfl,S4,h4⟩;have S34:=S3.trans S4;have yP:=(S34.bt.same w.heap.size aa (by rw[qJ];omega)).trans tN;have tK:=S34.bt.more _ xa;refine ax ?_;refine mE 1 aP h4.aG tK yP fun wA AK Ad sY=>?_;obtain⟨hA,SA⟩:=h4.did tI yS S34 qJ AK Ad;refine ax ?_;have c9:∀n,(wA.at n).cell? ⟨w.heap.size,0,none⟩=some (.int .i64 1)/\(wA.at n).cell? ⟨w.heap.size,1,none⟩=some (.string aP):=fun n=>⟨(dQ sY).1,(dQ sY).2.1⟩;refine⟨.inr trivial,trivial,.agg #[.int .i64 1,.string aP],xc (fun n=>?_) (fun n e he=>?_),_,dt,.inl ⟨hq,rfl,rfl⟩,hA,SA⟩
  ·obtain⟨c0,c1⟩:=c9 n;simp[results,results65,go_sem,c0,c1]
  ·obtain⟨c0,c1⟩:=c9 n;simp[results,results65,go_sem,c0,c1] at he;rcases he with rfl|rfl;all_goals exact⟨_,_,_,rfl,tK⟩
 rw[if_neg (by simpa using hq)];refine ax ?_;obtain⟨-,-,f3,f4,-⟩:=h1.gY;by_cases hp:s.phase=1
 ·have hpi:((s.phase:Int)==1)=true:=by simp[hp]
  have ve:IntKind.i64.wrap ((s.time:Int)-s.since)=(s.time:Int)-s.since:=by rw[IntKind.wrap_i64]<;>omega
  refine dS mixed ah [some none,some none,some none,some none,some (some (.int .i64 s.phase)),some none,some none,some none,some none,some none,some (some (.int .i64 s.time)),some none,some none,some none,some none,some (some (.int .i64 s.since)),some none,some none,some none]
   (S:=fun σ o' w'=>o2=o'/\w2=w') ⟨rfl,rfl⟩ fun v=>?_
  refine dR ?_;refine cE ?_;refine cq bS rfl rfl rfl ar ar (fun σ o' w' H hS=>?_) ?_
  ·obtain⟨rfl,rfl⟩:=hS;exact tM h1.aG h1.own c7
  aE;refine rB (y:=.bool true) rfl rfl rfl ar (fun w1=>by simp[go_sem,Act.eval,hpi]) (fun w1=>by simp[go_sem,Act.eval]) ?_;refine cE ?_;refine cq bS rfl rfl rfl ar ar (fun σ o' w' H hS=>?_) ?_
  ·obtain⟨rfl,rfl⟩:=hS;exact tM h1.aG h1.own c6
  refine cE ?_;refine cq bS rfl rfl rfl ar ar (fun σ o' w' H hS=>?_) ?_
  ·obtain⟨rfl,rfl⟩:=hS;exact tM h1.aG h1.own c8
  refine cE ?_;refine cD fun σ o3 w3 mC hS=>?_;obtain⟨rfl,rfl⟩:=hS;clear mC;simp only[iM,dK,if_true,if_false,reduceIte,Nat.reduceEqDiff];refine ig W (t:=decide (s.since+5<=s.time)) (by simp[Act.eval,ve];omega) ?_;by_cases ht:s.since+5<=s.time
  ·rw[if_pos (cW ht)];have c2:w2.cell? ⟨K.kb,2,none⟩=some (.pointer (some ⟨K.B.bb,0,none⟩)):=by rw[h1.row.cell aa];rfl
   refine ax ?_;refine lz h1.aG h1.own c2 fun _=>?_;refine ax ?_;refine cj func44 (FI h1.aG K.B s.fd s.old h1.build) ?_;rintro v3 o3 w3 ⟨W3,⟨lo,F,mid,hB,D2,LL,hm,hmv⟩,aeq,ht3,hg3⟩;obtain⟨kQ,h3,S3,L3⟩:=h1.WY W3 hB hm (h1.aG.lt (h1.build.own _ (.inl rfl))) (MX hB D2);obtain⟨p3,l3,c3,rfl⟩:=uR ht3;have tat:=ht3.tat aeq hg3 (Kk hB);have Bz:kQ w.heap.size=7:=(S3.lab _ aa).trans qJ;have sJ:=(S3.bt.same w.heap.size aa (by rw[qJ];omega)).trans tN;have vn:=S3.bt.more _ xa;refine ax ?_;refine dz bS h3.aG rfl ar ar ?_ rfl (R:=fun wl aW=>aW=((((wl.setCell ⟨K.kb,7,none⟩ (.int .i64 (2:Nat))).setCell ⟨K.kb,8,none⟩ (.int .i64 (0:Nat))).setCell ⟨K.kb,9,none⟩ (.slice p3 l3 c3)).setCell ⟨K.kb,10,none⟩ (.slice none 0 0)).setCell ⟨K.kb,11,none⟩ (.int .i64 0)) (fun wl aU=>⟨_,?_,rfl⟩) fun wl aW w9 aU hR bO=>?_
   ·refine ja ?_ ?_
    ·exact bX h3.own
    ·exact fX (vs:=[_,_,_,_,_]) (fun x hx=>by
      simp at hx;rcases hx with rfl|rfl|rfl|rfl|rfl
      ·exact dU
      ·exact dU
      ·exact aeq
      ·exact iU
      ·exact dU)
   ·have rl:=World.rowIs.of_block h3.row (aU.heap _ h3.own);have e7:=rl.cell (i:=7) aa;have e8:=rl.cell (i:=8) aa;have e9:=rl.cell (i:=9) aa;have XU:=rl.cell (i:=10) aa;have RP:=rl.cell (i:=11) aa;have f:=rl.frozen;simp[go_sem,e7,e8,e9,XU,RP,f]
   have hO:eK K.kb wl aW:=by rw[hR];exact TZ _ _ _ _ _ _ _ _ _ _ _ _
   obtain⟨lV,ow,e9⟩:=bO.only aU h3.own hO;have mB:=bO.aG;rw[e9] at mB |-;rw[hR] at ow;have h9:=h3.started mB lV ((World.rowIs.of_block ((((((World.rowIs.of_block h3.row (aU.heap _ h3.own)).set 7 _).set 8 _).set 9 _).set 10 _).set 11 _) ow).congr fun j hj=>by
    rcases nz hj with rfl|rfl|rfl|rfl|rfl|rfl|rfl|rfl|rfl|rfl|rfl|rfl|rfl<;>rfl) tat (fun b hb=>L3 b (by have:=hmv b hb;omega) (hmv b hb))
   have S9:=S3.trans (.of (bB.dI (ex:=(·=K.kb)) mB lV rfl) fun b hb=>by rw[hb,h3.l0];omega);have kbA:=(lV.2 _ dJ).trans sJ;clear hR bO aU hO ow wl aW e9;refine ax ?_;refine mE 2 aP h9.aG vn kbA fun wA AK Ad sY=>?_;obtain⟨hA,SA⟩:=h9.did tI yS S9 Bz AK Ad;refine ax ?_;have c9:∀n,(wA.at n).cell? ⟨w.heap.size,0,none⟩=some (.int .i64 2)/\(wA.at n).cell? ⟨w.heap.size,1,none⟩=some (.string aP):=fun n=>⟨(dQ sY).1,(dQ sY).2.1⟩;refine⟨.inr trivial,trivial,.agg #[.int .i64 2,.string aP],xc (fun n=>?_) (fun n e he=>?_),_,kQ,.inr (.inl ⟨hq,⟨hp,ht⟩,rfl,lo,F,_,rfl⟩),hA,SA⟩
   ·obtain⟨c0,c1⟩:=c9 n;simp[results,results65,go_sem,c0,c1]
   ·obtain⟨c0,c1⟩:=c9 n;simp[results,results65,go_sem,c0,c1] at he;rcases he with rfl|rfl;all_goals exact⟨_,_,_,rfl,vn⟩
  ·rw[if_neg (by simpa using ht)];refine ax ?_;refine mE 0 aP h1.aG xa tN fun wA AK Ad sY=>?_;obtain⟨hA,SA⟩:=h1.did tI yS S11 qJ AK Ad;refine ax ?_;have c9:∀n,(wA.at n).cell? ⟨w.heap.size,0,none⟩=some (.int .i64 0)/\(wA.at n).cell? ⟨w.heap.size,1,none⟩=some (.string aP):=fun n=>⟨(dQ sY).1,(dQ sY).2.1⟩;refine⟨.inr trivial,trivial,.agg #[.int .i64 0,.string aP],xc (fun n=>?_) (fun n e he=>?_),_,dt,.inr (.inr ⟨hq,fun q=>ht q.2,rfl,rfl⟩),hA,SA⟩
   ·obtain⟨c0,c1⟩:=c9 n;simp[results,results65,go_sem,c0,c1]
   ·obtain⟨c0,c1⟩:=c9 n;simp[results,results65,go_sem,c0,c1] at he;rcases he with rfl|rfl;all_goals exact⟨_,_,_,rfl,xa⟩
 ·have hpi:((s.phase:Int)==1)=false:=dX;refine dS mixed ah [some none,some none,some none,some none,some (some (.int .i64 s.phase)),some none,some none,some (some undef),some (some undef),some (some undef),some (some undef),some (some undef),some (some undef),some (some undef),some (some undef),some (some undef),some (some undef),some (some undef),some none]
   (S:=fun σ o' w'=>o2=o'/\w2=w') ⟨rfl,rfl⟩ fun v=>?_
  refine dR ?_;refine cE ?_;refine cq bS rfl rfl rfl ar ar (fun σ o' w' H hS=>?_) ?_
  ·obtain⟨rfl,rfl⟩:=hS;exact tM h1.aG h1.own c7
  aE;refine rB (y:=.bool false) rfl rfl rfl ar (fun w1=>by simp[go_sem,Act.eval,hpi]) (fun w1=>by simp[go_sem,Act.eval]) ?_;refine cE ?_
  iterate 11 (refine ZM rfl rfl ar ?_;aE)
  refine cE ?_;refine cD fun σ o3 w3 mC hS=>?_;obtain⟨rfl,rfl⟩:=hS;clear mC;simp only[iM,dK,if_true,if_false,reduceIte,Nat.reduceEqDiff];refine ig W (t:=false) aI ?_;refine ax ?_;refine mE 0 aP h1.aG xa tN fun wA AK Ad sY=>?_;obtain⟨hA,SA⟩:=h1.did tI yS S11 qJ AK Ad;refine ax ?_;have c9:∀n,(wA.at n).cell? ⟨w.heap.size,0,none⟩=some (.int .i64 0)/\(wA.at n).cell? ⟨w.heap.size,1,none⟩=some (.string aP):=fun n=>⟨(dQ sY).1,(dQ sY).2.1⟩;refine⟨.inr trivial,trivial,.agg #[.int .i64 0,.string aP],xc (fun n=>?_) (fun n e he=>?_),_,dt,.inr (.inr ⟨hq,fun q=>hp q.1,rfl,rfl⟩),hA,SA⟩
  ·obtain⟨c0,c1⟩:=c9 n;simp[results,results65,go_sem,c0,c1]
  ·obtain⟨c0,c1⟩:=c9 n;simp[results,results65,go_sem,c0,c1] at he;rcases he with rfl|rfl;all_goals exact⟨_,_,_,rfl,xa⟩
theorem xo{Post:Value->aN->ae->Prop}{A:Nat}{n:Int}{x:af}(h:bo o w K s 1 lab)(hb:w.heap[A]?=some (.cells #[.int .i64 n,.string x] 32))(dJ:A≠K.kb)(hA:o A)(tm:Array Value)(ht:tm.getD 2 undef=.pointer (some ⟨A,0,none⟩))(hp:∀w',bo o w' K s 0 lab->eK K.kb w w'->Post (did n x) o w'):
  jP (XB au Fin 0) 38 Post ⟨tm,[{target:=.fn (.func 46) #[],args:=#[.pointer (some ⟨K.kb,0,none⟩)]}]⟩ o w:=by
 have W:=bY (P:=au) (Fin:=Fin) (d:=0);refine h.unlock tm fun w' hk hz hs=>Md W func38 rfl (xc (fun n=>?_) (fun n e he=>?_)) (hp w' hk ⟨hz,hs⟩)
 ·have kb:=(hs A dJ).trans hb;have c0:(w'.at n).cell? ⟨A,0,none⟩=_:=(dQ kb).1;have c1:(w'.at n).cell? ⟨A,1,none⟩=_:=(dQ kb).2.1;simp at ht;simp[results,results38,go_sem,ht,c0,c1,did]
 ·have kb:=(hs A dJ).trans hb;have c0:(w'.at n).cell? ⟨A,0,none⟩=_:=(dQ kb).1;have c1:(w'.at n).cell? ⟨A,1,none⟩=_:=(dQ kb).2.1;simp at ht;simp[results,results38,go_sem,ht,c0,c1] at he;rcases he with rfl|rfl;all_goals exact⟨_,_,_,rfl,hA⟩
theorem Hg.shape{s':gV}{v:Value}(h:Hg K s s' v):∃n x,v=did n x:=by
 rcases h with⟨-,e,-⟩|⟨-,-,e,-⟩|⟨-,-,e,-⟩
 ·exact⟨_,_,e⟩
 ·exact⟨_,_,e⟩
 ·exact⟨_,_,e⟩
theorem Hf.shape{s':gV}{F:da}{file:af->V}{v:Value}(h:Hf K s s' F file v):∃n x,v=did n x:=by
 rcases h with⟨-,e⟩|⟨_,e,-⟩
 ·exact e.shape
 ·exact⟨_,_,e⟩
def jZ(K:pG)(s s':gV)(F:da)(file:af->V)(v:Value):Prop :=
 (s.phase=2/\Hf K s s' F file v)\/(s.phase=3/\Checked K s s' F file v)\/(s.phase≠2/\s.phase≠3/\Hg K s s' v)
theorem aaG[Payload](h:bo o w K s 0 lab)(lo:Nat)(F:da)(file:af->V)(pF:∀x,(file x).2.size<=100)(D2:s.phase=2\/s.phase=3->s.fd=some (lo,F))(h2r:s.phase=2->s.rd.length=s.src.length->s.rd.map (·.1)=(fq K.B.NM K.B.rs).map file)(h3r:s.phase=3->s.rd.length=s.src.length/\s.rd.map (·.1)=(fq K.B.NM K.B.rs).map file):
  bA au (XB au Fin 0) 38 #[.pointer (some ⟨K.kb,0,none⟩)] o w fun v o' w'=>∃s' lab',jZ K s s' F file v/\bo o' w' K s' 0 lab'/\cP o w lab o' w' lab':=by
 have W:=bY (P:=au) (Fin:=Fin) (d:=0);refine oQ W func38 ar ?_;bP Tryz.f38;refine ax ?_;refine dv bS h.aG rfl ar ar ni rfl (R:=fun wl v aW=>v=.pointer (some ⟨wl.heap.size,0,none⟩)/\aW=wl.alloc (Obj.cells #[.int .i64 0,.string aP] 32)) (fun wl aU=>⟨_,_,by simp[go_sem];rfl,rfl,rfl⟩) fun wl v1 aW w1 aU hR bO=>?_;obtain⟨rfl,hR⟩:=hR;obtain⟨z1,k1,tN⟩:=bO.alloc h.aG aU hR;have lD:=bO.aG;rw[aU.size];clear hR bO aU wl aW;obtain⟨dt,h1,yS,qJ,xa,tI⟩:=h.opened lD z1 k1;generalize grow o w w1=o1 at *;have dJ:w.heap.size≠K.kb:=fun e=>by have:=h1.l0;rw[<- e,qJ] at this;omega
 refine ax ?_;refine cj func45 (CZ K.kb 0 h1.own (by rw[h1.row.cell aa];rfl) (h1.row.frozen 0)) ?_;rintro v0 o0 w0 ⟨rfl,rfl,rfl⟩;have h2:=h1.lock (lk':=1);have S2:=cP.lock h1 (lk':=1);have YG:=je w1 K.kb 0 (.int .i32 1);generalize w1.setCell ⟨K.kb,0,none⟩ (.int .i32 1)=w2 at h2 YG S2 |-;have Oy:=(YG.2 _ dJ).trans tN;refine ax ?_;refine mw W (d:={target:=.fn (.func 46) #[],args:=#[.pointer (some ⟨K.kb,0,none⟩)]}) rfl ar (fun w1=>fU) (fun w1=>fU) rfl ?_;aE;have c7:w2.cell? ⟨K.kb,7,none⟩=some (.int .i64 s.phase):=by rw[h2.row.cell aa];rfl
 refine ax ?_;refine lz h2.aG h2.own c7 fun _=>?_;refine ax ?_;refine ig W (t:=decide (s.phase=2)) (by simp[Act.eval];rw[dM];simp;omega) ?_;by_cases p2:s.phase=2
 ·rw[if_pos (cW p2)];refine ax ?_;refine cj func63 (MV h2 lo F (D2 (.inl p2)) file pF (h2r p2)) ?_;rintro v0 o4 w4 ⟨s',sF,vK,h4,S4⟩;have HK:sF w.heap.size=7:=(S4.lab _ (by rw[YG.1];omega)).trans qJ;have yP:=(S4.bt.same w.heap.size (by rw[YG.1];omega) (by rw[qJ];omega)).trans Oy;have tK:=S4.bt.more _ xa;have S94:=S2.trans S4;obtain⟨dn,dx,rfl⟩:=vK.shape;unfold did at vK |-;aE;refine mE dn dx h4.aG tK yP fun wA AK Ad sY=>?_;obtain⟨hA,SA⟩:=h4.did tI yS S94 HK AK Ad;refine ax ?_;exact⟨.inr trivial,xo hA sY dJ tK _ rfl fun w' hk on=>⟨s',_,.inl ⟨p2,vK⟩,hk,SA.trans (.of (bB.dI (ex:=(·=K.kb)) hk.aG on rfl) fun b hb=>by rw[hb,hA.l0];omega)⟩⟩
 rw[if_neg (by simpa using p2)];refine ax ?_;refine ig W (t:=decide (s.phase=3)) (by simp[Act.eval];rw[dM];simp;omega) ?_;by_cases p3:s.phase=3
 ·rw[if_pos (cW p3)];refine ax ?_;refine cj func64 (AL h2 (h3r p3).1 lo F (D2 (.inr p3)) file pF (h3r p3).2) ?_;rintro v0 o4 w4 ⟨s',sF,vK,h4,S4⟩;have HK:sF w.heap.size=7:=(S4.lab _ (by rw[YG.1];omega)).trans qJ;have yP:=(S4.bt.same w.heap.size (by rw[YG.1];omega) (by rw[qJ];omega)).trans Oy;have tK:=S4.bt.more _ xa;have S94:=S2.trans S4;obtain⟨dn,dx,rfl⟩:=vK.shape;unfold did at vK |-;aE;refine mE dn dx h4.aG tK yP fun wA AK Ad sY=>?_;obtain⟨hA,SA⟩:=h4.did tI yS S94 HK AK Ad;refine ax ?_;exact⟨.inr trivial,xo hA sY dJ tK _ rfl fun w' hk on=>⟨s',_,.inr (.inl ⟨p3,vK⟩),hk,SA.trans (.of (bB.dI (ex:=(·=K.kb)) hk.aG on rfl) fun b hb=>by rw[hb,hA.l0];omega)⟩⟩
 rw[if_neg (by simpa using p3)];refine ax ?_;refine cj func65 (aaF h2) ?_;rintro v0 o4 w4 ⟨s',sF,vK,h4,S4⟩;have HK:sF w.heap.size=7:=(S4.lab _ (by rw[YG.1];omega)).trans qJ;have yP:=(S4.bt.same w.heap.size (by rw[YG.1];omega) (by rw[qJ];omega)).trans Oy;have tK:=S4.bt.more _ xa;have S94:=S2.trans S4;obtain⟨dn,dx,rfl⟩:=vK.shape;unfold did at vK |-;aE;refine mE dn dx h4.aG tK yP fun wA AK Ad sY=>?_;obtain⟨hA,SA⟩:=h4.did tI yS S94 HK AK Ad;refine ax ?_;exact⟨.inr trivial,xo hA sY dJ tK _ rfl fun w' hk on=>⟨s',_,.inr (.inr ⟨p2,p3,vK⟩),hk,SA.trans (.of (bB.dI (ex:=(·=K.kb)) hk.aG on rfl) fun b hb=>by rw[hb,hA.l0];omega)⟩⟩
end
section
variable {Fin:bL} {o o' o1 o2:aN} {w w' w1 w2:ae} {K:pG} {s:gV} {lk:Int} {lab fW:Nat->Nat}
theorem cP.beside{A:Nat}(S:cP o w lab o2 w2 fW)(hW:bB (fun b=>b=A) o2 w2 o' w')(hA:w.heap.size<=A):cP o w lab o' w' fW:=by
 have hz:=S.bt.size;have Tx:=hW.size;exact⟨⟨hW.aG,fun b hb=>hW.more b (S.bt.more b hb),fun b hb=>(hW.new b hb).elim (fun q=>S.bt.new b q) fun q=>.inr aa,aa,fun b hb hx=>(hW.same b aa aa).trans (S.bt.same b hb hx)⟩,S.lab⟩
end
section
variable {Fin:bL} {o o' o2 o3:aN} {w w' w2 w3:ae} {K:pG} {s:gV} {lk:Int} {lab fW:Nat->Nat}
theorem cP.refl(hF:bN au L0 o w):cP o w lab o w lab:=⟨bB.refl hF,fun _ _=>rfl⟩
theorem bo.grown(h:bo o2 w2 K s lk fW)(S:cP o w lab o2 w2 fW)(hW:bB (fun _=>False) o2 w2 o3 w3):∃kQ,bo o3 w3 K s lk kQ/\cP o w lab o3 w3 kQ/\(∀b,b<w2.heap.size->kQ b=fW b)/\∀b,w2.heap.size<=b->kQ b=7:=by
 have hl:∀b,b<w2.heap.size->(if b<w2.heap.size then fW b else 7)=fW b:=fun b hb=>if_pos hb;refine⟨fun b=>if b<w2.heap.size then fW b else 7,((h.Kg fun b hb=>hl b (h.aG.lt hb)).yR hW).1,S.trans ⟨hW.mono fun b hb=>hb.elim,hl⟩,hl,fun b hb=>if_neg aa⟩
theorem bo.wrote{A:Nat}(h:bo o2 w2 K s lk fW)(S:cP o w lab o2 w2 fW)(hl:fW A=7)(hA:w.heap.size<=A)(hF:bN au L0 o2 w3)(on:eK A w2 w3):bo o2 w3 K s lk fW/\cP o w lab o2 w3 fW :=
 ⟨h.aside (ex:=fun b=>b=A) (bB.dI hF on rfl) fun b hb=>by rw[hb];exact hl,S.beside (bB.dI hF on rfl) hA⟩
theorem bB.qF(hF:bN au L0 (grow o w w') w')(z:w'.heap.size=w.heap.size+1)(k:∀b,b<w.heap.size->w'.heap[b]?=w.heap[b]?):bB (fun _=>False) o w (grow o w w') w'/\grow o w w' w.heap.size :=
 ⟨⟨hF,jr,fun b hb=>hb.imp id fun q=>q.1,aa,fun b hb _=>k b hb⟩,.inr ⟨ag _,aa⟩⟩
end
section
open Go.RowKit
theorem MY:(au.info? 65).map (fun i=>(i.zero,i.size,i.bytes))=some (some (.agg #[.string aP,.string aP,.bool false]),3,40):=ah
theorem Hh(b c n:Nat)(p:Option Addr)(xs:List Value)(w:ae)(hl:xs.length=n*3)(hn:n<=1000)(hp:p=none->n=0)(hq:n≠0->p=some ⟨b,0,none⟩)(hx:∀j u,xs[j]?=some u->w.cell? ⟨b,j,none⟩=some u)(h1:∀u∈xs,u.oneCell'=true):
  Calls au 50 #[.slice p n c] w fun e w'=>∃v,e=.returned v/\w'.ownsRow w.heap.size 65 3 v n xs/\Below w.heap.size w w'/\w.heap.size<=w'.heap.size:=by
 have q24:∀(w:ae) (a:Option Addr) (n c n' c':Nat),(binOp .eql 46 (.slice a n c) (.slice none n' c')).run au w=.ok (.bool a.isNone) w:=fun w a n c n' c'=>Lib.run_eql_slice_nil w _ _ a n c n' c' underlying46;go_enter func50,ntmps50;cases p with
 |none =>
  have KV:=hp rfl;subst KV;have HE:xs=[]:=List.length_eq_zero_iff.1 aa;subst HE;go_wp2;go_ret;exact⟨_,rfl,⟨aj,.inl ⟨rfl,rfl⟩⟩,Below.refl _ _,ag _⟩
 |some a =>
  obtain⟨i,hi,ov⟩:=Option.map_eq_some_iff.1 MY;simp only[bu] at ov;have fy:(w.alloc (.cells #[] 65)).ownsRow w.heap.size 65 3 (.slice (some ⟨w.heap.size,0,none⟩) 0 0) 0 []:=⟨aj,.inr ⟨w.heap.size,0,#[],rfl,ag _,jW w _,ag _,by simp[maxLen],aj,aj⟩⟩;have mq:∀j u,xs[j]?=some u->(w.alloc (.cells #[] 65)).cell? (a.add j)=some u:=fun j u hu=>by
   have KV:n≠0:=fun e=>by
    subst e;have HE:xs=[]:=List.length_eq_zero_iff.1 aa;subst HE;simp at hu
   have ha:=hq KV;cases ha;have hc:=hx j u hu;have hb:b<w.heap.size:=a8 fun q=>by
    simp[World.cell?,Array.getElem?_eq_none (Nat.le_of_not_lt q)] at hc
   have:(⟨b,0,none⟩:Addr).add j=⟨b,j,none⟩:=by simp[Addr.add];omega
   rw[this,((Below.refl w.heap.size w).alloc (ag _) _).cell (p:=⟨b,j,none⟩) hb];exact hc
  obtain⟨v',W',e1,e2,e3,_⟩:=run_append_own (P:=au) (w.alloc (.cells #[] 65)) w.heap.size 46 46 65 i _ 3 40 underlying46 hi ov.1 ov.2.1 ov.2.2 rfl aa _ 0 [] fy a n c xs hl mq h1 (by simp[maxLen];omega) aa aj;have xA:=Below.grown ((Below.refl w.heap.size w).alloc (ag _) (.cells #[] 65)) e3 aj (fun k hk=>by cases hk;exact ag _);go_wp2_with (at_builtin;refine gw rfl _ _ 46 rfl rfl rfl e1 ?_);go_ret;exact⟨_,rfl,by simpa using e2,xA,xA.size⟩
theorem EB(b c n:Nat)(p:Option Addr)(xs:List Value)(w:ae)(hl:xs.length=n*3)(hn:n<=1000)(hp:p=none->n=0)(hq:n≠0->p=some ⟨b,0,none⟩)(hx:∀j u,xs[j]?=some u->w.cell? ⟨b,j,none⟩=some u)(h1:∀u∈xs,u.oneCell'=true):
  Calls au 71 #[.slice p n c] w fun e w'=>∃v,e=.returned v/\w'.ownsRow w.heap.size 42 3 v n xs/\Below w.heap.size w w'/\w.heap.size<=w'.heap.size:=by
 have q24:∀(w:ae) (a:Option Addr) (n c n' c':Nat),(binOp .eql 35 (.slice a n c) (.slice none n' c')).run au w=.ok (.bool a.isNone) w:=fun w a n c n' c'=>Lib.run_eql_slice_nil w _ _ a n c n' c' underlying35;go_enter func71,ntmps71;cases p with
 |none =>
  have KV:=hp rfl;subst KV;have HE:xs=[]:=List.length_eq_zero_iff.1 aa;subst HE;go_wp2;go_ret;exact⟨_,rfl,⟨aj,.inl ⟨rfl,rfl⟩⟩,Below.refl _ _,ag _⟩
 |some a =>
  obtain⟨i,hi,ov⟩:=Option.map_eq_some_iff.1 C0;simp only[bu] at ov;have fy:(w.alloc (.cells #[] 42)).ownsRow w.heap.size 42 3 (.slice (some ⟨w.heap.size,0,none⟩) 0 0) 0 []:=⟨aj,.inr ⟨w.heap.size,0,#[],rfl,ag _,jW w _,ag _,by simp[maxLen],aj,aj⟩⟩;have mq:∀j u,xs[j]?=some u->(w.alloc (.cells #[] 42)).cell? (a.add j)=some u:=fun j u hu=>by
   have KV:n≠0:=fun e=>by
    subst e;have HE:xs=[]:=List.length_eq_zero_iff.1 aa;subst HE;simp at hu
   have ha:=hq KV;cases ha;have hc:=hx j u hu;have hb:b<w.heap.size:=a8 fun q=>by
    simp[World.cell?,Array.getElem?_eq_none (Nat.le_of_not_lt q)] at hc
   have:(⟨b,0,none⟩:Addr).add j=⟨b,j,none⟩:=by simp[Addr.add];omega
   rw[this,((Below.refl w.heap.size w).alloc (ag _) _).cell (p:=⟨b,j,none⟩) hb];exact hc
  obtain⟨v',W',e1,e2,e3,_⟩:=run_append_own (P:=au) (w.alloc (.cells #[] 42)) w.heap.size 35 35 42 i _ 3 48 underlying35 hi ov.1 ov.2.1 ov.2.2 rfl aa _ 0 [] fy a n c xs hl mq h1 (by simp[maxLen];omega) aa aj;have xA:=Below.grown ((Below.refl w.heap.size w).alloc (ag _) (.cells #[] 42)) e3 aj (fun k hk=>by cases hk;exact ag _);go_wp2_with (at_builtin;refine gw rfl _ _ 35 rfl rfl rfl e1 ?_);go_ret;exact⟨_,rfl,by simpa using e2,xA,xA.size⟩
end
section
variable {Fin:bL} {o o':aN} {w w':ae} {K:pG} {s:gV} {lk:Int} {lab:Nat->Nat}
def aaH(lo:Nat)(rs:List (af×V))(v:Value)(w':ae):Prop:=(v=.slice none 0 0/\rs=[])\/∃g cap,v=.slice (some ⟨g,0,none⟩) rs.length cap/\lo<=g/\g<w'.heap.size/\nJ w' g rs
def gy(rs:List (af×V)):List Value:=(rs.map fun r=>[Value.string r.1,.string r.2.2,.bool (!r.2.1)]).flatten
theorem yT(rs:List (af×V)):(gy rs).length=rs.length*3:=by
 induction rs with
 |nil=>rfl
 |cons r rs ih =>
  have e:gy (r::rs)=.string r.1 :: .string r.2.2 :: .bool (!r.2.1)::gy rs:=by simp[gy]
  rw[e];simp[ih];omega
theorem sZ:∀(rs:List (af×V)) (i:Nat) (h:i<rs.length),(gy rs)[i*3]?=some (.string rs[i].1)/\(gy rs)[i*3+1]?=some (.string rs[i].2.2)/\(gy rs)[i*3+2]?=some (.bool (!rs[i].2.1))
 |r::rs,0,h=>by simp[gy]
 |r::rs,i+1,h=>by
  have ih:=sZ rs i (by simpa using h);have e:gy (r::rs)=.string r.1 :: .string r.2.2 :: .bool (!r.2.1)::gy rs:=by simp[gy]
  have e2:(i+1)*3=i*3+1+1+1:=aa;rw[e,e2];simpa using ih
theorem Hi(rs:List (af×V)):∀u∈gy rs,u.oneCell'=true:=fun u hu=>by
 simp only[gy,List.mem_flatten,List.mem_map] at hu;obtain⟨l,⟨r,-,rfl⟩,hu⟩:=hu;simp at hu;rcases hu with rfl|rfl|rfl<;>rfl
theorem Kl{b:Nat}{rs:List (af×V)}(h:nJ w b rs):∀j u,(gy rs)[j]?=some u->w.cell? ⟨b,j,none⟩=some u:=fun j u hu=>by
 have hj:j<rs.length*3:=by
  rw[<- yT];exact(List.getElem?_eq_some_iff.1 hu).1
 have hi:j/3<rs.length:=aa;obtain⟨c0,c1,c2⟩:=sZ rs (j/3) hi;obtain⟨d0,d1,d2⟩:=h (j/3) hi;have h3:j=j/3*3\/j=j/3*3+1\/j=j/3*3+2:=aa;generalize j/3=i at *;rcases h3 with rfl|rfl|rfl
 ·rw[c0] at hu;rw[d0];exact hu
 ·rw[c1] at hu;rw[d1];exact hu
 ·rw[c2] at hu;rw[d2];exact hu
theorem ky{w w':ae}{b:Nat}{rs:List (af×V)}(h:nJ w b rs)(e:w'.heap[b]?=w.heap[b]?):nJ w' b rs:=fun i hi=>⟨(cell_of e).trans (h i hi).1,(cell_of e).trans (h i hi).2.1,(cell_of e).trans (h i hi).2.2⟩
theorem MZ(hF:bN au L0 o w)(v0:Value)(b c:Nat)(p:Option Addr)(rs:List (af×V))(OT:v0=.slice p rs.length c)(hn:rs.length<=1000)(hp:p=none->rs=[])(hq:rs≠[]->p=some ⟨b,0,none⟩/\o b)(ht:nJ w b rs)(hc:Cl au L0 o v0):
  bA au (XB au Fin 0) 50 #[v0] o w fun v o' w'=>fY o w v o' w'/\aaH w.heap.size rs v w':=by
 refine bA.mono (eF ah hF (fun x hx=>by simp at hx;subst hx;exact hc) (Q:=fun wl v w'=>w'.ownsRow wl.heap.size 65 3 v rs.length (gy rs)) (fun wl Ba v w1 w2 e1 e2 h=>?_) (fun wl hz aU=>?_)) (fun v o' w' hq=>?_)
 ·rw[e1];exact dF h fun g _ _=>by rw[e2]
 ·subst OT;refine(Hh b c rs.length p (gy rs) wl (yT rs) hn (fun e=>by rw[hp e];rfl) (fun dJ=>(hq (fun e=>dJ (by rw[e];rfl))).1) ?_ (Hi rs)).mono fun e w' hq=>?_
  ·by_cases dJ:rs=[]
   ·subst dJ;intro j u hu;simp[gy] at hu
   ·exact Kl (ky ht (aU b (hq dJ).2))
  ·obtain⟨v,rfl,h1,h2,h3⟩:=hq;exact⟨_,rfl,h3,fun b hb=>h2.block b hb,h1⟩
 ·obtain⟨hN,wl,aW,z1,z2,hs,h3⟩:=hq;rw[z1] at h3;refine⟨hN,?_⟩;obtain⟨h4,h5⟩:=h3;rcases h5 with⟨e1,e2⟩|⟨g,cap,cur,rfl,q1,q2,q3,q4,q5,q6⟩
  ·refine .inl ⟨e1,?_⟩;cases rs with
   |nil=>rfl
   |cons r rs=>simp at e2
  ·have hg:g<aW.heap.size:=a8 fun q=>by
    rw[cI (di q)] at q2;cases q2
   refine .inr ⟨g,cap,rfl,q1,aa,fun i hi=>?_⟩;have hb:=hs g q1 aa;have own:aW.ownsRow w.heap.size 65 3 (.slice (some ⟨g,0,none⟩) rs.length cap) rs.length (gy rs):=⟨h4,.inr ⟨g,cap,cur,rfl,q1,q2,q3,q4,q5,q6⟩⟩;have hc:∀j u,(gy rs)[j]?=some u->aW.cell? ⟨g,j,none⟩=some u:=fun j u hu=>by
    have:=own.cells (g:=g) rfl j u hu;have ha:(⟨g,0,none⟩:Addr).add j=⟨g,j,none⟩:=by simp[Addr.add];omega
    rw[ha] at this;exact this
   obtain⟨c0,c1,c2⟩:=sZ rs i hi;refine⟨(cell_of hb).trans ?_,(cell_of hb).trans ?_,(cell_of hb).trans ?_⟩
   ·exact hc _ _ c0
   ·exact hc _ _ c1
   ·exact hc _ _ c2
structure WZ(s:gV)(v:Value)(o':aN)(w':ae):Prop where
 ex:∃rv tv,v=.agg #[.int .i64 s.num,rv,tv]/\(∃p b c,rv=.slice p s.res.length c/\(s.res≠[]->p=some ⟨b,0,none⟩/\o' b)/\nJ w' b s.res)/\Cl au L0 o' rv/\Rt o' w' tv s.jX
theorem Hj(h:bo o w K s lk lab):
  bA au (XB au Fin 0) 24 #[.pointer (some ⟨K.kb,0,none⟩)] o w fun v o' w'=>WZ s v o' w'/\∃lab',bo o' w' K s lk lab'/\cP o w lab o' w' lab'/\∀n rv tv g,v=.agg #[n,rv,tv]->rv.ownBlock=some g->w.heap.size<=g/\lab' g=7:=by
 have W:=bY (P:=au) (Fin:=Fin) (d:=0);refine eC W func24 ar ?_;bP Tryz.f24;refine ax ?_;refine dv bS h.aG rfl ar ar ni rfl (R:=fun wl v aW=>v=.pointer (some ⟨wl.heap.size,0,none⟩)/\aW=wl.alloc (Obj.cells #[.int .i64 0,.slice none 0 0,.slice none 0 0] 59)) (fun wl aU=>⟨_,_,by first|(simp[go_sem];done)|(simp[go_sem];rfl),rfl,rfl⟩) fun wl v1 aW w1 aU hR bO=>?_;obtain⟨rfl,hR⟩:=hR;obtain⟨z1,k1,tN⟩:=bO.alloc h.aG aU hR;obtain⟨W1,xa⟩:=bB.qF bO.aG z1 k1;rw[aU.size];clear hR bO aU wl aW;obtain⟨dt,h1,S1,yS,hn1⟩:=h.grown (cP.refl h.aG) W1;have hlA:=hn1 w.heap.size (ag _);generalize grow o w w1=o1 at *;have hAl:w.heap.size<w1.heap.size:=aa;generalize hAe:w.heap.size=A at *;refine ax ?_;refine cj func49 (FC K.kb 12 s.pb _ _ _ (by rw[h1.row.cell aa];rfl) h1.set.blk) ?_;rintro v0 o2 w2 ⟨rfl,rfl,rfl⟩;refine ax ?_;obtain⟨p0,p1,p2,-,-,-⟩:=eQ h1.set.blk;refine dD bS h1.aG rfl ar ar ?_ rfl (v:=.agg #[.int .i64 s.num,s.lC,s.mO]) (fun wl aU=>by
  have e:=aU.heap _ h1.set.own;simp[go_sem,(cell_of e).trans p0,(cell_of e).trans p1,(cell_of e).trans p2]) fun _=>?_
 ·exact ng (bX h1.set.own)
 refine ax ?_;refine dv bS h1.aG rfl ar ar ni rfl (R:=fun wl v aW=>v=.pointer (some ⟨wl.heap.size,0,none⟩)/\aW=wl.alloc (Obj.cells #[.int .i64 0,.slice none 0 0,.slice none 0 0] 59)) (fun wl aU=>⟨_,_,by first|(simp[go_sem];done)|(simp[go_sem];rfl),rfl,rfl⟩) fun wl v1 aW w3 aU hR bO=>?_;obtain⟨rfl,hR⟩:=hR;obtain⟨z3,k3,sJ⟩:=bO.alloc h1.aG aU hR;obtain⟨W3,Ql⟩:=bB.qF bO.aG z3 k3;rw[aU.size];clear hR bO aU wl aW;obtain⟨kQ,h3,S3,Bz,Oz⟩:=h1.grown S1 W3;have vn:=W3.more _ xa;have kA3:=(k3 A hAl).trans tN;have aiN:=(Bz A hAl).trans hlA;have aer:=Oz _ (ag _);generalize grow o2 w2 w3=o3 at *;have hBl:w2.heap.size<w3.heap.size:=aa;have hAB:A<w2.heap.size:=hAl;clear z1;generalize w2.heap.size=B at *;obtain⟨rp,rb,rc,r1,r2,r3,r4⟩:=h3.set.res;obtain⟨tp,tb,tc,t1,t2,t3,t4⟩:=h3.set.jX.row;have R1:=h3.set.cl;have aiO:=h3.set.jX.cl;have aes:=h3.set.gY;have aet:=h3.set.jX.gY;aE;refine dz bS h3.aG rfl ar ar ?_ rfl (R:=fun wl aW=>aW=((wl.setCell ⟨B,0,none⟩ (.int .i64 s.num)).setCell ⟨B,1,none⟩ s.lC).setCell ⟨B,2,none⟩ s.mO) (fun wl aU=>⟨_,?_,rfl⟩) fun wl aW w4 aU hR bO=>?_
 ·refine ja ?_ ?_
  ·exact bX Ql
  ·exact fX (vs:=[_,_,_]) (fun x hx=>by
    simp at hx;rcases hx with rfl|rfl|rfl
    ·exact dU
    ·exact R1
    ·exact aiO)
 ·obtain⟨e0,e1,e2,f0,f1,f2⟩:=eQ ((aU.heap _ Ql).trans sJ);rw[r1,t1];simp[go_sem,e0,e1,e2,f0,f1,f2]
 have hO:eK B wl aW:=by rw[hR];exact uM _ _ _ _ _ _ _ _
 obtain⟨vx,sY,e4⟩:=bO.only aU Ql hO;have tB:=bO.aG;rw[e4] at tB |-;rw[hR,JX ((aU.heap _ Ql).trans sJ)] at sY;obtain⟨h4,S4⟩:=h3.wrote S3 aer aa tB vx;have kA4:=(vx.2 A aa).trans kA3;clear hR bO aU hO wl aW e4;refine ax ?_;refine dD bS h4.aG rfl ar ar ?_ rfl (v:=s.lC) (fun wl aU=>by
  have e:=(aU.cell Ql).trans (eQ sY).2.1;rw[r1] at e |-;simp[go_sem,e]) fun _=>?_
 ·exact ng (bX Ql)
 refine ax ?_;obtain⟨rp,rb,rc,r1,r2,r3,r4⟩:=h4.set.res;refine cj func50 (MZ h4.aG s.lC rb rc rp s.res r1 aes r2 r3 r4 h4.set.cl) ?_;rintro v5 o5 w5 ⟨N5,q5⟩;obtain⟨pf,h5,S5,Rw,hn5⟩:=h4.grown S4 (bB.eL N5);have xj:=bB.more (bB.eL (ex:=fun _=>False) N5) _ vn;have W8:=bB.more (bB.eL (ex:=fun _=>False) N5) _ Ql;have z4:=vx.1;have kA5:=(N5.old A aa).trans kA4;have kB5:=(N5.old B aa).trans sY;have uS:=(Rw A aa).trans aiN;have aeu:=(Rw B aa).trans aer;have z5:=N5.size;have cl5:=N5.cl;obtain⟨rp5,rb5,rc5,rfl⟩:∃p l c,v5=.slice p l c:=by
  rcases q5 with⟨rfl,-⟩|⟨g,cap,rfl,-⟩
  ·exact⟨_,_,_,rfl⟩
  ·exact⟨_,_,_,rfl⟩
 refine ax ?_;refine dz bS h5.aG rfl ar ar ?_ rfl (R:=fun wl aW=>aW=wl.setCell ⟨B,1,none⟩ (.slice rp5 rb5 rc5)) (fun wl aU=>⟨_,?_,rfl⟩) fun wl aW w6 aU hR bO=>?_
 ·refine ja ?_ ?_
  ·exact bX W8
  ·exact cl5
 ·obtain⟨e0,e1,e2,f0,f1,f2⟩:=eQ ((aU.heap _ W8).trans kB5);simp[go_sem,e1,f1]
 have hO:eK B wl aW:=by rw[hR];exact je _ _ _ _
 obtain⟨Uc,kb6,e6⟩:=bO.only aU W8 hO;have Es:=bO.aG;rw[e6] at Es |-;have kB6:w6.heap[B]?=some (.cells #[.int .i64 s.num,.slice rp5 rb5 rc5,s.mO] 59):=by
  rw[kb6,hR];have e:=(aU.heap _ W8).trans kB5;simp[World.setCell,aS,e]
 obtain⟨h6,S6⟩:=h5.wrote S5 aeu aa Es Uc;have kA6:=(Uc.2 A aa).trans kA5;have z6:=Uc.1;clear hR bO aU hO wl aW e6 kb6;refine ax ?_;refine dD bS h6.aG rfl ar ar ?_ rfl (v:=s.mO) (fun wl aU=>by
  have e:=(aU.cell W8).trans (eQ kB6).2.2.1;rw[t1] at e |-;simp[go_sem,e]) fun _=>?_
 ·exact ng (bX W8)
 refine ax ?_;obtain⟨tp,tb,tc,t1,t2,t3,t4⟩:=h6.set.jX.row;refine cj func51 (Di h6.aG s.mO tb tc tp s.jX t1 aa t2 t3 t4 h6.set.jX.cl) ?_;rintro v7 o7 w7 ⟨N7,q7⟩;obtain⟨xp,h7,S7,qJ,hn7⟩:=h6.grown S6 (bB.eL N7);have W7:=bB.eL (ex:=fun _=>False) N7;have Mn:=W7.more _ xj;have hB7:=W7.more _ W8;have kA7:=(N7.old A aa).trans kA6;have kB7:=(N7.old B aa).trans kB6;have M0:=(qJ A aa).trans uS;have aiQ:=(qJ B aa).trans aeu;have z7:=N7.size;have cl7:=N7.cl;have aev:=cl5.up W7.more;have aiR:Rt o7 w7 v7 s.jX:=q7.tat cl7 (fun g l c e=>gL N7.aG cl7 g (by rw[e];rfl)) aet;have aiS:∀g,v7.ownBlock=some g->w6.heap.size<=g:=fun g hg=>by
  rcases q7 with⟨e,-⟩|⟨g',cap,e,-,e2,-⟩
  ·rw[e] at hg;cases hg
  ·rw[e] at hg;have:=aR hg;simp at this;omega
 obtain⟨tp7,tb7,tc7,rfl⟩:∃p l c,v7=.slice p l c:=by
  rcases q7 with⟨rfl,-⟩|⟨g,cap,rfl,-⟩
  ·exact⟨_,_,_,rfl⟩
  ·exact⟨_,_,_,rfl⟩
 refine ax ?_;refine dz bS h7.aG rfl ar ar ?_ rfl (R:=fun wl aW=>aW=wl.setCell ⟨B,2,none⟩ (.slice tp7 tb7 tc7)) (fun wl aU=>⟨_,?_,rfl⟩) fun wl aW w8 aU hR bO=>?_
 ·refine ja ?_ ?_
  ·exact bX hB7
  ·exact cl7
 ·obtain⟨e0,e1,e2,f0,f1,f2⟩:=eQ ((aU.heap _ hB7).trans kB7);rw[t1] at e2;simp[go_sem,e2,f2]
 have hO:eK B wl aW:=by rw[hR];exact je _ _ _ _
 obtain⟨FL,kb8,e8⟩:=bO.only aU hB7 hO;have su:=bO.aG;rw[e8] at su |-;have kB8:w8.heap[B]?=some (.cells #[.int .i64 s.num,.slice rp5 rb5 rc5,.slice tp7 tb7 tc7] 59):=by
  rw[kb8,hR];have e:=(aU.heap _ hB7).trans kB7;simp[World.setCell,aS,e]
 obtain⟨h8,S8⟩:=h7.wrote S7 aiQ aa su FL;have YH:=(FL.2 A aa).trans kA7;have z8:=FL.1;clear hR bO aU hO wl aW e8 kb8;refine ax ?_;refine dD bS h8.aG rfl ar ar ?_ rfl (v:=.agg #[.int .i64 s.num,.slice rp5 rb5 rc5,.slice tp7 tb7 tc7]) (fun wl aU=>by
  obtain⟨e0,e1,e2,-⟩:=eQ ((aU.heap _ hB7).trans kB8);simp[go_sem,e0,e1,e2]) fun _=>?_
 ·exact ng (bX hB7)
 aE;refine dz bS h8.aG rfl ar ar ?_ rfl (R:=fun wl aW=>aW=((wl.setCell ⟨A,0,none⟩ (.int .i64 s.num)).setCell ⟨A,1,none⟩ (.slice rp5 rb5 rc5)).setCell ⟨A,2,none⟩ (.slice tp7 tb7 tc7)) (fun wl aU=>⟨_,?_,rfl⟩) fun wl aW w9 aU hR bO=>?_
 ·refine ja ?_ ?_
  ·exact bX Mn
  ·exact fX (vs:=[_,_,_]) (fun x hx=>by
    simp at hx;rcases hx with rfl|rfl|rfl
    ·exact dU
    ·exact aev
    ·exact cl7)
 ·obtain⟨e0,e1,e2,f0,f1,f2⟩:=eQ ((aU.heap _ Mn).trans YH);simp[go_sem,e0,e1,e2,f0,f1,f2]
 have hO:eK A wl aW:=by rw[hR];exact uM _ _ _ _ _ _ _ _
 obtain⟨lV,ow,e9⟩:=bO.only aU Mn hO;have mB:=bO.aG;rw[e9] at mB |-;rw[hR,JX ((aU.heap _ Mn).trans YH)] at ow;obtain⟨h9,S9⟩:=h8.wrote S8 M0 aa mB lV;clear hR bO aU hO wl aW e9;refine ax ?_;refine⟨.inr trivial,trivial,.agg #[.int .i64 s.num,.slice rp5 rb5 rc5,.slice tp7 tb7 tc7],xc (fun n=>?_) (fun n e he=>?_),⟨⟨_,_,rfl,?_,aev,aiR.keep (fun _ q=>q) fun g hg=>?_⟩⟩,xp,h9,S9,fun n rv tv g e hg=>?_⟩
 ·obtain⟨c0,c1,c2,-⟩:=eQ (w:=w9.at n) ow;simp[results,results24,go_sem,c0,c1,c2]
 ·obtain⟨c0,c1,c2,-⟩:=eQ (w:=w9.at n) ow;simp[results,results24,go_sem,c0,c1,c2] at he;rcases he with rfl|rfl|rfl;all_goals exact⟨_,_,_,rfl,Mn⟩
 ·rcases q5 with⟨e,e2⟩|⟨g,cap,e,g1,g2,g3⟩
  ·exact⟨none,0,0,by rw[e2];exact e,fun q=>absurd e2 q,fun i hi=>by rw[e2] at hi;simp at hi⟩
  ·refine⟨_,g,cap,e,fun _=>⟨rfl,W7.more _ (gL N5.aG cl5 g (by rw[e];rfl))⟩,ky g3 ?_⟩;rw[lV.2 g aa,FL.2 g aa,N7.old g aa,Uc.2 g aa]
 ·have:=aiS g hg;rw[lV.2 g aa,FL.2 g aa]
 ·have e1:Value.slice rp5 rb5 rc5=rv:=by
   injection e with e;have:=congrArg (fun a=>a[1]?) e;simpa using this
  subst e1;rcases q5 with⟨e,-⟩|⟨g',cap,e,g1,g2,-⟩
  ·rw[e] at hg;cases hg
  ·rw[e] at hg;have:g'=g:=aR hg;subst this;exact⟨aa,(qJ _ aa).trans (hn5 _ aa)⟩
end
section
open Go.RowKit
theorem vy{x y:af}(h:¬x=y):(x.toList==y.toList)=false:=by
 rw[beq_eq_false_iff_ne];intro e;rw[ByteArray.toList_eq,ByteArray.toList_eq] at e;exact h (ByteArray.ext (Array.toList_inj.1 e))
def eH(c:Int)(n:Nat):Nat:=(if c<0 then -(c+1) else c).toNat%n
theorem pg(c:Int){n:Nat}(h:0<n):eH c n<n:=Nat.mod_lt _ h
theorem Km(c:Int)(n:Nat)(w:ae)(h1:-9223372036854775808<=c)(h2:c<=9223372036854775807)(hn:0<n)(NW:n<=1000):
  Calls au 19 #[.int .i64 c,.int .i64 n] w fun e w'=>e=.returned (.int .i64 (eH c n:Nat))/\w'=w:=by
 have KV:¬(n:Int)=0:=aa;go_enter func19,ntmps19;by_cases hc:c<0
 ·have e1:IntKind.i64.wrap (c+1)=c+1:=by rw[IntKind.wrap_i64]<;>omega
  have e2:IntKind.i64.wrap (-(c+1))=-(c+1):=by rw[IntKind.wrap_i64]<;>omega
  have e3:-((c+1).tmod n)=((eH c n:Nat):Int):=by
   rw[<- Int.neg_tmod,Int.tmod_eq_emod_of_nonneg aa];unfold eH;rw[if_pos hc,Int.natCast_emod,gJ aa]
  go_wp2;go_ret;exact⟨rfl,rfl⟩
 ·have e3:c%n=((eH c n:Nat):Int):=by
   unfold eH;rw[if_neg hc,Int.natCast_emod,gJ aa]
  go_wp2;go_ret;exact⟨rfl,rfl⟩
def kX:List af:=[⟨#[97]⟩,⟨#[98]⟩,⟨#[99]⟩,⟨#[100]⟩,⟨#[101]⟩,⟨#[102]⟩]
theorem QN(w:ae):Calls au 18 #[] w fun e w'=>e=.returned (.slice (some ⟨w.heap.size,0,none⟩) 6 6)/\w'=w.alloc (.cells (kX.map Value.string).toArray 9):=by
 go_enter func18,ntmps18;go_wp2;go_ret;exact⟨rfl,rfl⟩
def iW(i:Nat):af:=(⟨#[111]⟩:af)++⟨#[97+UInt8.ofNat i]⟩
theorem pj(w:ae)(cs:Array Value)(t:TypeId)(j:Nat):(w.alloc (.cells cs t)).cell? ⟨w.heap.size,j,none⟩=cs[j]?:=by
 simp only[World.cell?];rw[show(w.alloc (.cells cs t)).heap[w.heap.size]?=some (.cells cs t) from by show(w.heap.push _)[w.heap.size]?=_;simp];rfl
theorem Xa(i:Nat)(hi:i<8)(w:ae):Calls au 15 #[.int .i64 i] w fun e w'=>e=.returned (.string (iW i))/\Below w.heap.size w w'/\w.heap.size<=w'.heap.size:=by
 have e1:IntKind.i64.wrap (97+(i:Int))=97+(i:Int):=by rw[IntKind.wrap_i64]<;>omega
 have e2:IntKind.u8.wrap (97+(i:Int))=97+(i:Int):=by simp[IntKind.wrap,IntKind.signed,IntKind.bits];omega
 have hu:(UInt8.ofNat (97+i)).toNat=97+i:=by rw[UInt8.toNat_ofNat'];omega
 have hcv:(convert 90 9 (.slice (some ⟨w.heap.size,0,none⟩) 1 1)).run au (w.alloc (.cells #[.int .u8 (97+(i:Int))] 5))=.ok (.string ⟨#[UInt8.ofNat (97+i)]⟩) (w.alloc (.cells #[.int .u8 (97+(i:Int))] 5)):=by
  refine run_convert_bytes_back (P:=au) (w.alloc (.cells #[.int .u8 (97+(i:Int))] 5)) 90 9 5 ⟨w.heap.size,0,none⟩ 1 [UInt8.ofNat (97+i)] underlying90 underlying5 underlying9 (fun j hj=>?_);have hj0:j=0:=Nat.lt_one_iff.1 hj;subst hj0;refine(pj w _ _ 0).trans ?_;show some (Value.int .u8 (97+(i:Int)))=some (Value.int .u8 ((UInt8.ofNat (97+i)).toNat:Int));rw[hu];rfl
 have hz:=(Below.refl w.heap.size w).alloc (ag _) (.cells #[.int .u8 (97+(i:Int))] 5);go_enter func15,ntmps15;go_wp2;go_ret;exact⟨rfl,hz,aj⟩
def rG(c:Int):af:=(⟨#[116,104,114,101,101,32,119,111,114,100,115,32,33]⟩:af).extract 0 (eH c 13)
theorem Dq(c:Int):(rG c).size<=12:=by
 have:=pg c (n:=13) aa;unfold rG;rw[ByteArray.size_extract];omega
theorem QO(c:Int)(w:ae)(h1:-9223372036854775808<=c)(h2:c<=9223372036854775807):
  Calls au 20 #[.int .i64 c] w fun e w'=>e=.returned (.string (rG c))/\w'=w:=by
 have hp:=Km c 13 w h1 h2 aa aa;have cB:=pg c (n:=13) aa;have aaf:rG c=(⟨#[116,104,114,101,101,32,119,111,114,100,115,32,33]⟩:af).extract 0 (eH c 13):=rfl;rw[aaf];generalize eH c 13=n at *;go_enter func20,ntmps20;go_wp2_with (go_at_call 19;refine hp.mono ?_;rintro e w' ⟨rfl,rfl⟩);go_ret;exact⟨rfl,rfl⟩
def inL:List af->af->Bool
 | [],_=>false
 |y::l,x=>if y=x then true else inL l x
theorem BC(x:af):∀l:List af,inL l x=true↔x∈l
 | []=>by simp[inL]
 |y::l=>by
  unfold inL;by_cases h:y=x
  ·simp[h]
  ·rw[if_neg h,BC x l,bK];exact⟨.inr,fun q=>q.elim (fun e=>absurd e.symm h) id⟩
theorem Dr{j:Nat}(h:j<8):j=0\/j=1\/j=2\/j=3\/j=4\/j=5\/j=6\/j=7:=aa
theorem vz(i:Nat)(h:i<8):(iW i).data=#[111,97+UInt8.ofNat i]:=by
 rcases Dr h with rfl|rfl|rfl|rfl|rfl|rfl|rfl|rfl<;>decide
theorem Kn{i j:Nat}(hi:i<8)(hj:j<8)(h:iW i=iW j):i=j:=by
 have h:=congrArg ByteArray.data h;rw[vz i hi,vz j hj] at h;revert h;rcases Dr hi with rfl|rfl|rfl|rfl|rfl|rfl|rfl|rfl<;>rcases Dr hj with rfl|rfl|rfl|rfl|rfl|rfl|rfl|rfl<;>decide
theorem FM(i:Nat)(h:i<8):iW i∉kX:=fun q=>by
 have hs:(iW i).data.size=2:=by rw[vz i h];rfl
 simp only[kX,bK,dj,or_false] at q;rcases q with q|q|q|q|q|q<;>(rw[q] at hs;cases hs)
end
section
open Go.RowKit
open Go.Ren (je eK)
structure IxR(rs:List aJ)(x:af)(r:Int):Prop where
 ex:(r=-1/\∀q∈rs,q.out≠x)\/∃i,∃h:i<rs.length,r=(i:Nat)/\rs[i].out=x
def Ds:List aJ->af->Nat->Int
 | [],_,_=>-1
 |r::l,x,k=>if r.out=x then(k:Nat) else Ds l x (k+1)
theorem FN(x:af):∀(l:List aJ) (k:Nat),(Ds l x k=-1/\∀q∈l,q.out≠x)\/∃i,∃h:i<l.length,Ds l x k=((k+i:Nat):Int)/\l[i].out=x
 | [],k=>.inl ⟨rfl,aj⟩
 |r::l,k=>by
  unfold Ds;by_cases h:r.out=x
  ·rw[if_pos h];exact .inr ⟨0,aj,aj,by simpa using h⟩
  ·rw[if_neg h];rcases FN x l (k+1) with⟨h1,h2⟩|⟨i,hi,h1,h2⟩
   ·refine .inl ⟨h1,fun q hq=>?_⟩;rcases List.mem_cons.1 hq with rfl|hq
    ·exact h
    ·exact h2 q hq
   ·exact .inr ⟨i+1,dX,by rw[h1];congr 1;omega,by simpa using h2⟩
theorem Ko(rs:List aJ)(x:af):IxR rs x (Ds rs x 0):=by
 rcases FN x rs 0 with h|⟨i,hi,h1,h2⟩
 ·exact⟨.inl h⟩
 ·exact⟨.inr ⟨i,hi,by simpa using h1,h2⟩⟩
theorem Dt(b c:Nat)(p:Option Addr)(rs:List aJ)(x:af)(w:ae)(hn:rs.length<=100000)(hp:rs≠[]->p=some ⟨b,0,none⟩)(hv:eX w b rs):
  Calls au 107 #[.slice p rs.length c,.string x] w fun e w'=>e=.returned (.int .i64 (Ds rs x 0))/\w'=w:=by
 go_enter func107,ntmps107;go_wp2;go_loop [8] (fun i=>∃k:Nat,k<=rs.length/\i=.int .i64 k/\Ds rs x 0=Ds (rs.drop k) x k) (fun i=>rs.length-(intOf i).toNat)
 case atStart=>exact⟨0,aV _,rfl,rfl⟩
 case round =>
  obtain⟨k,hk,rfl,hs⟩:=hrel;by_cases cB:k<rs.length
  ·have e:=hp (fun e=>by rw[e] at cB;simp at cB);subst e;obtain⟨h1,-,-⟩:=hv k cB;rw[List.drop_eq_getElem_cons cB,Ds] at hs;generalize rs[k].out=y at *;by_cases hx:y=x
   ·rw[if_pos hx] at hs;subst hx;go_wp2;go_ret;exact⟨rfl,rfl⟩
   ·rw[if_neg hx] at hs;have hxl:=vy hx;go_wp2
    go_round
    case rel=>exact⟨k+1,aa,by go_num,hs⟩
    case measure=>simp[intOf];omega
  ·rw[List.drop_of_length_le aa,Ds] at hs;go_wp2;go_ret;exact⟨rfl,rfl⟩
theorem Kp(x:af)(h:isName x)(w:ae):Calls au 68 #[.string x] w fun e w'=>e=.returned (.bool true)/\w'=w:=by
 refine(Kb x w (by have:=h.2.1;omega)).mono fun e w' hq=>?_;obtain⟨⟨b,rfl,hb⟩,rfl⟩:=hq;rw[hb.2 h];exact⟨rfl,rfl⟩
theorem Hk(b c:Nat)(p:Option Addr)(ts:List af)(w:ae)(hn:ts.length<=100000)(hp:ts≠[]->p=some ⟨b,0,none⟩)(ht:fE w b 0 ts)(ha:∀x∈ts,isName x):
  Calls au 105 #[.slice p ts.length c] w fun e w'=>e=.returned (.bool true)/\w'=w:=by
 go_enter func105,ntmps105;go_wp2;go_loop [7] (fun i=>∃k:Nat,k<=ts.length/\i=.int .i64 k) (fun i=>ts.length-(intOf i).toNat)
 case atStart=>exact⟨0,aV _,rfl⟩
 case round =>
  obtain⟨k,hk,rfl⟩:=hrel;by_cases cB:k<ts.length
  ·have e:=hp (fun e=>by rw[e] at cB;simp at cB);subst e;have h1:=ht k cB;rw[bC] at h1;have zA:=Kp ts[k] (ha _ (aH cB)) w;go_wp2_with (go_at_call 68;refine zA.mono ?_;rintro e w' ⟨rfl,rfl⟩)
   go_round
   case rel=>exact⟨k+1,aa,by go_num⟩
   case measure=>simp[intOf];omega
  ·go_wp2;go_ret;exact⟨rfl,rfl⟩
theorem QP(n:Int)(w:ae)(h1:1<=n)(h5:n<=5):Calls au 106 #[.int .i64 n] w fun e w'=>e=.returned (.bool true)/\w'=w:=by
 go_enter func106,ntmps106;go_wp2;go_ret;exact⟨rfl,rfl⟩
structure pY(w:ae)(p:Option Addr)(b:Nat)(rs:List aJ)(NM:aJ->List af)(NB:aJ->Nat):Prop where
 gY:rs.length<=8
 ptr:rs≠[]->p=some ⟨b,0,none⟩/\b<w.heap.size
 at_:eX w b rs
 nm:∀r∈rs,r.sl=(NM r).length/\(NM r≠[]->r.sa=some ⟨NB r,0,none⟩/\NB r<w.heap.size)/\fE w (NB r) 0 (NM r)/\(NM r).length<=4
theorem pY.below{w w':ae}{p:Option Addr}{b:Nat}{rs:List aJ}{NM:aJ->List af}{NB:aJ->Nat}(h:pY w p b rs NM NB)(hw:Below w.heap.size w w'):pY w' p b rs NM NB:=by
 refine⟨h.gY,fun q=>⟨(h.ptr q).1,bz (h.ptr q).2 hw.size⟩,fun i hi=>?_,fun r hr=>⟨(h.nm r hr).1,fun q=>⟨((h.nm r hr).2.1 q).1,bz ((h.nm r hr).2.1 q).2 hw.size⟩,fun k hk=>?_,(h.nm r hr).2.2.2⟩⟩
 ·exact h.at_.below (h.ptr (fun q=>by rw[q] at hi;simp at hi)).2 hw i hi
 ·exact(h.nm r hr).2.2.1.below ((h.nm r hr).2.1 (fun q=>by rw[q] at hk;simp at hk)).2 hw k hk
structure Du(rs:List aJ)(NM:aJ->List af)(RK:af->Nat):Prop where
 outs:∀r∈rs,isName r.out
 ins:∀r∈rs,∀x∈NM r,isName x
 eU:∀r∈rs,1<=r.eU/\r.eU<=5
 nodup:(rs.map (·.out)).Nodup
 EA:∀r∈rs,∀x∈NM r,x∈rs.map (·.out)->RK x<RK r.out
def OA(rk:Nat->Nat)(g:Nat->Bool):Prop:=∀i j,i<8->j<8->g (i*8+j)=true->rk j<rk i
structure rP(rk:Nat->Nat)(cs:Array Value):Prop where
 size:cs.size=64
 ex:∃g:Nat->Bool,(∀k,k<64->cs[k]?=some (.bool (g k)))/\OA rk g
theorem rP.one{rk:Nat->Nat}{cs:Array Value}(h:rP rk cs):cs.all (·.oneCell')=true:=by
 obtain⟨g,hg,-⟩:=h.ex;rw[Array.all_eq_true_iff_forall_mem];intro v hv;obtain⟨k,hk,rfl⟩:=Array.getElem_of_mem hv;have:=hg k (by rw[<- h.size];exact hk);rw[aO hk] at this;rw[aR this];rfl
theorem xq:(au.info? 201).map (·.size)=some 64:=ah
structure mh(w:ae)(b:Nat)(rk:Nat->Nat):Prop where
 ex:∃g:Nat->Bool,w.rowIs b 201 64 (fun j=>.bool (g j))/\OA rk g
theorem mh.blk{w:ae}{b:Nat}{rk:Nat->Nat}(h:mh w b rk):∃cs,w.heap[b]?=some (.cells cs 201 (0,0))/\rP rk cs:=by
 obtain⟨g,⟨cs,h1,h2,h3⟩,hg⟩:=h.ex;exact⟨cs,h1,h2,g,fun k hk=>h3 k hk,hg⟩
theorem rP.at{w:ae}{b:Nat}{rk:Nat->Nat}{cs:Array Value}(h:rP rk cs)(hb:w.heap[b]?=some (.cells cs 201 (0,0))):mh w b rk:=by
 obtain⟨g,h1,hg⟩:=h.ex;exact⟨g,⟨cs,hb,h.size,fun k hk=>h1 k hk⟩,hg⟩
theorem mh.of_block{w w':ae}{b:Nat}{rk:Nat->Nat}(h:mh w b rk)(e:w'.heap[b]?=w.heap[b]?):mh w' b rk:=by
 obtain⟨g,h1,hg⟩:=h.ex;exact⟨g,h1.of_block e,hg⟩
theorem mh.set{w:ae}{b:Nat}{rk:Nat->Nat}(h:mh w b rk){i j:Nat}(hi:i<8)(hj:j<8)(hr:rk j<rk i):mh (w.setCell ⟨b,i*8+j,none⟩ (.bool true)) b rk:=by
 obtain⟨g,h1,hg⟩:=h.ex;refine⟨fun k=>if k=i*8+j then true else g k,(h1.set (i*8+j) _).congr fun k hk=>?_,fun i' j' mn sk hq=>?_⟩
 ·by_cases e:k=i*8+j
  ·simp[e]
  ·simp[e]
 ·by_cases e:i'*8+j'=i*8+j
  ·have e1:i'=i:=aa;have e2:j'=j:=aa;rw[e1,e2];exact hr
  ·simp only[if_neg e] at hq;exact hg i' j' mn sk hq
structure NS(w:ae)(rk:Nat->Nat)(w':ae):Prop where
 M1:Below w.heap.size w w'
 size:w'.heap.size=w.heap.size+2
 vG:mh w' w.heap.size rk
 res:∃z:Array Value,w'.heap[w.heap.size+1]?=some (.cells z 201 (0,0))/\z.size=64
theorem NS.set{w w':ae}{rk:Nat->Nat}(h:NS w rk w'){i j:Nat}(hi:i<8)(hj:j<8)(hr:rk j<rk i):NS w rk (w'.setCell ⟨w.heap.size,i*8+j,none⟩ (.bool true)):=by
 obtain⟨z,h1,h2⟩:=h.res;have on:=je w' w.heap.size (i*8+j) (.bool true);exact⟨h.M1.setCell (ag _) _,on.1.trans h.size,h.vG.set hi hj hr,z,(on.2 _ aa).trans h1,h2⟩
theorem alloc_old(w:ae)(x:Obj)(b:Nat)(h:b<w.heap.size):(w.alloc x).heap[b]?=w.heap[b]?:=by
 show(w.heap.push x)[b]?=_;rw[dB h,aO h]
theorem s9{B g:Nat}{a w:ae}(h:Below B a w)(hg:B<=g)(cs:Array Value):Below B a (w.setRow g cs) :=
 ⟨h.os,h.tape,h.output,by rw[setRow_size];exact h.size,fun b hb=>(setRow_other w g b cs aa).trans (h.block b hb)⟩
end
section
open Go.RowKit
open Go.Ren (je eK)
theorem Kq(rk:Nat->Nat)(cs:Array Value)(Pd:rP rk cs)(w:ae):
  Calls au 108 #[.agg cs] w fun e w'=>∃DV,e=.returned (.agg DV)/\rP rk DV/\Below w.heap.size w w'/\w.heap.size<=w'.heap.size:=by
 have fJ:=Pd.size;go_enter func108,ntmps108;go_wp2;go_loopw [6] (fun i w'=>∃m:Nat,m<=8/\i=.int .i64 m/\NS w rk w') (fun i _=>8-(intOf i).toNat)
 case atStart =>
  refine⟨0,aa,rfl,((Below.refl _ _).alloc (ag _) _).alloc aj _,aj,Pd.at (heap_alloc2_old w _ _),Array.replicate 64 (.bool false),heap_alloc2_new w _ _,aj⟩
 case round =>
  obtain⟨m,hm,rfl,hS⟩:=hrel;by_cases cB:m<8
  ·have hmI:(m:Int)<8:=aa;go_wp2;go_loopw [9] (fun i w'=>∃f:Nat,f<=8/\i=.int .i64 f/\NS w rk w') (fun i _=>8-(intOf i).toNat)
   case atStart=>exact⟨0,aa,rfl,hS⟩
   case round =>
    clear hS;obtain⟨f,hf,rfl,hS⟩:=hrel;by_cases K3:f<8
    ·have hfI:(f:Int)<8:=aa;go_wp2;go_loopw [12] (fun i w'=>∃t:Nat,t<=8/\i=.int .i64 t/\NS w rk w') (fun i _=>8-(intOf i).toNat)
     case atStart=>exact⟨0,aa,rfl,hS⟩
     case round =>
      clear hS;obtain⟨t,ht,rfl,hS⟩:=hrel;by_cases zf:t<8
      ·have htI:(t:Int)<8:=aa;obtain⟨g,cp,jj⟩:=hS.vG.ex;have c1:=cp.cell (show f*8+m<64 by omega);have c2:=cp.cell (show m*8+t<64 by omega);have c3:=cp.cell (show f*8+t<64 by omega);have f3:=cp.frozen (f*8+t);cases h1:g (f*8+m)
       ·rw[h1] at c1;go_wp2;exact⟨⟨t+1,aa,by go_num,hS⟩,by simp[intOf];omega⟩
       ·rw[h1] at c1;cases h2:g (m*8+t)
        ·rw[h2] at c2;go_wp2;exact⟨⟨t+1,aa,by go_num,hS⟩,by simp[intOf];omega⟩
        ·rw[h2] at c2;have hr:rk t<rk f:=kH (jj m t cB zf h2) (jj f m K3 cB h1);go_wp2;exact⟨⟨t+1,aa,by go_num,hS.set K3 zf hr⟩,by simp[intOf];omega⟩
      ·go_wp2;exact⟨⟨f+1,aa,by go_num,hS⟩,by simp[intOf];omega⟩
    ·go_wp2;exact⟨⟨m+1,aa,by go_num,hS⟩,by simp[intOf];omega⟩
  ·obtain⟨DV,nC,Xb⟩:=hS.vG.blk;obtain⟨z,hz,Zk⟩:=hS.res;have hi:(au.info? 201).map (·.size)=some DV.size:=by rw[Xb.size];exact xq
   go_wp2_with (first
    | (refine wpList_load_row rfl 201 _ rfl w.heap.size rfl 201 DV (0,0) _ nC underlying201 rfl hi ?_)
    | (refine wpList_plain rfl fun _ hK=>wp_store_row 201 _ _ rfl (w.heap.size+1) DV rfl rfl 201 z hz hi (Zk.trans Xb.size.symm) Xb.one (hK _ _ ?_)))
   refine bodyPost_ret (results_cell_row ar _ _ (w.heap.size+1) 201 DV (0,0) _ rfl (setRow_heap _ _ _ _ _ _ hz) underlying201 rfl hi) rfl ⟨DV,rfl,Xb,?_,?_⟩
   ·exact s9 hS.M1 aa _
   ·rw[setRow_size,hS.size];omega
structure DS(w:ae)(rk:Nat->Nat)(w':ae):Prop where
 M1:Below w.heap.size w w'
 size:w.heap.size+2<=w'.heap.size
 vG:mh w' (w.heap.size+1) rk
 res:∃z:Array Value,w'.heap[w.heap.size]?=some (.cells z 201 (0,0))/\z.size=64
theorem DS.set{w w':ae}{rk:Nat->Nat}(h:DS w rk w'){i j:Nat}(hi:i<8)(hj:j<8)(hr:rk j<rk i):DS w rk (w'.setCell ⟨w.heap.size+1,i*8+j,none⟩ (.bool true)):=by
 obtain⟨z,h1,h2⟩:=h.res;have on:=je w' (w.heap.size+1) (i*8+j) (.bool true);exact⟨h.M1.setCell aj _,by rw[on.1];exact h.size,h.vG.set hi hj hr,z,(on.2 _ aa).trans h1,h2⟩
theorem DS.alloc{w w':ae}{rk:Nat->Nat}(h:DS w rk w')(x:Obj):DS w rk (w'.alloc x):=by
 obtain⟨z,h1,h2⟩:=h.res;have:=h.size;exact⟨h.M1.alloc aa _,dX,h.vG.of_block (alloc_old _ _ _ aa),z,(alloc_old _ _ _ aa).trans h1,h2⟩
theorem M3(rk:Nat->Nat)(p:Option Addr)(b c:Nat)(rs:List aJ)(NM:aJ->List af)(NB:aJ->Nat)(w:ae)(hR:pY w p b rs NM NB)(Vh:∀i (hi:i<rs.length),∀x∈NM rs[i],∀j (hj:j<rs.length),rs[j].out=x->rk j<rk i):
  Calls au 109 #[.slice p rs.length c] w fun e w'=>∃DV,e=.returned (.agg DV)/\rP rk DV/\Below w.heap.size w w'/\w.heap.size<=w'.heap.size:=by
 have xl:=hR.gY;go_enter func109,ntmps109;go_wp2;go_loopw [11] (fun i w'=>∃m:Nat,m<=rs.length/\i=.int .i64 m/\DS w rk w') (fun i _=>rs.length-(intOf i).toNat)
 case atStart =>
  refine⟨0,aa,rfl,((Below.refl _ _).alloc (ag _) _).alloc aj _,aj,⟨fun _=>false,⟨Array.replicate 64 (.bool false),heap_alloc2_new w _ _,aj,fun k hk=>by simp[hk]⟩,fun i j _ _ q=>by cases q⟩,Array.replicate 64 (.bool false),heap_alloc2_old w _ _,aj⟩
 case round =>
  obtain⟨m,hm,rfl,hS⟩:=hrel;by_cases cB:m<rs.length
  ·obtain⟨ep,hb⟩:=hR.ptr (fun e=>by rw[e] at cB;simp at cB);subst ep;have K7:=hR.below hS.M1;obtain⟨c0,c1,c2⟩:=K7.at_ m cB;obtain⟨n1,n2,n3,n4⟩:=hR.nm rs[m] (aH cB);rw[n1] at c2;have hrm:=Vh m cB;generalize apK:NM rs[m]=ts at *;generalize rs[m].sa=sa at *;generalize NB rs[m]=nb at *;generalize rs[m].sc=sc at *;have hSa:=hS.alloc (.cells #[.string rs[m].out,.int .i64 rs[m].eU,.slice sa ts.length sc] 42);go_wp2;go_loopw [19] (fun i w'=>∃t:Nat,t<=ts.length/\i=.int .i64 t/\DS w rk w') (fun i _=>ts.length-(intOf i).toNat)
   case atStart=>exact⟨0,aa,rfl,hSa⟩
   case round =>
    clear hSa hS K7;obtain⟨t,ht,rfl,hS⟩:=hrel;by_cases zf:t<ts.length
    ·obtain⟨e1,e2⟩:=n2 (fun e=>by rw[e] at zf;simp at zf);subst e1;have h1:=n3.below e2 hS.M1 t zf;rw[bC] at h1;have K7:=hR.below hS.M1;have Fv:=Dt b c _ rs ts[t] _ aa (fun q=>rfl) K7.at_;obtain⟨g,cp,jj⟩:=hS.vG.ex;have hx:=Ko rs ts[t];generalize Ds rs ts[t] 0=r at *;rcases hx.ex with⟨rfl,-⟩|⟨j,hj,rfl,hj2⟩
     ·go_wp2_with (go_at_call 107;refine Fv.mono ?_;rintro e w' ⟨rfl,rfl⟩);exact⟨⟨t+1,aa,by go_num,hS⟩,by simp[intOf];omega⟩
     ·have hj8:j<8:=aa;have hjI:(j:Int)<8:=aa;have hmI:(m:Int)<8:=aa;have c3:=cp.cell (show m*8+j<64 by omega);have f3:=cp.frozen (m*8+j);go_wp2_with (go_at_call 107;refine Fv.mono ?_;rintro e w' ⟨rfl,rfl⟩);exact⟨⟨t+1,aa,by go_num,hS.set aa hj8 (hrm _ (aH zf) j hj hj2)⟩,by simp[intOf];omega⟩
    ·go_wp2;exact⟨⟨m+1,aa,by go_num,hS⟩,by simp[intOf];omega⟩
  ·obtain⟨DV,nC,Xb⟩:=hS.vG.blk;obtain⟨z,hz,Zk⟩:=hS.res;have hi:(au.info? 201).map (·.size)=some DV.size:=by rw[Xb.size];exact xq
   go_wp2_with (first
    | (refine wpList_load_row rfl 201 _ rfl (w.heap.size+1) rfl 201 DV (0,0) _ nC underlying201 rfl hi ?_)
    | (refine wpList_plain rfl fun _ hK=>wp_store_row 201 _ _ rfl w.heap.size DV rfl rfl 201 z hz hi (Zk.trans Xb.size.symm) Xb.one (hK _ _ ?_)))
   refine bodyPost_ret (results_cell_row ar _ _ w.heap.size 201 DV (0,0) _ rfl (setRow_heap _ _ _ _ _ _ hz) underlying201 rfl hi) rfl ⟨DV,rfl,Xb,?_,?_⟩
   ·exact s9 hS.M1 (ag _) _
   ·rw[setRow_size];have:=hS.size;omega
end
section
open Go.RowKit
theorem rP.info{rk:Nat->Nat}{cs:Array Value}(h:rP rk cs):(au.info? 201).map (·.size)=some cs.size:=by rw[h.size];exact xq
theorem Dv(rk:Nat->Nat)(p:Option Addr)(b c:Nat)(rs:List aJ)(NM:aJ->List af)(NB:aJ->Nat)(w:ae)(hR:pY w p b rs NM NB)(Vh:∀i (hi:i<rs.length),∀x∈NM rs[i],∀j (hj:j<rs.length),rs[j].out=x->rk j<rk i):
  Calls au 67 #[.slice p rs.length c] w fun e w'=>e=.returned (.int .i64 (-1))/\Below w.heap.size w w'/\w.heap.size<=w'.heap.size:=by
 have xl:=hR.gY;go_enter func67,ntmps67;go_wp2_with (first
  | (go_at_call 109;refine(M3 rk p b c rs NM NB w hR Vh).mono ?_;rintro e w1 ⟨tH,rfl,hN1,By,Wd⟩)
  | (go_at_call 108;refine(Kq rk tH hN1 w1).mono ?_;rintro e w2 ⟨cs2,rfl,hN2,pH,Tx⟩;have hi:=hN2.info)
  | (refine wpList_plain rfl fun _ hK=>wp_store_row 201 _ _ rfl w2.heap.size cs2 rfl rfl 201 _ (jW _ _) hi hN2.size.symm hN2.one (hK _ _ ?_)))
 have aiT:Below w.heap.size w w2:=By.trans (pH.mono Wd);generalize hzc:(Obj.cells (#[Value.bool false,Value.bool false,Value.bool false,Value.bool false,Value.bool false,Value.bool false,Value.bool false,Value.bool false,Value.bool false,Value.bool false,Value.bool false,Value.bool false,Value.bool false,Value.bool false,Value.bool false,Value.bool false,Value.bool false,Value.bool false,Value.bool false,Value.bool false,Value.bool false,Value.bool false,Value.bool false,Value.bool false,Value.bool false,Value.bool false,Value.bool false,Value.bool false,Value.bool false,Value.bool false,Value.bool false,Value.bool false,Value.bool false,Value.bool false,Value.bool false,Value.bool false,Value.bool false,Value.bool false,Value.bool false,Value.bool false,Value.bool false,Value.bool false,Value.bool false,Value.bool false,Value.bool false,Value.bool false,Value.bool false,Value.bool false,Value.bool false,Value.bool false,Value.bool false,Value.bool false,Value.bool false,Value.bool false,Value.bool false,Value.bool false,Value.bool false,Value.bool false,Value.bool false,Value.bool false,Value.bool false,Value.bool false,Value.bool false,Value.bool false]) 201 (0,0))=zc;have xA:Below w.heap.size w ((w2.alloc zc).setRow w2.heap.size cs2)/\w.heap.size<=((w2.alloc zc).setRow w2.heap.size cs2).heap.size :=
  ⟨s9 (aiT.alloc aa _) aa _,by rw[setRow_size];simp;omega⟩
 have Oz:mh ((w2.alloc zc).setRow w2.heap.size cs2) w2.heap.size rk:=by
  rw[<- hzc];exact hN2.at (setRow_heap _ _ _ _ _ _ (jW _ _))
 generalize (w2.alloc zc).setRow w2.heap.size cs2=w3 at *;obtain⟨g,cp,jj⟩:=Oz.ex;go_loop [10] (fun i=>∃k:Nat,k<=rs.length/\i=.int .i64 k) (fun i=>rs.length-(intOf i).toNat)
 case atStart=>exact⟨0,aV _,rfl⟩
 case round =>
  obtain⟨k,hk,rfl⟩:=hrel;by_cases cB:k<rs.length
  ·have Vj:(k:Int)<8:=aa;have c1:=cp.cell (show k*8+k<64 by omega);have hg:g (k*8+k)=false:=by
    cases h:g (k*8+k)
    ·rfl
    ·have:=jj k k aa aa h;omega
   rw[hg] at c1;go_wp2
   go_round
   case rel=>exact⟨k+1,aa,by go_num⟩
   case measure=>simp[intOf];omega
  ·go_wp2;go_ret;exact⟨rfl,xA⟩
theorem Kr(b c:Nat)(p:Option Addr)(rs:List aJ)(x:af)(w:ae)(hn:rs.length<=100000)(hp:rs≠[]->p=some ⟨b,0,none⟩)(hv:eX w b rs)(hx:∀q∈rs,q.out≠x):
  Calls au 107 #[.slice p rs.length c,.string x] w fun e w'=>e=.returned (.int .i64 (-1))/\w'=w:=by
 have:=Dt b c p rs x w hn hp hv;rcases(Ko rs x).ex with⟨e,-⟩|⟨i,hi,e,q⟩
 ·rw[e] at this;exact this
 ·exact absurd q (hx _ (aH hi))
theorem Ks(p:Option Addr)(b c:Nat)(rs:List aJ)(NM:aJ->List af)(NB:aJ->Nat)(RK:af->Nat)(w:ae)(hR:pY w p b rs NM NB)(hY:Du rs NM RK)(k:Nat)(hk:k<rs.length)(hc:rs.length<=c):
  Calls au 66 #[.slice p rs.length c,.int .i64 k] w fun e w'=>e=.returned (.int .i64 0)/\Below w.heap.size w w'/\w.heap.size<=w'.heap.size:=by
 have xl:=hR.gY;obtain⟨ep,hb⟩:=hR.ptr (fun e=>by rw[e] at hk;simp at hk);subst ep;obtain⟨c0,c1,c2⟩:=hR.at_ k hk;obtain⟨n1,n2,n3,n4⟩:=hR.nm rs[k] (aH hk);have y1:=hY.outs rs[k] (aH hk);have y2:=hY.ins rs[k] (aH hk);obtain⟨y3,y4⟩:=hY.eU rs[k] (aH hk);rw[n1] at c2;have QQ:∀q∈rs.take k,q.out≠rs[k].out:=fun q hq e=>by
  obtain⟨j,hj,rfl⟩:=bf hq;have sk:j<k:=by simp at hj;omega
  rw[gh] at e;have:=List.pairwise_iff_getElem.1 hY.nodup j k dX dX sk;simp at this;exact this e
 have gB:∀x:Obj,Below w.heap.size w (w.alloc x):=fun x=>(Below.refl _ _).alloc (ag _) _;have pw:∀x:Obj,eX (w.alloc x) b (rs.take k):=fun x i hi=>by
  have mn:i<rs.length:=by simp at hi;omega
  have:=(hR.at_.below hb (gB x)) i mn;simpa using this
 have iG:=fun x=>Hk (NB rs[k]) rs[k].sc rs[k].sa (NM rs[k]) (w.alloc x) aa (fun q=>(n2 q).1) (fun j hj=>n3.below (n2 (fun e=>by rw[e] at hj;simp at hj)).2 (gB x) j hj) y2;have zA:=fun x=>Kp rs[k].out y1 (w.alloc x);have Iz:=fun x=>QP rs[k].eU (w.alloc x) y3 y4;have r8:=fun x n=>Kr b c (some ⟨b,0,none⟩) (rs.take k) rs[k].out ((w.alloc x).drewN n) dX (fun _=>rfl) (fun i hi=>pw x i hi) QQ;have LV:(rs.take k).length=k:=dX;simp only[LV] at r8;have n4I:¬(4:Int)<((NM rs[k]).length:Int):=aa;have hkc:k<=c:=aa;have aiV:(k:Int)<=(c:Int):=aa;clear pw gB n2 n3 QQ;generalize rs[k].out=y at *;generalize rs[k].eU=rc at *;generalize rs[k].sa=sa at *;generalize rs[k].sc=sc at *;generalize (NM rs[k]).length=nl at *;go_enter func66,ntmps66;go_wp2_with (first
  | (go_at_call 68;refine(zA _).mono ?_;rintro e w' ⟨rfl,rfl⟩)
  | (go_at_call 105;refine(iG _).mono ?_;rintro e w' ⟨rfl,rfl⟩)
  | (go_at_call 106;refine(Iz _).mono ?_;rintro e w' ⟨rfl,rfl⟩))
 aeA (first|(go_at_call 107;refine Calls.quiet_of_same (r8 _ _)))
 go_wp2;go_ret;have hB:=(Below.refl w.heap.size w).alloc (ag _) (.cells #[.string y,.int .i64 rc,.slice sa nl sc] 42);exact⟨rfl,⟨hB.os,hB.tape,hB.output,hB.size,hB.block⟩,hB.size⟩
theorem QR(p:Option Addr)(b c:Nat)(rs:List aJ)(NM:aJ->List af)(NB:aJ->Nat)(RK:af->Nat)(w:ae)(hR:pY w p b rs NM NB)(hY:Du rs NM RK)(hc:rs.length<=c):
  Calls au 39 #[.slice p rs.length c] w fun e w'=>e=.returned (.tuple #[.int .i64 0,.int .i64 0])/\Below w.heap.size w w'/\w.heap.size<=w'.heap.size:=by
 have xl:=hR.gY;have h8:¬(8:Int)<(rs.length:Int):=aa;go_enter func39,ntmps39;go_wp2;go_loopw [12] (fun i w'=>∃k:Nat,k<=rs.length/\i=.int .i64 k/\Below w.heap.size w w'/\w.heap.size<=w'.heap.size) (fun i _=>rs.length-(intOf i).toNat)
 case atStart=>exact⟨0,aV _,rfl,Below.refl _ _,ag _⟩
 case round =>
  obtain⟨k,hk,rfl,gB,hz⟩:=hrel;by_cases cB:k<rs.length
  ·have aiW:=Ks p b c rs NM NB RK _ (hR.below gB) hY k cB hc;go_wp2_with (go_at_call 66;refine aiW.mono ?_;rintro e w2 ⟨rfl,pH,Tx⟩);exact⟨⟨k+1,aa,by go_num,gB.trans (pH.mono hz),aa⟩,by simp[intOf];omega⟩
  ·have XT:=Dv (fun i=>((rs[i]?).map fun r=>RK r.out).getD 0) p b c rs NM NB _ (hR.below gB) (fun i hi x hx j hj e=>by
    simp only[bp hi,bp hj,aK,br];rw[e];exact hY.EA _ (aH hi) x hx (by rw[<- e];exact List.mem_map.2 ⟨_,aH hj,rfl⟩))
   go_wp2_with (go_at_call 67;refine XT.mono ?_;rintro e w2 ⟨rfl,pH,Tx⟩)
   go_ret2
   exact⟨rfl,gB.trans (pH.mono hz),aa⟩
end
section
open Go.RowKit
theorem Ud:(au.info? 44).map (fun i=>(i.zero,i.size,i.bytes))=some (some (.agg #[.string aP,.string aP]),2,32):=ah
def fS(fs:List (af×af)):List Value:=(fs.map fun f=>[Value.string f.1,.string f.2]).flatten
theorem EC(fs:List (af×af))(f:af×af):fS (fs++[f])=fS fs++[.string f.1,.string f.2]:=by simp[fS]
theorem wG:∀(fs:List (af×af)) (i:Nat) (h:i<fs.length),(fS fs)[i*2]?=some (.string fs[i].1)/\(fS fs)[i*2+1]?=some (.string fs[i].2)
 |f::fs,0,h=>by simp[fS]
 |f::fs,i+1,h=>by
  have ih:=wG fs i (by simpa using h);have e:fS (f::fs)=.string f.1 :: .string f.2::fS fs:=by simp[fS]
  have e2:(i+1)*2=i*2+1+1:=aa;rw[e,e2];simpa using ih
def lT(w:ae)(b:Nat)(fs:List (af×af)):Prop:=∀i (h:i<fs.length),w.cell? ⟨b,i*2,none⟩=some (.string fs[i].1)/\w.cell? ⟨b,i*2+1,none⟩=some (.string fs[i].2)
theorem lT.below{w w':ae}{b:Nat}{fs:List (af×af)}(h:lT w b fs)(hb:b<w.heap.size)(hw:Below w.heap.size w w'):lT w' b fs:=fun k hk=>by
 obtain⟨hc,-⟩:=wq hw;rw[hc _ _ hb,hc _ _ hb];exact h k hk
theorem tE(W:ae)(lo:Nat)(v:Value)(fs:List (af×af))(x t:af)(A:Nat)(h:W.ownsRow lo 44 2 v fs.length (fS fs))(hn:fs.length<=100000)(vO:lo<=W.heap.size)(c0:W.cell? ⟨A,0,none⟩=some (.string x))(c1:W.cell? ⟨A,1,none⟩=some (.string t)):
  ∃v' W',(Builtin.append_ #[37,37] 37 #[v,.slice (some ⟨A,0,none⟩) 1 1]).run au W=.ok v' W'/\W'.ownsRow lo 44 2 v' (fs++[(x,t)]).length (fS (fs++[(x,t)]))/\W.grownBy W' v.ownBlock:=by
 obtain⟨i,hi,ov⟩:=Option.map_eq_some_iff.1 Ud;simp only[bu] at ov;obtain⟨v',W',e1,e2,e3,_⟩:=run_append_own (P:=au) W lo 37 37 44 i _ 2 32 underlying37 hi ov.1 ov.2.1 ov.2.2 rfl aa v fs.length (fS fs) h ⟨A,0,none⟩ 1 1 [.string x,.string t] rfl (fun j u hj=>by
  match j,hj with
  |0,hj=>simp at hj;subst hj;simpa[Addr.add] using c0
  |1,hj=>simp at hj;subst hj;simpa[Addr.add] using c1) (by simp;exact⟨rfl,rfl⟩) (by simp[maxLen];omega) aa vO
 exact⟨v',W',e1,by rw[EC];simpa using e2,e3⟩
theorem mL{w:ae}{lo e sz n:Nat}{v:Value}{xs:List Value}(h:w.ownsRow lo e sz v n xs):∃p l c,v=.slice p l c:=by
 obtain⟨_,hc⟩:=h;rcases hc with⟨rfl,_⟩|⟨g,cap,cur,rfl,h1,_⟩
 ·exact⟨_,_,_,rfl⟩
 ·exact⟨_,_,_,rfl⟩
def Hl(fs:List (af×af))(x:af):Bool:=inL (fs.map (·.1)) x
def te(fs:List (af×af))(x:af):List (af×af):=fs.filter fun f=>decide (f.1≠x)
def qG(fs:List (af×af))(x t:af)(there:Bool):List (af×af):=te fs x++(if there then[(x,t)] else[])
theorem Kt(fs:List (af×af))(x:af):(te fs x).length<=fs.length:=fj _ _
theorem QS(fs:List (af×af))(x:af)(k:Nat)(h:k<fs.length):te (fs.take (k+1)) x=te (fs.take k) x++(if fs[k].1=x then[] else[fs[k]]):=by
 rw[take_succ fs k h,te,List.filter_append];by_cases e:fs[k].1=x
 ·simp[te,e]
 ·simp[te,e]
theorem Xc(S b c:Nat)(kv rv:Value)(ed:Int)(p:Option Addr)(fs:List (af×af))(x:af)(w:ae)(hS:w.cell? ⟨S,2,none⟩=some (.slice p fs.length c))(hn:fs.length<=1000)(hp:fs≠[]->p=some ⟨b,0,none⟩)(hf:lT w b fs):
  Calls au 35 #[.pointer (some ⟨S,0,none⟩),.string x] w fun e w'=>e=.returned (.bool (Hl fs x))/\w'=w:=by
 go_enter func35,ntmps35;go_wp2;go_loop [5] (fun i=>∃k:Nat,k<=fs.length/\i=.int .i64 k/\x∉(fs.take k).map (·.1)) (fun i=>fs.length-(intOf i).toNat)
 case atStart=>exact⟨0,aV _,rfl,aj⟩
 case round =>
  obtain⟨k,hk,rfl,hs⟩:=hrel;by_cases cB:k<fs.length
  ·have e:=hp (fun e=>by rw[e] at cB;simp at cB);subst e;obtain⟨h1,-⟩:=hf k cB;have hm:fs[k].1∈fs.map (·.1):=List.mem_map.2 ⟨_,aH cB,rfl⟩;have tJ:(fs.take (k+1)).map (·.1)=(fs.take k).map (·.1)++[fs[k].1]:=by rw[take_succ fs k cB,gN];rfl
   generalize fs[k].1=y at *;by_cases hx:y=x
   ·have rU:Hl fs x=true:=(BC x _).2 (hx▸hm);clear tJ hm hs;subst hx;go_wp2;go_ret;exact⟨rfl,rfl⟩
   ·have hxl:=vy hx;go_wp2
    go_round
    case rel=>exact⟨k+1,aa,by go_num,by rw[tJ];simp only[List.mem_append,List.mem_singleton];exact fun q=>q.elim hs fun e=>hx e.symm⟩
    case measure=>simp[intOf];omega
  ·rw[cJ aa] at hs;have rU:Hl fs x=false:=by
    cases h:Hl fs x
    ·rfl
    ·exact absurd ((BC x _).1 h) hs
   go_wp2;go_ret;exact⟨rfl,rfl⟩
theorem Xd(S b c:Nat)(p:Option Addr)(fs:List (af×af))(x t:af)(there:Bool)(w:ae)(hS:w.cell? ⟨S,2,none⟩=some (.slice p fs.length c))(hSf:w.frozen? ⟨S,2,none⟩=false)(hSz:S<w.heap.size)(hn:fs.length<=1000)(hp:fs≠[]->p=some ⟨b,0,none⟩/\b<w.heap.size)(hf:lT w b fs):
  Calls au 22 #[.pointer (some ⟨S,0,none⟩),.string x,.string t,.bool there] w fun e w'=>e=.returned (.tuple #[])/\∃v w2,Below w.heap.size w w2/\w.heap.size<=w2.heap.size/\w2.ownsRow w.heap.size 44 2 v (qG fs x t there).length (fS (qG fs x t there))/\w'=w2.setCell ⟨S,2,none⟩ v:=by
 go_enter func22,ntmps22;go_wp2;go_loopw [8,9] (fun v i w'=>∃k:Nat,k<=fs.length/\i=.int .i64 k/\Below w.heap.size w w'/\w.heap.size<=w'.heap.size/\w'.ownsRow w.heap.size 44 2 v (te (fs.take k) x).length (fS (te (fs.take k) x))) (fun v i _=>fs.length-(intOf i).toNat)
 case atStart=>exact⟨0,aV _,rfl,Below.refl _ _,ag _,by simp[te,fS],.inl ⟨rfl,rfl⟩⟩
 case round =>
  obtain⟨k,hk,rfl,gB,hz,cp⟩:=hrel;have XP:=(gB.cell (p:=⟨S,2,none⟩) hSz).trans hS;have apN:=(gB.frozen (p:=⟨S,2,none⟩) hSz).trans hSf;by_cases cB:k<fs.length
  ·obtain⟨e,hb⟩:=hp (fun e=>by rw[e] at cB;simp at cB);subst e;obtain⟨h1,h2⟩:=hf.below hb gB k cB;have Eu:=QS fs x k cB;have hl:=Kt (fs.take k) x;have Rc:(fs.take k).length<=k:=dX;generalize te (fs.take k) x=raw at *;generalize fs[k]=f at *;obtain⟨y,ty⟩:=f;simp only at h1 h2 Eu;by_cases hx:y=x
   ·rw[if_pos hx,List.append_nil] at Eu;subst hx;go_wp2;exact⟨⟨k+1,aa,by go_num,gB,hz,by rw[Eu];exact cp⟩,by simp[intOf];omega⟩
   ·rw[if_neg hx] at Eu;have hxl:=vy hx;obtain⟨v',W',e1,e2,e3⟩:=tE (wr.alloc (.cells #[.string y,.string ty] 44)) w.heap.size _ _ y ty wr.heap.size (qc cp _) aa dX (pj _ _ _ 0) (pj _ _ _ 1);have xA:=Below.grown (gB.alloc aa _) e3 dX (zP cp);go_wp2_with (at_builtin;refine gw rfl _ _ 37 rfl rfl rfl e1 ?_);exact⟨⟨k+1,aa,by go_num,xA,xA.size,by rw[Eu];exact e2⟩,by simp[intOf];omega⟩
  ·rw[cJ aa] at cp;have hl:=Kt fs x;have A2:qG fs x t there=te fs x++(if there then[(x,t)] else[]):=rfl;generalize te fs x=raw at *;cases there
   ·have Ue:qG fs x t false=raw:=by rw[A2];simp
    clear A2;obtain⟨sp,sl,sc,rfl⟩:=mL cp;go_wp2
    go_end0
    exact⟨rfl,_,_,gB,hz,by rw[Ue];exact cp,rfl⟩
   ·have Ue:qG fs x t true=raw++[(x,t)]:=by rw[A2];simp
    clear A2;obtain⟨v',W',e1,e2,e3⟩:=tE (wr.alloc (.cells #[.string x,.string t] 44)) w.heap.size _ _ x t wr.heap.size (qc cp _) aa dX (pj _ _ _ 0) (pj _ _ _ 1);have xA:=Below.grown (gB.alloc aa _) e3 dX (zP cp);obtain⟨sp,sl,sc,rfl⟩:=mL e2;have hc3:=(xA.cell (p:=⟨S,2,none⟩) hSz).trans hS;have apO:=(xA.frozen (p:=⟨S,2,none⟩) hSz).trans hSf;go_wp2_with (at_builtin;refine gw rfl _ _ 37 rfl rfl rfl e1 ?_)
    go_end0
    exact⟨rfl,_,_,xA,xA.size,by rw[Ue];exact e2,rfl⟩
end
section
open Go.RowKit
theorem M4(b c:Nat)(p:Option Addr)(ts:List af)(w:ae)(hn:ts.length<=100000)(hp:p=none->ts=[])(hq:ts≠[]->p=some ⟨b,0,none⟩)(ht:fE w b 0 ts):
  Calls au 51 #[.slice p ts.length c] w fun e w'=>∃v,e=.returned v/\w'.ownsRow w.heap.size 9 1 v ts.length (ts.map .string)/\Below w.heap.size w w'/\w.heap.size<=w'.heap.size:=by
 cases p with
 |none =>
  obtain rfl:=hp rfl;refine(Tryz.slices_Clone_string_nil _ _ w).mono fun e w' hq=>?_;obtain⟨rfl,rfl⟩:=hq;exact⟨_,rfl,⟨aj,.inl ⟨rfl,rfl⟩⟩,Below.refl _ _,ag _⟩
 |some a =>
  by_cases dJ:ts=[]
  ·subst dJ;refine(Tryz.slices_Clone_string_zero a _ w).mono fun e w' hq=>?_;obtain⟨v',rfl,h1,-,h2⟩:=hq;exact⟨_,rfl,h1,h2,h2.size⟩
  ·have e:=hq dJ;cases e;refine(Tryz.slices_Clone_string b 0 ts.length c ts w (ag _) aa (fun j hj=>?_)).mono fun e w' hq=>?_
   ·rw[ht j hj];simp[hj]
   ·obtain⟨v',rfl,h1,h2⟩:=hq;rw[cU] at h1;exact⟨_,rfl,h1,h2.2,h2.2.size⟩
def eO(rs:List aJ):List Value:=(rs.map aJ.cells).flatten
theorem qH(r:aJ)(rs:List aJ):eO (r::rs)=.string r.out :: .int .i64 r.eU :: .slice r.sa r.sl r.sc::eO rs:=by simp[eO,aJ.cells]
theorem rQ(rs:List aJ):(eO rs).length=rs.length*3:=by
 induction rs with
 |nil=>rfl
 |cons r rs ih =>
  rw[qH];simp[ih];omega
theorem oy:∀(rs:List aJ) (i:Nat) (h:i<rs.length),(eO rs)[i*3]?=some (.string rs[i].out)/\(eO rs)[i*3+1]?=some (.int .i64 rs[i].eU)/\(eO rs)[i*3+2]?=some (.slice rs[i].sa rs[i].sl rs[i].sc)
 |r::rs,0,h=>by simp[qH]
 |r::rs,i+1,h=>by
  have ih:=oy rs i (by simpa using h);have e2:(i+1)*3=i*3+1+1+1:=aa;rw[qH,e2];simpa using ih
theorem ED(rs:List aJ):∀u∈eO rs,u.oneCell'=true:=fun u hu=>by
 simp only[eO,List.mem_flatten,List.mem_map] at hu;obtain⟨l,⟨r,-,rfl⟩,hu⟩:=hu;simp[aJ.cells] at hu;rcases hu with rfl|rfl|rfl<;>rfl
theorem EE{w:ae}{b:Nat}{rs:List aJ}(h:eX w b rs):∀j u,(eO rs)[j]?=some u->w.cell? ⟨b,j,none⟩=some u:=fun j u hu=>by
 have hj:j<rs.length*3:=by
  rw[<- rQ];exact(List.getElem?_eq_some_iff.1 hu).1
 have hi:j/3<rs.length:=aa;obtain⟨c0,c1,c2⟩:=oy rs (j/3) hi;obtain⟨d0,d1,d2⟩:=h (j/3) hi;have h3:j=j/3*3\/j=j/3*3+1\/j=j/3*3+2:=aa;generalize j/3=i at *;rcases h3 with rfl|rfl|rfl
 ·rw[c0] at hu;rw[d0];exact hu
 ·rw[c1] at hu;rw[d1];exact hu
 ·rw[c2] at hu;rw[d2];exact hu
theorem Uf:(au.info? 222).map (fun i=>(i.zero,i.size,i.bytes))=some (some (.agg #[.bool false,.slice none 0 0,.bool false,.string aP]),4,56):=ah
theorem EF(w:ae)(n:Nat)(hn:n<=100000):(Instr.makeSlice 148 (.int .i64 (n:Int)) (.int .i64 (n:Int))).run au w=.ok (.slice (some ⟨w.heap.size,0,none⟩) n n) (w.alloc (.cells (madeCells #[.bool false,.slice none 0 0,.bool false,.string aP] (n*4)) 222)):=by
 obtain⟨i,hi,hz⟩:=Option.map_eq_some_iff.1 Uf;simp only[bu] at hz;obtain⟨hz,hs,hb⟩:=hz;have:=run_make (P:=au) w 148 222 i _ underlying148 hi hz .i64 .i64 n n aa (fP _) (by rw[hb];omega) aa;rw[this,hs];simp[Value.cells]
theorem Hm{w:ae}{lo e sz n:Nat}{v:Value}{xs:List Value}(h:w.ownsRow lo e sz v n xs){p:Option Addr}{l c:Nat}(hv:v=.slice p l c):l=n:=by
 obtain⟨h0,hc⟩:=h;rcases hc with⟨rfl,h2⟩|⟨g,cap,cur,rfl,h1,_⟩
 ·cases hv;exact h2.symm
 ·cases hv;rfl
def tf(j:Nat):Value:=match j%4 with
 |0=>.bool false
 |1=>.slice none 0 0
 |2=>.bool false
 |_=>.string aP
def uT(lo hi:Nat)(v:Value)(ts:List af)(w':ae):Prop:=(v=.slice none 0 0/\ts=[])\/∃g cap,v=.slice (some ⟨g,0,none⟩) ts.length cap/\lo<g/\g<hi/\fE w' g 0 ts
theorem uT.keep{lo hi mn:Nat}{v:Value}{ts:List af}{w w':ae}(h:uT lo hi v ts w)(hz:hi<=mn)(e:∀g,lo<g->g<hi->w'.heap[g]?=w.heap[g]?):uT lo mn v ts w':=by
 rcases h with h|⟨g,cap,h1,h2,h3,h4⟩
 ·exact .inl h
 ·exact .inr ⟨g,cap,h1,h2,aa,fun k hk=>(World.cell?_of_block (w:=w) (w':=w') (a:=⟨g,0+k,none⟩) (e g h2 h3)).trans (h4 k hk)⟩
theorem QT{lo:Nat}{v:Value}{ts:List af}{w1 w2:ae}(h:w2.ownsRow w1.heap.size 9 1 v ts.length (ts.map .string))(vO:lo<w1.heap.size):uT lo w2.heap.size v ts w2:=by
 have h0:=h;obtain⟨h4,h5⟩:=h;rcases h5 with⟨e1,e2⟩|⟨g,cap,cur,rfl,q1,q2,q3,q4,q5,q6⟩
 ·refine .inl ⟨e1,?_⟩;cases ts with
  |nil=>rfl
  |cons r rs=>simp at e2
 ·have hg:g<w2.heap.size:=a8 fun q=>by
   rw[cI (di q)] at q2;cases q2
  refine .inr ⟨g,cap,rfl,aa,hg,fun i hi=>?_⟩;have hc:=h0.cells (g:=g) rfl i (.string ts[i]) (by simp[hi]);have ha:(⟨g,0,none⟩:Addr).add i=⟨g,i,none⟩:=by simp[Addr.add];omega
  rw[ha] at hc;rw[bC];exact hc
structure BI(w:ae)(rs:List aJ)(NM:aJ->List af)(Ru k:Nat)(w':ae):Prop where
 M1:Below w.heap.size w w'
 ru:rs≠[]->w.heap.size<=Ru/\Ru<w'.heap.size
 row:rs≠[]->∃N f,w'.rowIs Ru 42 N f/\rs.length*3<=N/\∀i (h:i<rs.length),f (i*3)=.string rs[i].out/\f (i*3+1)=.int .i64 rs[i].eU/\(k<=i->f (i*3+2)=.slice rs[i].sa rs[i].sl rs[i].sc)/\(i<k->uT Ru w'.heap.size (f (i*3+2)) (NM rs[i]) w')
structure M5(lo:Nat)(rs:List aJ)(NM:aJ->List af)(v:Value)(w':ae):Prop where
 ex:∃(bb Rb Ru c:Nat) (p':Option Addr) (f:Nat->Value),v=.pointer (some ⟨bb,0,none⟩)/\lo<=Rb/\Rb<bb/\bb<w'.heap.size/\((p'=none/\rs=[])\/(p'=some ⟨Ru,0,none⟩/\lo<=Ru/\Ru<Rb)) /\
  (∀i (h:i<rs.length),w'.cell? ⟨Ru,i*3,none⟩=some (.string rs[i].out)/\w'.cell? ⟨Ru,i*3+1,none⟩=some (.int .i64 rs[i].eU)/\w'.cell? ⟨Ru,i*3+2,none⟩=some (f i)/\uT Ru Rb (f i) (NM rs[i]) w') /\
  w'.heap[bb]?=some (K8 (.slice p' rs.length c) (.int .u32 0) (.int .i32 0) (.int .u32 0) (.slice none 0 0) (.slice none 0 0) (.slice none 0 0) (.slice (some ⟨Rb,0,none⟩) rs.length rs.length)) /\
  w'.rowIs Rb 222 (rs.length*4) tf
theorem Ug(p:Option Addr)(b c:Nat)(rs:List aJ)(NM:aJ->List af)(NB:aJ->Nat)(w:ae)(hR:pY w p b rs NM NB)(hp:p=none->rs=[])(hpi:∀r∈rs,r.sa=none->NM r=[]):
  Calls au 41 #[.slice p rs.length c] w fun e w'=>∃v,e=.returned v/\Below w.heap.size w w'/\w.heap.size<=w'.heap.size/\M5 w.heap.size rs NM v w':=by
 have xl:=hR.gY;have fB:=EB b c rs.length p (eO rs) w (rQ rs) aa (fun e=>by rw[hp e];rfl) (fun dJ=>(hR.ptr (fun e=>dJ (by rw[e];rfl))).1) (EE hR.at_) (ED rs);have Jq:=fun w=>EF w rs.length aa;go_enter func41,ntmps41;go_wp2_with (go_at_call 71;refine fB.mono ?_;rintro e w1 ⟨v1,rfl,Ku,By,Wd⟩;obtain⟨p',sl,c',HV⟩:=mL Ku;have hsl:=Hm Ku HV;subst hsl;subst HV);obtain⟨Ru,gf,hB0⟩:∃Ru,((p'=none/\rs=[])\/(p'=some ⟨Ru,0,none⟩/\w.heap.size<=Ru/\Ru<w1.heap.size))/\BI w rs NM Ru 0 w1:=by
  rcases Ku.2 with⟨e1,e2⟩|⟨g,cap,cur,e1,q1,q2,q3,q4,q5,q6⟩
  ·have Cw:rs=[]:=List.length_eq_zero_iff.1 e2;injection e1 with e1 _ _;exact⟨0,.inl ⟨e1,Cw⟩,By,fun q=>absurd Cw q,fun q=>absurd Cw q⟩
  ·have hg:g<w1.heap.size:=a8 fun q=>by
    rw[cI (di q)] at q2;cases q2
   have hc:=Ku.cells (g:=g) (by rw[e1];rfl);cases e1;refine⟨g,.inr ⟨rfl,q1,hg⟩,By,fun _=>⟨q1,hg⟩,fun _=>⟨cur.size,fun j=>cur.getD j undef,⟨cur,q2,rfl,fun j hj=>by simp[hj]⟩,by rw[q5];exact iV _ q3,fun i hi=>?_⟩⟩;obtain⟨c0,c1,c2⟩:=oy rs i hi;have cc:∀j u,(eO rs)[j]?=some u->cur.getD j undef=u:=fun j u hu=>by
    have:=hc j u hu;have hj:j<rs.length*3:=by
     rw[<- rQ];exact(List.getElem?_eq_some_iff.1 hu).1
    have hj2:j<cur.size:=by rw[q5];exact bz hj (iV _ q3)
    have ha:(⟨g,0,none⟩:Addr).add j=⟨g,j,none⟩:=by simp[Addr.add];omega
    rw[ha] at this;simp[World.cell?,q2,hj2] at this;simp[hj2,this]
   exact⟨cc _ _ c0,cc _ _ c1,fun _=>cc _ _ c2,fun q=>aa⟩
 clear Ku By;go_loopw [9] (fun i w'=>∃k:Nat,k<=rs.length/\i=.int .i64 k/\BI w rs NM Ru k w'/\w1.heap.size<=w'.heap.size) (fun i _=>rs.length-(intOf i).toNat)
 case atStart=>exact⟨0,aV _,rfl,hB0,ag _⟩
 case round =>
  clear hB0;obtain⟨k,hk,rfl,hB,ov⟩:=hrel;by_cases cB:k<rs.length
  ·have dJ:rs≠[]:=fun e=>by rw[e] at cB;simp at cB
   rcases gf with⟨-,e⟩|⟨rfl,lE,GO⟩
   ·exact absurd e dJ
   obtain⟨N,f,cp,hN,hf⟩:=hB.row dJ;obtain⟨-,za⟩:=hB.ru dJ;obtain⟨f0,f1,f2,-⟩:=hf k cB;have c2:=cp.cell (show k*3+2<N by omega);have z2:=cp.frozen (k*3+2);rw[f2 (ag _)] at c2;obtain⟨n1,n2,n3,n4⟩:=hR.nm rs[k] (aH cB);rw[n1] at c2;have Pd:=M4 (NB rs[k]) rs[k].sc rs[k].sa (NM rs[k]) wr aa (hpi _ (aH cB)) (fun q=>(n2 q).1) (fun j hj=>n3.below (n2 (fun e=>by rw[e] at hj;simp at hj)).2 hB.M1 j hj);go_wp2_with (go_at_call 51;refine Pd.mono ?_;rintro e w2 ⟨v2,rfl,YI,pH,Tx⟩;have rU:=QT YI za;have KU:=mL YI;obtain⟨sp,sl,sc2,KU⟩:=KU;subst KU;have cc2:=(pH.cell (p:=⟨Ru,k*3+2,none⟩) za).trans c2;have zz2:=(pH.frozen (p:=⟨Ru,k*3+2,none⟩) za).trans z2);have aeB:=World.rowIs.of_block cp (pH.block Ru za);have on:=Go.Ren.je w2 Ru (k*3+2) (.slice sp sl sc2);refine⟨⟨k+1,aa,by go_num,⟨?_,fun _=>⟨lE,by rw[on.1];omega⟩,fun _=>⟨N,fun j=>if j=k*3+2 then .slice sp sl sc2 else f j,(aeB.set (k*3+2) _).congr fun j hj=>rfl,hN,fun i hi=>?_⟩⟩,by rw[on.1];omega⟩,by simp[intOf];omega⟩
   ·exact(hB.M1.trans (pH.mono (by have:=hB.M1.size;omega))).setCell (by simpa using lE) _
   ·obtain⟨g0,g1,g2,g3⟩:=hf i hi;have e0:¬i*3=k*3+2:=aa;have e1:¬i*3+1=k*3+2:=aa;simp only[if_neg e0,if_neg e1];refine⟨g0,g1,fun q=>?_,fun q=>?_⟩
    ·have e2:¬i*3+2=k*3+2:=aa;rw[if_neg e2];exact g2 aa
    ·by_cases e:i=k
     ·subst e;rw[if_pos rfl];exact rU.keep (bH on.1.symm) fun g hg _=>on.2 g aa
     ·have e2:¬i*3+2=k*3+2:=aa;rw[if_neg e2];exact(g3 aa).keep (by rw[on.1];exact Tx) fun g hg DX=>(on.2 g aa).trans (pH.block g DX)
  ·have lX:k=rs.length:=aa;subst lX;go_wp2;go_ret;generalize hm:madeCells #[.bool false,.slice none 0 0,.bool false,.string aP] (rs.length*4)=mc;have hms:mc.size=rs.length*4:=by rw[<- hm];simp[size_madeCells]
   have hzw:=hB.M1.size;refine⟨_,rfl,(hB.M1.alloc aa _).alloc dX _,dX,⟨wr.heap.size+1,wr.heap.size,Ru,c',p',fun i=>((wr.cell? ⟨Ru,i*3+2,none⟩).getD undef),rfl,hzw,aa,aj,?_,fun i hi=>?_,heap_alloc2_new wr _ _,mc,heap_alloc2_old wr _ _,hms,fun j hj=>?_⟩⟩
   ·exact gf.imp id fun q=>⟨q.1,q.2.1,aa⟩
   ·have dJ:rs≠[]:=fun e=>by rw[e] at hi;simp at hi
    obtain⟨N,f,cp,hN,hf⟩:=hB.row dJ;obtain⟨-,za⟩:=hB.ru dJ;obtain⟨g0,g1,-,g3⟩:=hf i hi;have uO:((wr.alloc (.cells mc 222)).alloc (K8 (.slice p' rs.length c') (.int .u32 0) (.int .i32 0) (.int .u32 0) (.slice none 0 0) (.slice none 0 0) (.slice none 0 0) (.slice (some ⟨wr.heap.size,0,none⟩) rs.length rs.length))).heap[Ru]?=wr.heap[Ru]?:=(alloc_old _ _ _ dX).trans (alloc_old _ _ _ za);have Uh:=World.rowIs.of_block cp uO;have d0:=Uh.cell (show i*3<N by omega);have d1:=Uh.cell (show i*3+1<N by omega);have d2:=Uh.cell (show i*3+2<N by omega);have d3:=cp.cell (show i*3+2<N by omega);rw[g0] at d0;rw[g1] at d1;refine⟨d0,d1,?_,?_⟩
    ·show _=some ((wr.cell? ⟨Ru,i*3+2,none⟩).getD undef);rw[d3];exact d2
    show uT _ _ ((wr.cell? ⟨Ru,i*3+2,none⟩).getD undef) _ _;rw[d3];exact(g3 hi).keep (ag _) fun g _ hg=>(alloc_old _ _ _ dX).trans (alloc_old _ _ _ hg)
   ·rw[<- hm];simp only[madeCells,aL,Array.getElem?_range,hj,if_true,aK];have h4:j%4=0\/j%4=1\/j%4=2\/j%4=3:=aa;rcases h4 with e|e|e|e<;>simp[e,tf]
end
def fileOf:List af->List V->af->V
 |k::ks,v::vs,x=>if x=k then v else fileOf ks vs x
 |_,_,_=>V0
theorem yU:∀(ks:List af) (vs:List V),(∀v∈vs,v.2.size<=12)->∀x,(fileOf ks vs x).2.size<=12
 | [],_,_,_=>by simp[fileOf,V0]
 |_::_,[],_,_=>by simp[fileOf,V0]
 |k::ks,v::vs,h,x=>by
  unfold fileOf;split
  ·exact h v aj
  ·exact yU ks vs (fun u hu=>h u (by simp[hu])) x
theorem Dw:∀(ks:List af) (vs:List V),ks.Nodup->vs.length=ks.length->vs=ks.map (fileOf ks vs)
 | [],[],_,_=>rfl
 | [],_::_,_,h=>by simp at h
 |_::_,[],_,h=>by simp at h
 |k::ks,v::vs,hn,h=>by
  have hn':=List.nodup_cons.1 hn;have ih:=Dw ks vs hn'.2 (by simpa using h);have e1:fileOf (k::ks) (v::vs) k=v:=by simp[fileOf]
  have e2:ks.map (fileOf (k::ks) (v::vs))=ks.map (fileOf ks vs):=cg fun x hx=>by
   have:x≠k:=fun e=>hn'.1 (e▸hx);simp[fileOf,this]
  rw[aA,e1,e2,<- ih]
theorem lS.nodup{xs:List af}(h:lS xs):xs.Nodup:=List.pairwise_iff_getElem.2 fun i j hi hj Fi e=>by
 have:=h i j hi hj Fi;rw[e,p9] at this;exact absurd this eA
theorem Dx{α:Type}{x:af}{v:α}:∀{l:List (af×α)},eW l x=some v->(x,v)∈l
 | [],h=>by cases h
 | (k,u)::l,h=>by
  unfold eW at h;split at h
  ·rename_i e;cases h;subst e;simp
  ·exact bE _ (Dx h)
theorem Kv{α:Type}{x:af}{v:α}{y:af×α}:∀{l:List (af×α)},y∈gS l x v->y=(x,v)\/y∈l
 | [],h=>by simpa[gS] using h
 | (k,u)::l,h=>by
  unfold gS at h;split at h
  ·rcases List.mem_cons.1 h with h|h
   ·exact .inl h
   ·exact .inr (bE _ h)
  ·rcases List.mem_cons.1 h with h|h
   ·exact .inr (h▸jI)
   ·exact(Kv h).imp id (bE _)
theorem Kw{α:Type}{x:af}{y:af×α}:∀{l:List (af×α)},y∈ma l x->y∈l
 | [],h=>by cases h
 | (k,u)::l,h=>by
  unfold ma at h;split at h
  ·exact bE _ h
  ·rcases List.mem_cons.1 h with h|h
   ·exact h▸jI
   ·exact bE _ (Kw h)
structure Sound(K:pG)(s:gV):Prop where
 ph:s.phase<=3
 fd:s.phase=2\/s.phase=3->∃lo F,s.fd=some (lo,F)
 src:s.phase=2\/s.phase=3->s.src=fq K.B.NM K.B.rs
 idle:s.phase<=1->s.src=[]/\s.rd=[]/\s.ck=0
 early:s.phase=2->s.ck=0
 full:s.phase=3->s.rd.length=s.src.length
 rd:∀x∈s.rd,x.1.2.size<=12
 th:∀x∈s.th,x.2.size<=12
 once:s.qn.Nodup
 lost:s.lost=true->4<=s.qn.length
theorem Dy{ts:List af}{lost:Bool}{x:af}(hn:ts.Nodup)(hl:lost=true->4<=ts.length):(jH ts lost x).1.Nodup/\((jH ts lost x).2=true->4<=(jH ts lost x).1.length)/\(∀y,y∈(jH ts lost x).1->y=x\/y∈ts)/\(∀y∈ts,y∈(jH ts lost x).1)/\(x∈(jH ts lost x).1\/(jH ts lost x).2=true)/\(lost=true->(jH ts lost x).2=true):=by
 unfold jH;by_cases hc:Lib.containsS ts x=true
 ·rw[if_pos hc];exact⟨hn,hl,fun y hy=>.inr hy,fun y hy=>hy,.inl ((Lib.containsS_iff _ _).1 hc),id⟩
 ·rw[if_neg hc];have hx:x∉ts:=fun q=>hc ((Lib.containsS_iff _ _).2 q);by_cases h4:4<=ts.length
  ·rw[if_pos h4];exact⟨hn,fun _=>h4,fun y hy=>.inr hy,fun y hy=>hy,.inr rfl,fun _=>rfl⟩
  ·rw[if_neg h4];refine⟨?_,fun q=>absurd (hl q) h4,fun y hy=>?_,fun y hy=>by simp[hy],.inl aj,id⟩
   ·refine List.nodup_append.2 ⟨hn,aj,fun a ha b hb e=>?_⟩;simp at hb;exact hx (by rw[<- hb,<- e];exact ha)
   ·simp at hy;exact hy.symm
section
variable {Fin:bL} {o:aN} {w:ae} {K:pG} {s s':gV} {lab:Nat->Nat}
theorem Sound.tick(h:Sound K s)(t:Nat):Sound K {s with time:=t}:=⟨h.ph,h.fd,h.src,h.idle,h.early,h.full,h.rd,h.th,h.once,h.lost⟩
theorem Sound.edit(h:Sound K s){x t:af}(ht:t.size<=12)(st':List (af×Int))(qX:Value):Sound K {s with th:=gS s.th x t,st:=st',qv:=qX,qn:=(jH s.qn s.lost x).1,lost:=(jH s.qn s.lost x).2}:=by
 obtain⟨q1,q2,-⟩:=Dy (x:=x) h.once h.lost;refine⟨h.ph,h.fd,h.src,h.idle,h.early,h.full,h.rd,fun y hy=>?_,q1,q2⟩;rcases Kv hy with rfl|hy
 ·exact ht
 ·exact h.th y hy
theorem Sound.remove(h:Sound K s){x:af}(st':List (af×Int))(qX:Value):Sound K {s with th:=ma s.th x,st:=st',qv:=qX,qn:=(jH s.qn s.lost x).1,lost:=(jH s.qn s.lost x).2}:=by
 obtain⟨q1,q2,-⟩:=Dy (x:=x) h.once h.lost;exact⟨h.ph,h.fd,h.src,h.idle,h.early,h.full,h.rd,fun y hy=>h.th y (Kw hy),q1,q2⟩
theorem Sound.stand(h:Sound K s){p t:Nat}(hp:p<=1):Sound K (s.stand p t):=by
 refine⟨?_,?_,?_,?_,?_,?_,?_,h.th,h.once,h.lost⟩<;>simp only[gV.stand]
 ·omega
 ·omega
 ·omega
 ·exact fun _=>⟨trivial,trivial,trivial⟩
 ·omega
 ·omega
 ·simp
theorem Sound.checked{F:da}{file:af->V}{v:Value}(h:Sound K s)(h3:s.phase=3)(hc:Checked K s s' F file v):Sound K s':=by
 rcases hc with⟨-,-,iu,QL,sD,sE,-,rfl⟩|⟨h1,h2,⟨-,-,rfl⟩|⟨-,-,rfl⟩⟩
 ·have q:=h.stand (p:=0) (t:=0) aa;exact⟨q.ph,q.fd,q.src,q.idle,q.early,q.full,q.rd,q.th,q.once,q.lost⟩
 ·exact h.stand aa
 ·exact⟨h.ph,h.fd,h.src,fun q=>by have:s.phase<=1:=q;omega,fun q=>by have:s.phase=2:=q;omega,h.full,h.rd,h.th,h.once,h.lost⟩
theorem Sound.late(h:Sound K s)(h2:s.phase=2)(hf:s.rd.length=s.src.length):Sound K {s with phase:=3} :=
 ⟨aj,fun _=>h.fd (.inl h2),fun _=>h.src (.inl h2),fun q=>by simp at q,fun q=>by simp at q,fun _=>hf,h.rd,h.th,h.once,h.lost⟩
theorem AM{th:List (af×af)}(h:∀x∈th,x.2.size<=12)(x:af):(dW th x).2.size<=12:=by
 unfold dW;split
 ·rename_i t e;exact h _ (Dx e)
 ·simp[V0]
theorem Sound.work{F:da}{file:af->V}{v:Value}(h:Sound K s)(hc:jZ K s s' F file v):Sound K s':=by
 rcases hc with⟨h2,⟨h3,h4⟩|⟨h3,h4,MU,rfl⟩⟩|⟨h2,h3⟩|⟨h2,h3,h4⟩
 ·exact(h.late h2 h3).checked rfl h4
 ·refine⟨h.ph,h.fd,h.src,fun q=>by have:s.phase<=1:=q;omega,h.early,fun q=>by have:s.phase=3:=q;omega,fun x hx=>?_,h.th,h.once,h.lost⟩;rcases List.mem_append.1 hx with hx|hx
  ·exact h.rd x hx
  ·simp at hx;subst hx;exact AM h.th _
 ·exact h.checked h2 h3
 ·rcases h4 with⟨-,-,rfl⟩|⟨-,-,-,lo,F',MW,rfl⟩|⟨-,-,-,rfl⟩
  ·have q:Sound K {s with qv:=.slice none 0 0,qn:=[],lost:=false}:=⟨h.ph,h.fd,h.src,h.idle,h.early,h.full,h.rd,h.th,aj,aj⟩;exact q.stand aa
  ·exact⟨by simp[gV.stand],fun _=>⟨lo,F',rfl⟩,fun _=>rfl,fun q=>by simp[gV.stand] at q,fun _=>rfl,fun q=>by simp[gV.stand] at q,by simp[gV.stand],h.th,h.once,h.lost⟩
  ·exact h
theorem jZ.kind{F:da}{file:af->V}{v:Value}(hc:jZ K s s' F file v):∃n x,v=did n x/\0<=n/\n<=6/\((n=1/\s'.qn=[]/\s'.lost=false)\/(n≠1/\s'.qn=s.qn/\s'.lost=s.lost))/\s'.th=s.th/\s'.st=s.st/\s'.time=s.time:=by
 have Kx:∀s s':gV,Checked K s s' F file v->∃n x,v=did n x/\0<=n/\n<=6/\((n=1/\s'.qn=[]/\s'.lost=false)\/(n≠1/\s'.qn=s.qn/\s'.lost=s.lost))/\s'.th=s.th/\s'.st=s.st/\s'.time=s.time:=fun s s' hc=>by
  rcases hc with⟨-,e,iu,QL,sD,sE,-,rfl⟩|⟨h1,h2,⟨-,e,rfl⟩|⟨-,e,rfl⟩⟩;all_goals exact⟨_,_,e,aa,aa,.inr ⟨aa,rfl,rfl⟩,rfl,rfl,rfl⟩
 rcases hc with⟨h2,⟨h3,h4⟩|⟨h3,e,MU,rfl⟩⟩|⟨h2,h3⟩|⟨h2,h3,h4⟩
 ·exact Kx {s with phase:=3} s' h4
 ·exact⟨_,_,e,aa,aa,.inr ⟨aa,rfl,rfl⟩,rfl,rfl,rfl⟩
 ·exact Kx _ _ h3
 ·rcases h4 with⟨-,e,rfl⟩|⟨-,-,e,lo,F',MW,rfl⟩|⟨-,-,e,rfl⟩
  ·exact⟨_,_,e,aa,aa,.inl ⟨rfl,rfl,rfl⟩,rfl,rfl,rfl⟩
  ·exact⟨_,_,e,aa,aa,.inr ⟨aa,rfl,rfl⟩,rfl,rfl,rfl⟩
  ·exact⟨_,_,e,aa,aa,.inr ⟨aa,rfl,rfl⟩,rfl,rfl,rfl⟩
theorem uU[Payload](h:bo o w K s 0 lab)(hs:Sound K s):
  bA au (XB au Fin 0) 38 #[.pointer (some ⟨K.kb,0,none⟩)] o w fun v o' w'=>∃s' lab' F,((s.phase=2\/s.phase=3)->∃lo,s.fd=some (lo,F))/\jZ K s s' F (fileOf s.src (s.rd.map (·.1))) v/\Sound K s'/\bo o' w' K s' 0 lab'/\cP o w lab o' w' lab':=by
 have pF:∀x,(fileOf s.src (s.rd.map (·.1)) x).2.size<=100:=fun x=>by
  have:=yU s.src (s.rd.map (·.1)) (fun v hv=>by
   obtain⟨y,hy,rfl⟩:=List.mem_map.1 hv;exact hs.rd y hy) x
  omega
 have aeC:s.src=fq K.B.NM K.B.rs->s.rd.length=s.src.length->s.rd.map (·.1)=(fq K.B.NM K.B.rs).map (fileOf s.src (s.rd.map (·.1))):=fun e hl=>by
  have hn:s.src.Nodup:=by rw[e];exact(oZ _).1.nodup
  have:=Dw s.src (s.rd.map (·.1)) hn (by simpa using hl);rw[<- e];exact this
 obtain⟨lo,F,hF⟩:∃(lo:Nat) (F:da),s.phase=2\/s.phase=3->s.fd=some (lo,F):=by
  by_cases hp:s.phase=2\/s.phase=3
  ·obtain⟨lo,F,e⟩:=hs.fd hp;exact⟨lo,F,fun _=>e⟩
  ·exact⟨0,⟨[],0,0,fun _=>0,.slice none 0 0⟩,fun q=>absurd q hp⟩
 refine(aaG h lo F _ pF hF (fun h2 hl=>aeC (hs.src (.inl h2)) hl) (fun h3=>⟨hs.full h3,aeC (hs.src (.inr h3)) (hs.full h3)⟩)).mono ?_;rintro v o' w' ⟨s',lab',hw,hk,hS⟩;exact⟨s',lab',F,fun q=>⟨lo,hF q⟩,hw,hs.work hw,hk,hS⟩
end
section
open Go.RowKit (intOf)
theorem Hn(w:ae):Calls au 60 #[] w fun e w'=>e=.returned (.pointer (some ⟨w.heap.size+2,0,none⟩))/\w'=((w.alloc (.map #[] 0)).alloc (.map #[] 0)).alloc (.cells #[.map (some w.heap.size),.map (some (w.heap.size+1))] 164):=by
 have Jq:∀(t:TypeId) (w:ae),(Instr.makeMap t none).run au w=.ok (.map (some w.heap.size)) (w.alloc (.map #[] 0)):=fun t w=>rfl;go_enter func60,ntmps60;go_wp2;go_ret;exact⟨rfl,rfl⟩
section
variable {Fin:bL} {o o':aN} {w w':ae}
structure Hand(o:aN)(w:ae)(p:Option Addr)(b c:Nat)(rs:List aJ)(NM:aJ->List af)(NB:aJ->Nat)(RK:af->Nat):Prop where
 gY:rs.length<=8
 ptr:rs≠[]->p=some ⟨b,0,none⟩/\o b
 nil:p=none->rs=[]
 at_:eX w b rs
 cl:Cl au L0 o (.slice p rs.length c)
 cap:rs.length<=c
 nm:∀r∈rs,r.sl=(NM r).length/\(NM r≠[]->r.sa=some ⟨NB r,0,none⟩/\o (NB r))/\fE w (NB r) 0 (NM r)/\(NM r).length<=4
 nmn:∀r∈rs,r.sa=none->NM r=[]
 yes:Du rs NM RK
 low:∀r∈rs,RK r.out<rs.length
theorem Hand.rin{p:Option Addr}{b c:Nat}{rs:List aJ}{NM:aJ->List af}{NB:aJ->Nat}{RK:af->Nat}{wl:ae}(h:Hand o w p b c rs NM NB RK)(hF:bN au L0 o w)(hz:wl.heap.size=w.heap.size)(aU:∀b,o b->wl.heap[b]?=w.heap[b]?):pY wl p b rs NM NB:=by
 refine⟨h.gY,fun q=>⟨(h.ptr q).1,by rw[hz];exact hF.lt (h.ptr q).2⟩,fun i hi=>?_,fun r hr=>⟨(h.nm r hr).1,fun q=>⟨((h.nm r hr).2.1 q).1,by rw[hz];exact hF.lt ((h.nm r hr).2.1 q).2⟩,fun k hk=>?_,(h.nm r hr).2.2.2⟩⟩
 ·exact hJ h.at_ (aU b (h.ptr (fun q=>by rw[q] at hi;simp at hi)).2) i hi
 ·exact dh (h.nm r hr).2.2.1 (aU _ ((h.nm r hr).2.1 (fun q=>by rw[q] at hk;simp at hk)).2) k hk
theorem OB{p:Option Addr}{b c:Nat}{rs:List aJ}{NM:aJ->List af}{NB:aJ->Nat}{RK:af->Nat}(hF:bN au L0 o w)(h:Hand o w p b c rs NM NB RK):
  bA au (XB au Fin 0) 39 #[.slice p rs.length c] o w fun v o' w'=>v=.tuple #[.int .i64 0,.int .i64 0]/\fY o w v o' w':=by
 refine bA.mono (eF ah hF (fun y hy=>by simp at hy;subst hy;exact h.cl) (Q:=fun wl v w'=>v=.tuple #[.int .i64 0,.int .i64 0]) (fun wl Ba v w1 w2 e1 e2 h=>h) (fun wl hz aU=>?_)) (fun v o' w' hq=>?_)
 ·refine(QR p b c rs NM NB RK wl (h.rin hF hz aU) h.yes h.cap).mono fun e w' hq=>?_;obtain⟨rfl,h1,h2⟩:=hq;exact⟨_,rfl,h2,fun b hb=>h1.block b hb,rfl⟩
 ·obtain⟨hN,wl,aW,-,-,-,h1⟩:=hq;exact⟨h1,hN⟩
theorem yV{w1 w2:ae}{b off:Nat}(e:w2.heap[b]?=w1.heap[b]?):w2.cell? ⟨b,off,none⟩=w1.cell? ⟨b,off,none⟩:=World.cell?_of_block (w:=w1) (w':=w2) (a:=⟨b,off,none⟩) e
theorem Ui{p:Option Addr}{b c:Nat}{rs:List aJ}{NM:aJ->List af}{NB:aJ->Nat}{RK:af->Nat}(hF:bN au L0 o w)(h:Hand o w p b c rs NM NB RK):
  bA au (XB au Fin 0) 41 #[.slice p rs.length c] o w fun v o' w'=>fY o w v o' w'/\M5 w.heap.size rs NM v w':=by
 refine bA.mono (eF ah hF (fun y hy=>by simp at hy;subst hy;exact h.cl) (Q:=fun wl v w'=>M5 wl.heap.size rs NM v w') (fun wl Ba v w1 w2 e1 e2 h=>?_) (fun wl hz aU=>?_)) (fun v o' w' hq=>?_)
 ·rw[e1];obtain⟨bb,Rb,Ru,c,p',f,h1,h2,h3,h4,h5,h6,h7,h8⟩:=h.ex;refine⟨bb,Rb,Ru,c,p',f,h1,h2,h3,by rw[e2];exact h4,h5,fun i hi=>?_,by rw[e2];exact h7,h8.of_block (by rw[e2])⟩;obtain⟨k1,k2,k3,k4⟩:=h6 i hi;exact⟨(yV (by rw[e2])).trans k1,(yV (by rw[e2])).trans k2,(yV (by rw[e2])).trans k3,k4.keep (ag _) fun g _ _=>by rw[e2]⟩
 ·refine(Ug p b c rs NM NB wl (h.rin hF hz aU) h.nil h.nmn).mono fun e w' hq=>?_;obtain⟨v,rfl,h1,h2,h3⟩:=hq;exact⟨_,rfl,h2,fun b hb=>h1.block b hb,h3⟩
 ·obtain⟨hN,wl,aW,z1,z2,hs,h3⟩:=hq;refine⟨hN,?_⟩;rw[z1] at h3;obtain⟨bb,Rb,Ru,c,p',f,h1,h2,h3,h4,h5,h6,h7,h8⟩:=h3.ex;refine⟨bb,Rb,Ru,c,p',f,h1,h2,h3,aa,h5,fun i hi=>?_,(hs bb aa aa).trans h7,h8.of_block (hs Rb h2 aa)⟩;obtain⟨k1,k2,k3,k4⟩:=h6 i hi;have za:w.heap.size<=Ru/\Ru<Rb:=by
   rcases h5 with⟨-,e⟩|⟨-,q1,q2⟩
   ·rw[e] at hi;simp at hi
   ·exact⟨q1,q2⟩
  have e:=hs Ru za.1 aa;exact⟨(yV e).trans k1,(yV e).trans k2,(yV e).trans k3,k4.keep (ag _) fun g g1 g2=>hs g aa aa⟩
theorem M6(hF:bN au L0 o w):
  bA au (XB au Fin 0) 60 #[] o w fun v o' w'=>fY o w v o' w'/\v=.pointer (some ⟨w.heap.size+2,0,none⟩)/\w'.heap.size=w.heap.size+3/\w'.heap[w.heap.size]?=some (.map #[] 0)/\w'.heap[w.heap.size+1]?=some (.map #[] 0)/\w'.heap[w.heap.size+2]?=some (.cells #[.map (some w.heap.size),.map (some (w.heap.size+1))] 164):=by
 refine bA.mono (eF ah hF (fun y hy=>by simp at hy) (Q:=fun wl v w'=>v=.pointer (some ⟨wl.heap.size+2,0,none⟩)/\w'.heap.size=wl.heap.size+3/\w'.heap[wl.heap.size]?=some (.map #[] 0)/\w'.heap[wl.heap.size+1]?=some (.map #[] 0)/\w'.heap[wl.heap.size+2]?=some (.cells #[.map (some wl.heap.size),.map (some (wl.heap.size+1))] 164)) (fun wl Ba v w1 w2 e1 e2 h=>?_) (fun wl hz aU=>?_)) (fun v o' w' hq=>?_)
 ·rw[e1,e2];exact h
 ·refine(Hn wl).mono fun e w' hq=>?_;obtain⟨rfl,rfl⟩:=hq;refine⟨_,rfl,dX,fun b hb=>?_,rfl,aj,?_,?_,?_⟩
  ·rw[alloc_old _ _ _ dX,alloc_old _ _ _ dX,alloc_old _ _ _ hb]
  ·rw[alloc_old _ _ _ dX,alloc_old _ _ _ aj,jW]
  ·rw[alloc_old _ _ _ aj];exact heap_alloc2_new _ _ _
  ·have:=jW ((wl.alloc (.map #[] 0)).alloc (.map #[] 0)) (.cells #[.map (some wl.heap.size),.map (some (wl.heap.size+1))] 164);simpa using this
 ·obtain⟨hN,wl,aW,z1,z2,hs,rfl,h2,h3,h4,h5⟩:=hq;rw[z1] at h2 h3 h4 h5 hN |-;exact⟨hN,rfl,aa,(hs _ aa aa).trans h3,(hs _ aa aa).trans h4,(hs _ aa aa).trans h5⟩
end
end
def slO:Value->Option Addr
 | .slice a _ _=>a
 |_=>none
def slL:Value->Nat
 | .slice _ l _=>l
 |_=>0
def slC:Value->Nat
 | .slice _ _ c=>c
 |_=>0
def OC(rs:List aJ)(f:Nat->Value)(i:Nat):aJ:=⟨((rs[i]?).map (·.out)).getD aP,((rs[i]?).map (·.eU)).getD 0,slO (f i),slL (f i),slC (f i)⟩
def j0(rs:List aJ)(f:Nat->Value):List aJ:=(List.range rs.length).map (OC rs f)
theorem tg(rs:List aJ)(f:Nat->Value):(j0 rs f).length=rs.length:=by simp[j0]
theorem pZ(rs:List aJ)(f:Nat->Value)(i:Nat)(h:i<rs.length)(h':i<(j0 rs f).length):(j0 rs f)[i]=⟨rs[i].out,rs[i].eU,slO (f i),slL (f i),slC (f i)⟩:=by simp[j0,OC,h]
theorem rR(rs:List aJ)(f:Nat->Value):(j0 rs f).map (·.out)=rs.map (·.out):=by
 apply List.ext_getElem
 ·simp[tg]
 ·intro i h1 h2;have hi:i<rs.length:=by simpa using h2
  simp[pZ rs f i hi]
theorem p5{rs:List aJ}{f:Nat->Value}{r:aJ}(h:r∈j0 rs f):∃i,∃hi:i<rs.length,r=⟨rs[i].out,rs[i].eU,slO (f i),slL (f i),slC (f i)⟩:=by
 obtain⟨i,hi,rfl⟩:=bf h;have mn:i<rs.length:=by rw[<- tg rs f];exact hi
 exact⟨i,mn,pZ rs f i mn hi⟩
def EG:List aJ->(aJ->List af)->af->List af
 | [],_,_=>[]
 |r::l,NM,x=>if r.out=x then NM r else EG l NM x
theorem OD{NM:aJ->List af}:∀{rs:List aJ},(rs.map (·.out)).Nodup->∀r∈rs,EG rs NM r.out=NM r
 | [],_,r,h=>by simp at h
 |q::l,hn,r,h=>by
  rw[aA,dc] at hn;unfold EG;rcases List.mem_cons.1 h with rfl|h
  ·rw[if_pos rfl]
  ·rw[if_neg (fun e=>hn.1 (by rw[e];exact List.mem_map.2 ⟨r,h,rfl⟩)),OD hn.2 r h]
structure gC(rs:List aJ)(NM:aJ->List af)(RK:af->Nat)(B:vt):Prop where
 len:B.rs.length=rs.length
 at_:∀i (h:i<rs.length) (h':i<B.rs.length),B.rs[i].out=rs[i].out/\B.rs[i].eU=rs[i].eU/\B.NM B.rs[i]=NM rs[i]
 outs:B.rs.map (·.out)=rs.map (·.out)
 rk:B.RK=RK
section
variable {Fin:bL} {o o':aN} {w w':ae}
theorem AN{lo:Nat}{rs:List aJ}{NM:aJ->List af}{RK:af->Nat}{v:Value}(hF:bN au L0 o' w')(vO:4<=lo)(own:∀b,lo<=b->b<w'.heap.size->o' b)(gY:rs.length<=8)(yes:Du rs NM RK)(low:∀r∈rs,RK r.out<rs.length)(four:∀r∈rs,(NM r).length<=4)(pow:jb w')(N:M5 lo rs NM v w'):
  ∃B:vt,v=.pointer (some ⟨B.bb,0,none⟩)/\fQ o' w' B none (fun _=>none)/\gC rs NM RK B/\(∀b,nI B none (fun _=>none) b->b=1\/(lo<=b/\b<=B.bb))/\lo<=B.bb/\B.bb<w'.heap.size:=by
 obtain⟨bb,Rb,Ru0,c,p',f,h1,h2,h3,h4,h5,h6,h7,h8⟩:=N.ex;have o1:o' 1:=hF.kz 1 (by rw[show au.globals.size=4 by kernel_rfl];omega);obtain⟨Ru,hp,za,h6⟩:∃Ru,((p'=none/\rs=[])\/p'=some ⟨Ru,0,none⟩)/\(Ru=1\/(lo<=Ru/\Ru<Rb))/\∀i (h:i<rs.length),w'.cell? ⟨Ru,i*3,none⟩=some (.string rs[i].out)/\w'.cell? ⟨Ru,i*3+1,none⟩=some (.int .i64 rs[i].eU)/\w'.cell? ⟨Ru,i*3+2,none⟩=some (f i)/\(lo<=Ru/\uT Ru Rb (f i) (NM rs[i]) w'):=by
  rcases h5 with⟨e1,e2⟩|⟨e1,e2,e3⟩
  ·exact⟨1,.inl ⟨e1,e2⟩,.inl rfl,fun i hi=>by rw[e2] at hi;simp at hi⟩
  ·exact⟨Ru0,.inr e1,.inr ⟨e2,e3⟩,fun i hi=>⟨(h6 i hi).1,(h6 i hi).2.1,(h6 i hi).2.2.1,e2,(h6 i hi).2.2.2⟩⟩
 have oRu:o' Ru:=by
  rcases za with rfl|q
  ·exact o1
  ·exact own Ru q.1 aa
 have hlen:=tg rs f;have zA:∀i (hi:i<rs.length),EG rs NM rs[i].out=NM rs[i]:=fun i hi=>OD yes.nodup _ (aH hi);have G7:∀i (hi:i<rs.length),f i=.slice (slO (f i)) (slL (f i)) (slC (f i))/\slL (f i)=(NM rs[i]).length/\((slO (f i)=none/\NM rs[i]=[])\/∃g,slO (f i)=some ⟨g,0,none⟩/\lo<=g/\g<Rb/\fE w' g 0 (NM rs[i])):=fun i hi=>by
  obtain⟨-,-,-,k1,k2⟩:=h6 i hi;rcases k2 with⟨e1,e2⟩|⟨g,cap,e1,e2,e3,e4⟩
  ·rw[e1,e2];exact⟨rfl,rfl,.inl ⟨rfl,rfl⟩⟩
  ·rw[e1];exact⟨rfl,rfl,.inr ⟨g,rfl,aa,e3,e4⟩⟩
 have hR:mD (j0 rs f) (fun r=>EG rs NM r.out) RK:=by
  refine⟨by rw[rR];exact yes.nodup,fun r hr=>?_,fun r hr x hx ho=>?_,fun r hr=>?_,fun r hr=>?_⟩;all_goals obtain⟨i,hi,rfl⟩:=p5 hr
  ·rw[hlen];exact low rs[i] (aH hi)
  ·simp only[zA i hi] at hx;rw[rR] at ho;exact yes.EA _ (aH hi) x hx ho
  ·exact yes.eU rs[i] (aH hi)
  ·simp only[zA i hi];exact four _ (aH hi)
 have Gv:∀r∈j0 rs f,EG rs NM r.out≠[]->lo<=(r.sa.map (·.block)).getD 0/\(r.sa.map (·.block)).getD 0<Rb:=fun r hr dJ=>by
  obtain⟨i,hi,rfl⟩:=p5 hr;simp only[zA i hi] at dJ;obtain⟨-,-,q⟩:=G7 i hi;rcases q with⟨-,q⟩|⟨g,q,q1,q2,-⟩
  ·exact absurd q dJ
  ·simp only[q,aK,br];exact⟨q1,q2⟩
 have hOK:lK o' w' p' Ru c (j0 rs f) (fun r=>EG rs NM r.out) (fun r=>(r.sa.map (·.block)).getD 0):=by
  refine⟨aa,fun dJ=>?_,oRu,fun i hi=>?_,fun r hr=>?_,?_,fun r hr=>?_⟩
  ·rcases hp with⟨-,e⟩|e
   ·exact absurd (by subst e;rfl) dJ
   ·exact e
  ·have mn:i<rs.length:=aa;obtain⟨k0,k1,k2,-⟩:=h6 i mn;rw[pZ rs f i mn hi];refine⟨k0,k1,?_⟩;rw[k2];exact congrArg some (G7 i mn).1
  ·obtain⟨i,hi,rfl⟩:=p5 hr;obtain⟨-,-,q⟩:=G7 i hi;rcases q with⟨q,-⟩|⟨g,q,q1,q2,-⟩
   ·simp only[q];exact iU
   ·simp only[q];exact ee (own g q1 aa)
  ·rcases hp with⟨e,-⟩|e
   ·rw[e];exact iU
   ·rw[e];exact ee oRu
  ·obtain⟨i,hi,rfl⟩:=p5 hr;obtain⟨-,q0,q⟩:=G7 i hi;simp only[zA i hi];refine⟨q0,fun dJ=>?_,?_,four _ (aH hi)⟩
   ·rcases q with⟨-,q⟩|⟨g,q,q1,q2,-⟩
    ·exact absurd q dJ
    ·simp only[q,aK,br];exact⟨trivial,own g q1 aa⟩
   ·rcases q with⟨-,q⟩|⟨g,q,q1,q2,q3⟩
    ·rw[q];exact fun k hk=>by simp at hk
    ·simp only[q,aK,br];exact q3
 obtain⟨cs,r1,r2,r3⟩:=h8;have cL:∀s,s<rs.length->∀j,j<4->w'.cell? ⟨Rb,s*4+j,none⟩=some (tf (s*4+j)):=fun s hs j hj=>World.rowIs.cell (b:=Rb) ⟨cs,r1,r2,r3⟩ (show s*4+j<rs.length*4 by omega);refine⟨⟨bb,p',Ru,c,Rb,j0 rs f,fun r=>EG rs NM r.out,fun r=>(r.sa.map (·.block)).getD 0,RK⟩,h1,⟨fun b hb=>?_,hR,hOK,?_,⟨_,_,_,by simp only[hlen];exact h7,(fun lo F e=>by cases e)⟩,(fun lo F e=>by cases e),fun _ _ _=>rfl,⟨cs,r1,by rw[r2,hlen]⟩,fun s hs r _=>?_,(fun s b vs _ e=>by cases e),pow⟩,⟨hlen,fun i h h'=>?_,rR rs f,rfl⟩,fun b hb=>?_,by simp only;omega,h4⟩
 ·rcases hb with rfl|rfl|rfl|rfl|⟨r,hr,q1,rfl⟩|⟨lo,F,q,-⟩|⟨s,vs,-,q⟩
  ·exact own _ aa h4
  ·exact oRu
  ·exact own _ h2 aa
  ·exact o1
  ·obtain⟨k1,k2⟩:=Gv r hr q1;exact own _ k1 (kH k2 aa)
  ·cases q
  ·cases q
 ·show Ru≠bb/\Rb≠bb/\(∀r∈j0 rs f,EG rs NM r.out≠[]->(r.sa.map (·.block)).getD 0≠bb)/\4<=Rb/\4<=bb/\Ru≠Rb/\(∀r∈j0 rs f,EG rs NM r.out≠[]->(r.sa.map (·.block)).getD 0≠Rb);refine⟨aa,aa,fun r hr q=>?_,aa,aa,aa,fun r hr q=>?_⟩
  ·have:=Gv r hr q;omega
  ·have:=Gv r hr q;omega
 ·simp only[hlen] at hs;have e0:s*4%4=0:=aa;have e1:(s*4+1)%4=1:=aa;have e2:(s*4+2)%4=2:=aa;have e3:(s*4+3)%4=3:=aa;refine⟨?_,?_,?_,?_⟩
  ·have:=cL s hs 0 aa;simpa[tf,e0] using this
  ·have:=cL s hs 1 aa;simpa[tf,e1] using this
  ·have:=cL s hs 2 aa;simpa[tf,e2] using this
  ·have:=cL s hs 3 aa;simpa[tf,e3] using this
 ·simp only[pZ rs f i h h',zA i h];exact⟨trivial,trivial,trivial⟩
 ·rcases hb with rfl|rfl|rfl|rfl|⟨r,hr,q1,rfl⟩|⟨lo,F,q,-⟩|⟨s,vs,-,q⟩
  ·exact .inr ⟨kI (Nat.lt_of_le_of_lt h2 h3),ag _⟩
  ·rcases za with e|q
   ·exact .inl e
   ·exact .inr ⟨q.1,kI (kH q.2 h3)⟩
  ·exact .inr ⟨h2,kI h3⟩
  ·exact .inl rfl
  ·obtain⟨k1,k2⟩:=Gv r hr q1;exact .inr ⟨k1,kI (kH k2 h3)⟩
  ·cases q
  ·cases q
end
def s0(pb:Nat):gV where
 fd:=none
 old:=fun _=>none
 th:=[]
 st:=[]
 qv:=.slice none 0 0
 qn:=[]
 lost:=false
 time:=0
 phase:=0
 since:=0
 sv:=.slice none 0 0
 src:=[]
 rv:=.slice none 0 0
 rd:=[]
 ck:=0
 pb:=pb
 num:=0
 lC:=.slice none 0 0
 res:=[]
 mO:=.slice none 0 0
 jX:=[]
theorem Uj(K:pG)(pb:Nat):Sound K (s0 pb):=⟨by simp[s0],by simp[s0],by simp[s0],fun _=>⟨rfl,rfl,rfl⟩,by simp[s0],by simp[s0],by simp[s0],by simp[s0],by simp[s0],by simp[s0]⟩
section
variable {Fin:bL} {o o':aN} {w w':ae}
theorem M5.keep{lo:Nat}{rs:List aJ}{NM:aJ->List af}{v:Value}{w w':ae}(h:M5 lo rs NM v w)(hz:w.heap.size<=w'.heap.size)(e:∀b,lo<=b->b<w.heap.size->w'.heap[b]?=w.heap[b]?):M5 lo rs NM v w':=by
 obtain⟨bb,Rb,Ru,c,p',f,h1,h2,h3,h4,h5,h6,h7,h8⟩:=h.ex;refine⟨bb,Rb,Ru,c,p',f,h1,h2,h3,aa,h5,fun i hi=>?_,(e bb aa h4).trans h7,h8.of_block (e Rb h2 aa)⟩;obtain⟨k1,k2,k3,k4⟩:=h6 i hi;have za:lo<=Ru/\Ru<Rb:=by
  rcases h5 with⟨-,e⟩|⟨-,q1,q2⟩
  ·rw[e] at hi;simp at hi
  ·exact⟨q1,q2⟩
 have e':=e Ru za.1 aa;exact⟨(yV e').trans k1,(yV e').trans k2,(yV e').trans k3,k4.keep (ag _) fun g g1 g2=>e g aa aa⟩
def Ky(lo bb mT kb pb b:Nat):Nat:=if b=kb then 0 else if b=pb then 6 else if mT<=b/\b<=mT+2 then 2 else if b=1 then 8 else if lo<=b/\b<=bb then 1 else 7
theorem M7{lo mT kb pb:Nat}{B:vt}(hF:bN au L0 o' w')(hB:fQ o' w' B none (fun _=>none))(uV:∀b,nI B none (fun _=>none) b->b=1\/(lo<=b/\b<=B.bb))(vO:4<=lo)(h1:B.bb<mT)(hlb:lo<=B.bb)(h2:mT+2<kb)(h3:kb<pb)(own:∀b,lo<=b->b<w'.heap.size->o' b)(hpb:pb<w'.heap.size)(m1:w'.heap[mT]?=some (.map #[] 0))(m2:w'.heap[mT+1]?=some (.map #[] 0))(m3:w'.heap[mT+2]?=some (.cells #[.map (some mT),.map (some (mT+1))] 164))(hk:w'.heap[kb]?=some (.cells #[.int .i32 0,.int .u32 0,.pointer (some ⟨B.bb,0,none⟩),.pointer (some ⟨mT+2,0,none⟩),.slice none 0 0,.bool false,.int .i64 0,.int .i64 0,.int .i64 0,.slice none 0 0,.slice none 0 0,.int .i64 0,.pointer (some ⟨pb,0,none⟩)] 120))(hp:w'.heap[pb]?=some (.cells #[.int .i64 0,.slice none 0 0,.slice none 0 0] 59)):
  bo o' w' ⟨B,kb,mT+2,mT,mT+1⟩ (s0 pb) 0 (Ky lo B.bb mT kb pb):=by
 refine⟨hF,⟨_,hk,rfl,fun j hj=>?_⟩,own kb aa aa,hB,⟨m3,⟨#[],0,m1,rfl⟩,⟨#[],0,m2,rfl⟩,⟨own (mT+2) aa aa,own mT aa aa,own (mT+1) aa aa⟩,show mT+2≠mT/\mT+2≠mT+1/\mT≠mT+1 by omega⟩,?_,⟨⟨none,0,0,rfl,fun _=>rfl,fun q=>absurd rfl q,fun k hk=>by simp[s0] at hk⟩,iU,by simp[s0]⟩,⟨⟨0,aV _,rfl,.inl ⟨rfl,rfl⟩⟩,iU,by simp[s0]⟩,⟨hp,own pb aa hpb,⟨none,0,0,rfl,fun _=>rfl,fun q=>absurd rfl q,fun i hi=>by simp[s0] at hi⟩,iU,by simp[s0],⟨⟨none,0,0,rfl,fun _=>rfl,fun q=>absurd rfl q,fun k hk=>by simp[s0] at hk⟩,iU,by simp[s0]⟩⟩,?_,fun b hb=>?_,fun b hb=>?_,(fun b hb=>by cases hb),(fun b hb=>by cases hb),(fun b hb=>by cases hb),fun b hb=>?_,by simp[s0]⟩
 ·rcases nz hj with rfl|rfl|rfl|rfl|rfl|rfl|rfl|rfl|rfl|rfl|rfl|rfl|rfl<;>rfl
 ·exact⟨⟨0,aV _,rfl,.inl ⟨rfl,rfl⟩⟩,iU⟩
 ·simp[Ky]
 ·have:=uV b hb;simp only[Ky];rw[if_neg aa,if_neg aa,if_neg aa];unfold MS;by_cases e:b=1
  ·rw[if_pos e,if_pos e]
  ·rw[if_neg e,if_neg e,if_pos (this.resolve_left e)]
 ·have:mT<=b/\b<=mT+2:=by simp only at hb;omega
  simp only[Ky];rw[if_neg aa,if_neg aa,if_pos this]
 ·rcases hb with hb|hb|hb
  ·have:b=pb:=hb;subst this;simp only[Ky];rw[if_neg aa,if_pos trivial]
  ·cases hb
  ·cases hb
theorem YJ{p:Option Addr}{b c:Nat}{rs:List aJ}{NM:aJ->List af}{NB:aJ->Nat}{RK:af->Nat}(hF:bN au L0 o w)(h:Hand o w p b c rs NM NB RK)(pow:jb w):
  bA au (XB au Fin 0) 34 #[.slice p rs.length c] o w fun v o' w'=>∃K pb lab,v=.tuple #[.pointer (some ⟨K.kb,0,none⟩),.int .i64 0]/\bo o' w' K (s0 pb) 0 lab/\bB (fun _=>False) o w o' w'/\gC rs NM RK K.B/\(∀b,b<w.heap.size->7<=lab b/\(b≠1->lab b=7))/\w.heap.size<=K.kb:=by
 have W:=bY (P:=au) (Fin:=Fin) (d:=0);have g4:au.globals.size=4:=ah;refine bD W func34 ar ?_;bP Tryz.f34;refine ax ?_;refine cj func39 (OB hF h) ?_;rintro v1 o1 w1 ⟨rfl,N1⟩;have W1:bB (fun _=>False) o w o1 w1:=bB.eL N1;have hz:=hF.size;have h1:Hand o1 w1 p b c rs NM NB RK:=by
  refine⟨h.gY,fun q=>⟨(h.ptr q).1,W1.more _ (h.ptr q).2⟩,h.nil,fun i hi=>?_,h.cl.up W1.more,h.cap,fun r hr=>⟨(h.nm r hr).1,fun q=>⟨((h.nm r hr).2.1 q).1,W1.more _ ((h.nm r hr).2.1 q).2⟩,fun k hk=>?_,(h.nm r hr).2.2.2⟩,h.nmn,h.yes,h.low⟩
  ·exact hJ h.at_ (N1.old _ (hF.lt (h.ptr (fun q=>by rw[q] at hi;simp at hi)).2)) i hi
  ·exact dh (h.nm r hr).2.2.1 (N1.old _ (hF.lt ((h.nm r hr).2.1 (fun q=>by rw[q] at hk;simp at hk)).2)) k hk
 refine ax ?_;refine cj func41 (Ui N1.aG h1) ?_;rintro v2 o2 w2 ⟨N2,B2⟩;have W2:bB (fun _=>False) o1 w1 o2 w2:=bB.eL N2;obtain⟨bb,uO,Va,KU⟩:∃bb,w1.heap.size<=bb/\bb<w2.heap.size/\v2=.pointer (some ⟨bb,0,none⟩):=by
  obtain⟨bb,Rb,Ru,c,p',f,h1,h2,h3,h4,-⟩:=B2.ex;exact⟨bb,aa,h4,h1⟩
 subst KU;have obb:o2 bb:=by rw[N2.own];exact .inr ⟨uO,Va⟩
 refine ax ?_;refine cj func60 (M6 N2.aG) ?_;rintro v3 o3 w3 ⟨N3,rfl,z3,m1,m2,m3⟩;have W3:bB (fun _=>False) o2 w2 o3 w3:=bB.eL N3;have ofb:o3 (w2.heap.size+2):=by rw[N3.own];exact .inr ⟨aa,aa⟩
 have aiZ:∀b,w1.heap.size<=b->b<w3.heap.size->o3 b:=fun b q1 q2=>by
  by_cases q:b<w2.heap.size
  ·exact W3.more _ (by rw[N2.own];exact .inr ⟨q1,q⟩)
  ·rw[N3.own];exact .inr ⟨aa,q2⟩
 have B3:=B2.keep W3.size fun b q1 q2=>N3.old b q2;have apV:bb<w2.heap.size:=Va;generalize w2.heap.size=mT at *;refine ax ?_;refine dv bS N3.aG rfl ar ar ?_ rfl (R:=fun wl v aW=>v=.pointer (some ⟨wl.heap.size,0,none⟩)/\aW=wl.alloc (Obj.cells #[.int .i32 0,.int .u32 0,.pointer (some ⟨bb,0,none⟩),.pointer (some ⟨mT+2,0,none⟩),.slice none 0 0,.bool false,.int .i64 0,.int .i64 0,.int .i64 0,.slice none 0 0,.slice none 0 0,.int .i64 0,.pointer none] 120)) (fun wl aU=>⟨_,_,by first|(simp[go_sem];done)|(simp[go_sem];rfl),rfl,rfl⟩) fun wl v1 aW w4 aU hR bO=>?_
 ·refine ng ?_;refine fX (vs:=[_,_,_,_,_,_,_,_,_,_,_,_,_]) (fun x hx=>?_);simp at hx;rcases hx with rfl|rfl|rfl|rfl|rfl|rfl|rfl|rfl|rfl|rfl;all_goals first|exact dU|exact iU|exact nf|exact yl|exact bX ofb|exact bX (W3.more _ obb)
 obtain⟨rfl,hR⟩:=hR;obtain⟨z4,k4,yP⟩:=bO.alloc N3.aG aU hR;obtain⟨W4,hK4⟩:=bB.qF bO.aG z4 k4;rw[aU.size];have ai0:∀b,w1.heap.size<=b->b<w4.heap.size->grow o3 w3 w4 b:=fun b q1 q2=>by
  by_cases q:b<w3.heap.size
  ·exact W4.more _ (aiZ b q1 q)
  ·exact .inr ⟨aa,q2⟩
 clear hR bO aU wl aW;generalize grow o3 w3 w4=o4 at *;refine ax ?_;refine dv bS W4.aG rfl ar ar ?_ rfl (R:=fun wl v aW=>v=.pointer (some ⟨wl.heap.size,0,none⟩)/\aW=wl.alloc (Obj.cells #[.int .i64 0,.slice none 0 0,.slice none 0 0] 59)) (fun wl aU=>⟨_,_,by first|(simp[go_sem];done)|(simp[go_sem];rfl),rfl,rfl⟩) fun wl v1 aW w5 aU hR bO=>?_
 ·refine ng ?_;refine fX (vs:=[_,_,_]) (fun x hx=>?_);simp at hx;rcases hx with rfl|rfl;all_goals first|exact dU|exact iU
 obtain⟨rfl,hR⟩:=hR;obtain⟨z5,k5,MQ⟩:=bO.alloc W4.aG aU hR;obtain⟨W5,hP5⟩:=bB.qF bO.aG z5 k5;rw[aU.size];have aeE:∀b,w1.heap.size<=b->b<w5.heap.size->grow o4 w4 w5 b:=fun b q1 q2=>by
  by_cases q:b<w4.heap.size
  ·exact W5.more _ (ai0 b q1 q)
  ·exact .inr ⟨aa,q2⟩
 clear hR bO aU wl aW;generalize grow o4 w4 w5=o5 at *;have kk5:=(k5 w3.heap.size aa).trans yP;have z45:w3.heap.size<w4.heap.size:=aa;refine ax ?_;refine cj func61 (Dc w3.heap.size 12 w4.heap.size _ _ _ (.pointer none) (by simp[World.cell?,kk5]) (by simp[World.frozen?,kk5]) MQ) ?_;rintro v6 o6 w6 ⟨rfl,rfl,rfl⟩;have Uc:=je w5 w3.heap.size 12 (.pointer (some ⟨w4.heap.size,0,none⟩));have kk6:(w5.setCell ⟨w3.heap.size,12,none⟩ (.pointer (some ⟨w4.heap.size,0,none⟩))).heap[w3.heap.size]?=some (.cells #[.int .i32 0,.int .u32 0,.pointer (some ⟨bb,0,none⟩),.pointer (some ⟨mT+2,0,none⟩),.slice none 0 0,.bool false,.int .i64 0,.int .i64 0,.int .i64 0,.slice none 0 0,.slice none 0 0,.int .i64 0,.pointer (some ⟨w4.heap.size,0,none⟩)] 120):=by
  simp[World.setCell,aS,kk5]
 have Es:bN au L0 o6 (w5.setCell ⟨w3.heap.size,12,none⟩ (.pointer (some ⟨w4.heap.size,0,none⟩))):=Go.Conc.bN.setCell W5.aG (bX hP5);generalize w5.setCell ⟨w3.heap.size,12,none⟩ (.pointer (some ⟨w4.heap.size,0,none⟩))=w6 at *;have z6:=Uc.1;have z12:=W1.size;have z21:=W2.size;have z32:=W3.size;have m16:=((Uc.2 mT aa).trans ((k5 mT aa).trans (k4 mT aa))).trans m1;have m26:=((Uc.2 (mT+1) aa).trans ((k5 (mT+1) aa).trans (k4 (mT+1) aa))).trans m2;have m36:=((Uc.2 (mT+2) aa).trans ((k5 (mT+2) aa).trans (k4 (mT+2) aa))).trans m3;have kp6:=(Uc.2 w4.heap.size aa).trans MQ;have hold:∀b,b<w3.heap.size->w6.heap[b]?=w3.heap[b]?:=fun b hb=>(Uc.2 b aa).trans ((k5 b aa).trans (k4 b hb));have B6:=B3.keep (w':=w6) aa fun b q1 q2=>hold b q2;have o1w:∀b,b<w.heap.size->w6.heap[b]?=w.heap[b]?:=fun b hb=>by rw[hold b aa,N3.old b aa,N2.old b aa,N1.old b hb]
 have ai2:jb w6:=fun q hq=>(cell_of (o1w 1 aa)).trans (pow q hq);obtain⟨B,e1,hB,hS,uV,By,pH⟩:=AN Es aa (fun b q1 q2=>aeE b q1 aa) h.gY h.yes h.low (fun r hr=>(h.nm r hr).2.2.2) ai2 B6;have e2:B.bb=bb:=by injection e1 with e1;injection e1 with e1;injection e1 with e1 _ _;exact e1.symm
 rw[<- e2] at kk6;have hk:=M7 (mT:=mT) (kb:=w3.heap.size) (pb:=w4.heap.size) Es hB uV aa aa By aa aa (fun b q1 q2=>aeE b q1 aa) aa m16 m26 m36 kk6 kp6;clear B6 B3 B2 hB uV;refine ax ?_;refine⟨.inr trivial,trivial,_,resultsC_tmp2 (t:=2) (u:=3) ar _,_,w4.heap.size,_,by first|(simp[Act.eval];done)|(simp[Act.eval];rfl),hk,⟨Es,fun b hb=>W5.more _ (W4.more _ (W3.more _ (W2.more _ (W1.more _ hb)))),fun b hb=>?_,aa,fun b hb _=>o1w b hb⟩,hS,fun b hb=>?_,by simp only;omega⟩
 ·by_cases q:b<w.heap.size
  ·refine .inl ?_;have a5:=(W5.new b hb).resolve_right aa;have a4:=(W4.new b a5).resolve_right aa;have a3:=(W3.new b a4).resolve_right aa;have a2:=(W2.new b a3).resolve_right aa;exact(W1.new b a2).resolve_right aa
  ·exact .inr aa
 ·simp only[Ky];rw[if_neg aa,if_neg aa,if_neg aa];by_cases e:b=1
  ·rw[if_pos e];exact⟨aa,fun q=>absurd e q⟩
  ·rw[if_neg e,if_neg aa];exact⟨ag _,fun _=>rfl⟩
def n9:Array Value:=(kX.map Value.string).toArray
theorem OE(hF:bN au L0 o w):
  bA au (XB au Fin 0) 18 #[] o w fun v o' w'=>fY o w v o' w'/\v=.slice (some ⟨w.heap.size,0,none⟩) 6 6/\w'.heap.size=w.heap.size+1/\w'.heap[w.heap.size]?=some (.cells n9 9):=by
 refine bA.mono (eF ah hF (fun y hy=>by simp at hy) (Q:=fun wl v w'=>v=.slice (some ⟨wl.heap.size,0,none⟩) 6 6/\w'.heap.size=wl.heap.size+1/\w'.heap[wl.heap.size]?=some (.cells n9 9)) (fun wl Ba v w1 w2 e1 e2 h=>?_) (fun wl hz aU=>?_)) (fun v o' w' hq=>?_)
 ·rw[e1,e2];exact h
 ·refine(QN wl).mono fun e w' hq=>?_;obtain⟨rfl,rfl⟩:=hq;exact⟨_,rfl,aj,fun b hb=>alloc_old _ _ _ hb,rfl,aj,jW _ _⟩
 ·obtain⟨hN,wl,aW,z1,z2,hs,rfl,h2,h3⟩:=hq;rw[z1] at h2 h3 hN |-;exact⟨hN,rfl,aa,(hs _ aa aa).trans h3⟩
theorem Dz(hF:bN au L0 o w)(c:Int)(n:Nat)(h1:-9223372036854775808<=c)(h2:c<=9223372036854775807)(hn:0<n)(NW:n<=1000):
  bA au (XB au Fin 0) 19 #[.int .i64 c,.int .i64 n] o w fun v o' w'=>v=.int .i64 (eH c n:Nat)/\fY o w v o' w':=by
 refine bA.mono (eF ah hF (fun y hy=>by simp at hy;rcases hy with rfl|rfl<;>exact dU) (Q:=fun wl v w'=>v=.int .i64 (eH c n:Nat)) (fun wl Ba v w1 w2 e1 e2 h=>h) (fun wl hz aU=>?_)) (fun v o' w' hq=>?_)
 ·refine(Km c n wl h1 h2 hn NW).mono fun e w' hq=>?_;obtain⟨rfl,rfl⟩:=hq;exact⟨_,rfl,ag _,fun _ _=>rfl,rfl⟩
 ·obtain⟨hN,wl,aW,-,-,-,h1⟩:=hq;exact⟨h1,hN⟩
theorem YK(hF:bN au L0 o w)(i:Nat)(hi:i<8):
  bA au (XB au Fin 0) 15 #[.int .i64 i] o w fun v o' w'=>v=.string (iW i)/\fY o w v o' w':=by
 refine bA.mono (eF ah hF (fun y hy=>by simp at hy;subst hy;exact dU) (Q:=fun wl v w'=>v=.string (iW i)) (fun wl Ba v w1 w2 e1 e2 h=>h) (fun wl hz aU=>?_)) (fun v o' w' hq=>?_)
 ·refine(Xa i hi wl).mono fun e w' hq=>?_;obtain⟨rfl,h1,h2⟩:=hq;exact⟨_,rfl,h2,fun b hb=>h1.block b hb,rfl⟩
 ·obtain⟨hN,wl,aW,-,-,-,h1⟩:=hq;exact⟨h1,hN⟩
theorem Xe(hF:bN au L0 o w)(c:Int)(h1:-9223372036854775808<=c)(h2:c<=9223372036854775807):
  bA au (XB au Fin 0) 20 #[.int .i64 c] o w fun v o' w'=>v=.string (rG c)/\fY o w v o' w':=by
 refine bA.mono (eF ah hF (fun y hy=>by simp at hy;subst hy;exact dU) (Q:=fun wl v w'=>v=.string (rG c)) (fun wl Ba v w1 w2 e1 e2 h=>h) (fun wl hz aU=>?_)) (fun v o' w' hq=>?_)
 ·refine(QO c wl h1 h2).mono fun e w' hq=>?_;obtain⟨rfl,rfl⟩:=hq;exact⟨_,rfl,ag _,fun _ _=>rfl,rfl⟩
 ·obtain⟨hN,wl,aW,-,-,-,h1⟩:=hq;exact⟨h1,hN⟩
structure pB(o:aN)(w:ae)(fv:Value)(fs:List (af×af)):Prop where
 ex:∃p b c,fv=.slice p fs.length c/\(fs≠[]->p=some ⟨b,0,none⟩/\o b)/\lT w b fs
 cl:Cl au L0 o fv
 cap:∀p l c,fv=.slice p l c->l<=c
theorem lN{w w':ae}{b:Nat}{fs:List (af×af)}(h:lT w b fs)(e:w'.heap[b]?=w.heap[b]?):lT w' b fs:=fun i hi=>⟨(cell_of e).trans (h i hi).1,(cell_of e).trans (h i hi).2⟩
theorem pB.keep{fv:Value}{fs:List (af×af)}(h:pB o w fv fs)(om:∀b,o b->o' b)(e:∀g,fv.ownBlock=some g->w'.heap[g]?=w.heap[g]?):pB o' w' fv fs:=by
 obtain⟨p,b,c,h1,h2,h3⟩:=h.ex;refine⟨⟨p,b,c,h1,fun q=>⟨(h2 q).1,om _ (h2 q).2⟩,fun i hi=>?_⟩,h.cl.up om,h.cap⟩;have q:fs≠[]:=fun q=>by rw[q] at hi;simp at hi
 exact lN h3 (e b (by rw[h1,(h2 q).1];rfl)) i hi
theorem aeF(hF:bN au L0 o w)(S:Nat)(kv rv fv:Value)(ed:Int)(fs:List (af×af))(x:af)(hS:w.heap[S]?=some (.cells #[kv,rv,fv,.int .i64 ed] 39))(oS:o S)(hf:pB o w fv fs)(hn:fs.length<=1000):
  bA au (XB au Fin 0) 35 #[.pointer (some ⟨S,0,none⟩),.string x] o w fun v o' w'=>v=.bool (Hl fs x)/\fY o w v o' w':=by
 obtain⟨p,b,c,h1,h2,h3⟩:=hf.ex;refine bA.mono (eF ah hF (fun y hy=>by simp at hy;rcases hy with rfl|rfl;exact bX oS;exact bU) (Q:=fun wl v w'=>v=.bool (Hl fs x)) (fun wl Ba v w1 w2 e1 e2 h=>h) (fun wl hz aU=>?_)) (fun v o' w' hq=>?_)
 ·refine(Xc S b c kv rv ed p fs x wl (by simp[World.cell?,aU S oS,hS,h1]) hn (fun q=>(h2 q).1) (fun k hk=>lN h3 (aU b (h2 (fun e=>by rw[e] at hk;simp at hk)).2) k hk)).mono fun e w' hq=>?_;obtain⟨rfl,rfl⟩:=hq;exact⟨_,rfl,ag _,fun _ _=>rfl,rfl⟩
 ·obtain⟨hN,wl,aW,-,-,-,h1⟩:=hq;exact⟨h1,hN⟩
theorem Uk(hF:bN au L0 o w)(S:Nat)(kv rv fv:Value)(ed:Int)(fs:List (af×af))(x t:af)(there:Bool)(hS:w.heap[S]?=some (.cells #[kv,rv,fv,.int .i64 ed] 39))(oS:o S)(hf:pB o w fv fs)(hn:fs.length<=1000)(dJ:fv.ownBlock≠some S):
  bA au (XB au Fin 0) 22 #[.pointer (some ⟨S,0,none⟩),.string x,.string t,.bool there] o w fun v o' w'=>v=.tuple #[]/\bB (fun b=>b=S) o w o' w'/\∃Af,w'.heap[S]?=some (.cells #[kv,rv,Af,.int .i64 ed] 39)/\pB o' w' Af (qG fs x t there)/\∀g,Af.ownBlock=some g->w.heap.size<=g:=by
 obtain⟨p,b,c,h1,h2,h3⟩:=hf.ex;refine sR bS ah hF (Oh (fun y hy=>by simp at hy;rcases hy with rfl|rfl|rfl|rfl;exact bX oS;exact bU;exact bU;exact nf))
  (R:=fun wl v aW=>v=.tuple #[]/\∃Af w2h,wl.heap.size<=w2h.size/\(∀b,b<wl.heap.size->w2h[b]?=wl.heap[b]?)/\(∃w2:ae,w2.heap=w2h/\w2.ownsRow wl.heap.size 44 2 Af (qG fs x t there).length (fS (qG fs x t there))/\aW.heap=(w2.setCell ⟨S,2,none⟩ Af).heap))
  (fun wl v w1 τ d h=>h) (fun wl τ d v w' h=>h) (fun wl hz aU=>?_) ?_
 ·refine(Xd S b c p fs x t there wl (by simp[World.cell?,aU S oS,hS,h1]) (by simp[World.frozen?,aU S oS,hS]) (by rw[hz];exact hF.lt oS) hn (fun q=>⟨(h2 q).1,by rw[hz];exact hF.lt (h2 q).2⟩) (fun k hk=>lN h3 (aU b (h2 (fun e=>by rw[e] at hk;simp at hk)).2) k hk)).mono fun e w' hq=>?_;obtain⟨rfl,Af,w2,q1,q2,q3,rfl⟩:=hq;exact⟨_,rfl,rfl,Af,w2.heap,q2,fun b hb=>q1.block b hb,w2,rfl,q3,rfl⟩
 ·rintro wl v aW w' hz aU ⟨rfl,Af,w2h,q1,q2,w2,rfl,q3,q4⟩ B;have hSl:S<wl.heap.size:=by rw[hz];exact hF.lt oS
  have on:=je w2 S 2 Af;have zz:aW.heap.size=w2.heap.size:=by rw[q4];exact on.1
  have eS:w'.heap[S]?=some (.cells #[kv,rv,Af,.int .i64 ed] 39):=by
   rw[B.same S (.inl oS),q4];have e:w2.heap[S]?=some (.cells #[kv,rv,fv,.int .i64 ed] 39):=(q2 S hSl).trans ((aU S oS).trans hS);simp[World.setCell,aS,e]
  have Pv:=zP q3;have hW:bB (fun b=>b=S) o w (grow o w w') w':=by
   refine⟨B.aG,jr,fun b hb=>hb.imp id fun q=>q.1,B.jq,fun b hb hx=>?_⟩;by_cases ho:o b
   ·rw[B.same b (.inl ho),q4,on.2 b hx,q2 b aa,aU b ho]
   ·exact B.rest b hb ho
  have z2:=B.size;have A6:∀p l c,Af=.slice p l c->l<=c:=fun p l c e=>by
   obtain⟨_,hc⟩:=q3;rcases hc with⟨e2,e3⟩|⟨g,cap,cur,e2,k1,k2,k3,-⟩
   ·rw[e2] at e;cases e;exact ag _
   ·rw[e2] at e;cases e;exact k3
  refine⟨rfl,hW,Af,eS,⟨?_,?_,A6⟩,fun g hg=>by rw[<- hz];exact Pv g hg⟩
  ·obtain⟨h0,hc⟩:=q3;rcases hc with⟨rfl,e⟩|⟨g,cap,cur,rfl,k1,k2,k3,k4,k5,k6⟩
   ·have QU:=List.length_eq_zero_iff.1 e;rw[QU];exact⟨none,0,0,rfl,fun q=>absurd rfl q,fun i hi=>by simp at hi⟩
   ·have Tq:g<w2.heap.size:=(Array.getElem?_eq_some_iff.1 k2).1;refine⟨_,g,cap,rfl,fun _=>⟨rfl,.inr ⟨aa,aa⟩⟩,fun i hi=>?_⟩;have eg:w'.heap[g]?=w2.heap[g]?:=by
     rw[B.same g (.inr ⟨aa,aa⟩),q4];exact on.2 g aa
    have own:w2.ownsRow wl.heap.size 44 2 (.slice (some ⟨g,0,none⟩) (qG fs x t there).length cap) (qG fs x t there).length (fS (qG fs x t there)):=⟨h0,.inr ⟨g,cap,cur,rfl,k1,k2,k3,k4,k5,k6⟩⟩;obtain⟨c0,c1⟩:=wG (qG fs x t there) i hi;have lY:∀j u,(fS (qG fs x t there))[j]?=some u->w2.cell? ⟨g,j,none⟩=some u:=fun j u hu=>by
     have:=own.cells (g:=g) rfl j u hu;have ha:(⟨g,0,none⟩:Addr).add j=⟨g,j,none⟩:=by simp[Addr.add];omega
     rw[ha] at this;exact this
    exact⟨(cell_of eg).trans (lY _ _ c0),(cell_of eg).trans (lY _ _ c1)⟩
  ·obtain⟨h0,hc⟩:=q3;rcases hc with⟨rfl,e⟩|⟨g,cap,cur,rfl,k1,k2,k3,k4,k5,k6⟩
   ·exact iU
   ·have Tq:g<w2.heap.size:=(Array.getElem?_eq_some_iff.1 k2).1;exact ee (.inr ⟨aa,aa⟩)
end
section
variable {Fin:bL} {o o' o1 o2:aN} {w w' w1 w2:ae}
structure gi(o:aN)(w:ae)(o':aN)(w':ae):Prop where
 bt:bB (fun _=>False) o w o' w'
 all:∀b,w.heap.size<=b->b<w'.heap.size->o' b
theorem gi.refl(hF:bN au L0 o w):gi o w o w:=⟨bB.refl hF,fun b h1 h2=>aa⟩
theorem gi.trans(h:gi o w o1 w1)(k:gi o1 w1 o2 w2):gi o w o2 w2:=⟨h.bt.trans k.bt,fun b h1 h2=>by
 by_cases q:b<w1.heap.size
 ·exact k.bt.more _ (h.all b h1 q)
 ·exact k.all b aa h2⟩
theorem gi.eL{v:Value}(h:fY o w v o' w'):gi o w o' w':=⟨bB.eL h,fun b h1 h2=>by rw[h.own];exact .inr ⟨h1,h2⟩⟩
theorem gi.tj(hF:bN au L0 (grow o w w') w')(z:w.heap.size<=w'.heap.size)(k:∀b,b<w.heap.size->w'.heap[b]?=w.heap[b]?):gi o w (grow o w w') w' :=
 ⟨⟨hF,jr,fun b hb=>hb.imp id fun q=>q.1,z,fun b hb _=>k b hb⟩,fun b h1 h2=>.inr ⟨h1,h2⟩⟩
theorem gi.wrote{A:Nat}(h:gi o w o1 w1)(hA:w.heap.size<=A)(hF:bN au L0 o1 w2)(on:eK A w1 w2):gi o w o1 w2:=by
 refine⟨⟨hF,h.bt.more,h.bt.new,by rw[on.1];exact h.bt.size,fun b hb hx=>?_⟩,fun b h1 h2=>h.all b h1 (by rw[<- on.1];exact h2)⟩;rw[on.2 b aa];exact h.bt.same b hb hx
theorem gi.row{v:Value}(h:gi o w o1 w1)(hv:∀b,v.ownBlock=some b->w.heap.size<=b)(k:bB (fun b=>v.ownBlock=some b) o1 w1 (grow o1 w1 w2) w2):gi o w (grow o1 w1 w2) w2:=by
 have z1:=h.bt.size;have z2:=k.size;refine⟨⟨k.aG,fun b hb=>k.more b (h.bt.more b hb),fun b hb=>(k.new b hb).elim (fun q=>h.bt.new b q) fun q=>.inr aa,aa,fun b hb hx=>?_⟩,fun b h1 h2=>?_⟩
 ·rw[k.same b aa (fun e=>by have:=hv b e;omega)];exact h.bt.same b hb hx
 ·by_cases q:b<w1.heap.size
  ·exact k.more _ (h.all b h1 q)
  ·exact .inr ⟨aa,h2⟩
structure nF(o:aN)(w:ae)(lo e sz:Nat)(v:Value)(n:Nat)(xs:List Value):Prop where
 row:w.ownsRow lo e sz v n xs
 cl:Cl au L0 o v
 low:lo<=w.heap.size
theorem nF.nil(o:aN)(w:ae)(lo e sz:Nat)(h:lo<=w.heap.size):nF o w lo e sz (.slice none 0 0) 0 []:=⟨⟨aj,.inl ⟨rfl,rfl⟩⟩,iU,h⟩
theorem nF.keep{lo e sz n:Nat}{v:Value}{xs:List Value}(h:nF o w lo e sz v n xs)(om:∀b,o b->o' b)(hz:w.heap.size<=w'.heap.size)(k:∀g,v.ownBlock=some g->w'.heap[g]?=w.heap[g]?):nF o' w' lo e sz v n xs :=
 ⟨dF h.row fun g hg _=>k g hg.symm,h.cl.up om,aX h.low hz⟩
theorem nF.lt{lo e sz n:Nat}{v:Value}{xs:List Value}(h:nF o w lo e sz v n xs):∀g,v.ownBlock=some g->lo<=g/\g<w.heap.size:=fun g hg=>by
 refine⟨zP h.row g hg,?_⟩;obtain⟨_,hc⟩:=h.row;rcases hc with⟨rfl,_⟩|⟨g',cap,cur,rfl,h1,h2,_⟩
 ·cases hg
 ·cases hg;exact(Array.getElem?_eq_some_iff.1 h2).1
theorem nF.jq{lo e sz n:Nat}{v:Value}{xs:List Value}(h:nF o w lo e sz v n xs)(G:gi o w o' w'):nF o' w' lo e sz v n xs:=h.keep G.bt.more G.bt.size fun g hg=>G.bt.same g (h.lt g hg).2 id
theorem nF.add{lo e sz n n':Nat}{v v':Value}{xs xs':List Value}{wl aW:ae}(hF:bN au L0 o w)(h:nF o w lo e sz v n xs)(aU:iF o w wl)(bO:lO au L0 o w w' aW v')(cp:aW.ownsRow lo e sz v' n' xs')(Ej:wl.grownBy aW v.ownBlock)(Yz:v'.ownBlock=v.ownBlock\/v'.ownBlock=some wl.heap.size):
  nF (grow o w w') w' lo e sz v' n' xs'/\bB (fun b=>v.ownBlock=some b) o w (grow o w w') w'/\∀b,v'.ownBlock=some b->v.ownBlock=some b\/w.heap.size<=b:=by
 rw[aU.size] at Yz;have Es:=bO.aG;have fB:Cl au L0 (grow o w w') v':=bO.val;have z6:=bO.jq;have Ka:∀b,v'.ownBlock=some b->grow o w w' b:=gL Es fB;refine⟨⟨dF cp fun b hb _=>bO.same b (Ka b hb.symm),fB,by have:=h.low;omega⟩,⟨Es,jr,fun b hb=>hb.imp id fun q=>q.1,z6,fun b hb Ve=>?_⟩,fun b hb=>?_⟩
 ·by_cases ho:o b
  ·rw[bO.same b (.inl ho),Ej.block b (by rw[aU.size];exact hb) (fun e=>Ve e.symm),aU.heap b ho]
  ·exact bO.rest b hb ho
 ·rcases Yz with e|e
  ·rw[hb] at e;exact .inl e.symm
  ·rw[hb] at e;exact .inr (bH (aR e).symm)
theorem KA(W:ae)(lo:Nat)(v:Value)(xs:List af)(x:af)(A:Nat)(h:W.ownsRow lo 9 1 v xs.length (xs.map .string))(hn:(xs.length+1)*16<=140737488355328)(vO:lo<=W.heap.size)(ha:W.heap[A]?=some (.cells #[.string x] 9)):
  ∃v' W',(Builtin.append_ #[40,40] 40 #[v,.slice (some ⟨A,0,none⟩) 1 1]).run au W=.ok v' W'/\W'.ownsRow lo 9 1 v' (xs++[x]).length ((xs++[x]).map .string)/\W.grownBy W' v.ownBlock/\(v'.ownBlock=v.ownBlock\/v'.ownBlock=some W.heap.size):=by
 obtain⟨i,hi,ov⟩:=Option.map_eq_some_iff.1 qx;simp only[bu] at ov;obtain⟨v',W',e1,e2,e3,_,e4⟩:=run_append_own_at (P:=au) W lo 40 40 9 i _ 1 16 underlying40 hi ov.1 ov.2.1 ov.2.2 rfl aa v xs.length (xs.map .string) h ⟨A,0,none⟩ 1 1 [.string x] rfl (fun j u hj=>by
  cases j with
  |zero=>simp at hj;subst hj;simp[Addr.add,World.cell?,ha]
  |succ j=>simp at hj) (by simp;rfl) (by simp[maxLen];omega) aa vO
 exact⟨v',W',e1,by simpa using e2,e3,e4⟩
theorem Ul(W:ae)(lo:Nat)(v:Value)(rs:List aJ)(r:aJ)(A:Nat)(h:W.ownsRow lo 42 3 v rs.length (eO rs))(hn:rs.length<=1000)(vO:lo<=W.heap.size)(ha:W.heap[A]?=some (.cells #[.string r.out,.int .i64 r.eU,.slice r.sa r.sl r.sc] 42)):
  ∃v' W',(Builtin.append_ #[35,35] 35 #[v,.slice (some ⟨A,0,none⟩) 1 1]).run au W=.ok v' W'/\W'.ownsRow lo 42 3 v' (rs++[r]).length (eO (rs++[r]))/\W.grownBy W' v.ownBlock/\(v'.ownBlock=v.ownBlock\/v'.ownBlock=some W.heap.size):=by
 obtain⟨i,hi,ov⟩:=Option.map_eq_some_iff.1 C0;simp only[bu] at ov;obtain⟨v',W',e1,e2,e3,_,e4⟩:=run_append_own_at (P:=au) W lo 35 35 42 i _ 3 48 underlying35 hi ov.1 ov.2.1 ov.2.2 rfl aa v rs.length (eO rs) h ⟨A,0,none⟩ 1 1 [.string r.out,.int .i64 r.eU,.slice r.sa r.sl r.sc] rfl (fun j u hj=>by
  match j,hj with
  |0,hj=>simp at hj;subst hj;simp[Addr.add,World.cell?,ha]
  |1,hj=>simp at hj;subst hj;simp[Addr.add,World.cell?,ha]
  |2,hj=>simp at hj;subst hj;simp[Addr.add,World.cell?,ha]) (by simp;exact⟨rfl,rfl,rfl⟩) (by simp[maxLen];omega) aa vO
 have e:eO (rs++[r])=eO rs++[.string r.out,.int .i64 r.eU,.slice r.sa r.sl r.sc]:=by simp[eO,aJ.cells]
 exact⟨v',W',e1,by rw[e];simpa using e2,e3,e4⟩
end
end Go.Proofs.Kz
namespace Go.Ren
open Go.Conc Go.ConcN
structure FO(w wl:ae):Prop where
 heap:wl.heap=w.heap
theorem FO.cell{w wl:ae}(h:FO w wl){ad:Addr}:wl.cell? ad=w.cell? ad:=by simp[World.cell?,h.heap]
section
variable {P:Program} {Fin:bL} {d:Nat} {o:aN} {w:ae} {fn:FuncId} {Q:Exit->Act->aN->ae->Prop} {a:Act} {ops:Array Oper} {i:Nat} {rest:List Nat} {op:Oper}
theorem Um{ad:Addr}{wt sy:Bool}(h:yh Fin ad.block):ZH Fin o ⟨.cell ad,wt,sy⟩:=Br (o:=fun b=>o b\/yh Fin b) (.inr h)
theorem qd{B:Nat}(hB:yh Fin B)(ho:ops[i]?=some op)(hw:Region.wanted op (yielded ops a.tmps)=true){v:Value}{dd:Option Tmp}(hd:op.dst=dd)(hr:∀wl,FO w wl->(execOp a.eval op).run P wl=.ok (.value v) wl)(jl:∀wl,FO w wl->∀x∈(execOp a.eval op).events P wl #[],∃ad wt sy,x=⟨.cell ad,wt,sy⟩/\ad.block=B)(h:fa (XB P Fin d) fn ops rest Q (a.put dd v) o w):fa (XB P Fin d) fn ops (i::rest) Q a o w :=
 MG ho hw hd (fun n=>hr _ ⟨rfl⟩) (fun n x hx=>by
  obtain⟨ad,wt,sy,rfl,e⟩:=jl (w.at n) ⟨rfl⟩ x hx;subst e;exact⟨Um hB,aj,aj⟩) h
end
section
variable {P:Program} {L:Nat->Bool} {Fin:bL} {d:Nat} {fn:FuncId} {Q:Exit->Act->aN->ae->Prop} {a:Act} {ops:Array Oper} {S:(Nat->Option Value)->aN->ae->Prop} {kds:List Kd} {v:Nat->Value} {K:Act->Prop} {j:Nat} {l:List Nat} {xs:List Kd} {op:Oper} {dd:Option Tmp}
theorem Xf{B:Nat}(hB:yh Fin B)(ho:ops[j]?=some op)(hd:op.dst=dd)(hn:CN op.op=true)(hw:Region.wanted op (yielded ops a.tmps)=true){y:Value}(cL:∀σ o w,zH ops kds v j σ->S σ o w->(∀wl,FO w wl->(execOp a.eval op).run P wl=.ok (.value y) wl)/\∀wl,FO w wl->∀x∈(execOp a.eval op).events P wl #[],∃ad wt sy,x=⟨.cell ad,wt,sy⟩/\ad.block=B)(h:dL P (Bu P (XB P Fin d) fn ops Q S kds v) ops K v l xs (a.put dd y)):dL P (Bu P (XB P Fin d) fn ops Q S kds v) ops K v (j::l) (some (some y)::xs) a:=by
 refine gn ho hd (fun A rest σ o w h1 h2 h3 h4 hS hc=>?_) rfl h;obtain⟨hr,jl⟩:=cL σ o w h3 hS;have hex:=execOp_congr op (si hn) h1;exact qd hB ho (h2.trans hw) rfl (fun wl aU=>by rw[hex];exact hr wl aU) (fun wl aU x hx=>by rw[hex] at hx;exact jl wl aU x hx) (hc y o w ⟨rfl,hS⟩)
end
end Go.Ren
namespace Go.Proofs.Kz
open Go.Proofs.Tryz
open Go.Proofs.Tryz renaming prog → au
open _root_.ByteArray renaming empty → aP
open Go.Ren Go.Conc Go.Proofs Go.ConcN
structure EH where
 eU:Int
 ins:List Int
 sa:Option Addr
 ib:Nat
 Un:Nat
 sc:Nat
structure uW(Fin:bL)(w:ae)(p:Option Addr)(b off:Nat)(rw:List EH):Prop where
 ptr:rw≠[]->p=some ⟨b,off,none⟩/\yh Fin b/\b<w.heap.size
 at_:∀i (h:i<rw.length),w.cell? ⟨b,off+i*2,none⟩=some (.int .i64 rw[i].eU)/\w.cell? ⟨b,off+i*2+1,none⟩=some (.slice rw[i].sa rw[i].ins.length rw[i].sc)
 ins:∀r∈rw,(r.ins≠[]->r.sa=some ⟨r.ib,r.Un,none⟩/\yh Fin r.ib/\r.ib<w.heap.size)/\∀j (h:j<r.ins.length),w.cell? ⟨r.ib,r.Un+j,none⟩=some (.int .i64 r.ins[j])
 Xg:∀r∈rw,(-9223372036854775808<=r.eU/\r.eU<=9223372036854775807)/\∀x∈r.ins,-9223372036854775808<=x/\x<=9223372036854775807
 ET:rw.length<=9223372036854775807/\∀r∈rw,r.ins.length<=9223372036854775807
def DC(k:Nat)(x:af):Prop:=x∈kX\/∃q,q<k/\x=iW q
section
variable {Fin:bL} {o o' o1 o2:aN} {w w' w1 w2:ae}
structure RB(o:aN)(w:ae)(v:Value)(rs:List aJ)(uX:Nat->List af)(o':aN)(w':ae):Prop where
 jq:gi o w o' w'
 nb:w'.heap[w.heap.size]?=some (.cells n9 9)
 Xh:w.heap.size<w'.heap.size/\v.ownBlock≠some w.heap.size
 row:nF o' w' w.heap.size 42 3 v rs.length (eO rs)
 each:∀j (h:j<rs.length),rs[j].out=iW j/\(1<=rs[j].eU/\rs[j].eU<=5)/\(uX j).length<=4/\(∀x∈uX j,DC j x)/\rs[j].sl=(uX j).length/\((rs[j].sa=none/\uX j=[])\/∃g,rs[j].sa=some ⟨g,0,none⟩/\w.heap.size<=g/\g<w'.heap.size/\v.ownBlock≠some g/\fE w' g 0 (uX j))
theorem RB.keep{v:Value}{rs:List aJ}{uX:Nat->List af}(h:RB o w v rs uX o1 w1)(G:gi o1 w1 o' w'):RB o w v rs uX o' w':=by
 have z:=G.bt.size;refine⟨h.jq.trans G,(G.bt.same _ h.Xh.1 id).trans h.nb,⟨by have:=h.Xh.1;omega,h.Xh.2⟩,h.row.jq G,fun j hj=>?_⟩;obtain⟨e1,e2,e3,e4,e5,e6⟩:=h.each j hj;refine⟨e1,e2,e3,e4,e5,e6.imp id fun⟨g,q1,q2,q3,q4,q5⟩=>⟨g,q1,q2,aa,q4,dh q5 (G.bt.same g q3 id)⟩⟩
structure RI(o1:aN)(w1:ae)(A:Nat)(hd:af)(rc:Int)(u:Value)(ts:List af)(o':aN)(w':ae):Prop where
 jq:gi o1 w1 o' w'
 blk:w'.heap[A]?=some (.cells #[.string hd,.int .i64 rc,u] 42)
 al:w1.heap.size<=A/\A<w'.heap.size/\u.ownBlock≠some A
 row:nF o' w' w1.heap.size 9 1 u ts.length (ts.map .string)
theorem RI.keep{A:Nat}{hd:af}{rc:Int}{u:Value}{ts:List af}(h:RI o1 w1 A hd rc u ts o2 w2)(G:gi o2 w2 o' w'):RI o1 w1 A hd rc u ts o' w' :=
 ⟨h.jq.trans G,(G.bt.same _ h.al.2.1 id).trans h.blk,⟨h.al.1,by have:=G.bt.size;have:=h.al.2.1;omega,h.al.2.2⟩,h.row.jq G⟩
structure ai3(o1:aN)(w1:ae)(A:Nat)(hd:af)(rc:Int)(u u':Value)(ts:List af)(o':aN)(w':ae):Prop where
 jq:gi o1 w1 o' w'
 blk:w'.heap[A]?=some (.cells #[.string hd,.int .i64 rc,u] 42)
 al:w1.heap.size<=A/\A<w'.heap.size/\u'.ownBlock≠some A
 row:nF o' w' w1.heap.size 9 1 u' ts.length (ts.map .string)
def YL(o1:aN)(w1:ae)(o2:aN)(w2:ae)(A:Nat)(hd:af)(rc:Int)(u:Value)(ts:List af)(x:af)(ib ia is:Nat)(σ:Nat->Option Value)(o':aN)(w':ae):Prop :=
 (σ ia=none/\σ is=none/\gi o2 w2 o' w'/\∀y,σ ib=some y->∃Nb,y=.slice (some ⟨Nb,0,none⟩) 1 1/\w2.heap.size<=Nb/\o' Nb/\w'.heap[Nb]?=some (.cells #[.string x] 9)) \/
 (∃u',σ ia=some u'/\σ is=none/\ai3 o1 w1 A hd rc u u' (ts++[x]) o' w') \/
 (∃u',σ ia=some u'/\σ is≠none/\RI o1 w1 A hd rc u' (ts++[x]) o' w')
theorem RB.step{v y:Value}{rs:List aJ}{uX:Nat->List af}{A:Nat}{rc:Int}{up:Option Addr}{uc:Nat}{ts:List af}{o3:aN}{w3 w4:ae}(h0:RB o w v rs uX o1 w1)(h:RB o w v rs uX o3 w3)(hI:RI o1 w1 A (iW rs.length) rc (.slice up ts.length uc) ts o3 w3)(GC:1<=rc/\rc<=5)(Y5:ts.length<=4)(htn:∀x∈ts,DC rs.length x)(q1:nF (grow o3 w3 w4) w4 w.heap.size 42 3 y (rs++[(⟨iW rs.length,rc,up,ts.length,uc⟩:aJ)]).length (eO (rs++[(⟨iW rs.length,rc,up,ts.length,uc⟩:aJ)])))(q2:bB (fun b=>v.ownBlock=some b) o3 w3 (grow o3 w3 w4) w4)(q3:∀b,y.ownBlock=some b->v.ownBlock=some b\/w3.heap.size<=b):
  RB o w y (rs++[(⟨iW rs.length,rc,up,ts.length,uc⟩:aJ)]) (fun i=>if i=rs.length then ts else uX i) (grow o3 w3 w4) w4:=by
 have z4:=q2.size;have z1:=h0.jq.bt.size;have hyn:∀g,g<w3.heap.size->v.ownBlock≠some g->y.ownBlock≠some g:=fun g hg hv e=>(q3 g e).elim hv fun q=>aa;refine⟨h.jq.row (fun b hb=>(h.row.lt b hb).1) q2,(q2.same _ h.Xh.1 h.Xh.2).trans h.nb,⟨by have:=h.Xh.1;omega,hyn _ h.Xh.1 h.Xh.2⟩,q1,fun j hj=>?_⟩;by_cases e:j=rs.length
 ·subst e;simp only[List.getElem_append_right (Nat.le_refl _),Nat.sub_self,List.getElem_cons_zero,if_true];refine⟨trivial,GC,Y5,htn,trivial,?_⟩;obtain⟨Pf,hc⟩:=hI.row.row;rcases hc with⟨e1,e2⟩|⟨g,cap,cur,e1,k1,k2,k3,k4,k5,k6⟩
  ·injection e1 with e1;exact .inl ⟨e1,List.length_eq_zero_iff.1 e2⟩
  ·have hg:g<w3.heap.size:=(Array.getElem?_eq_some_iff.1 k2).1;have hv:v.ownBlock≠some g:=fun e=>by have:=(h0.row.lt g e).2;omega
   have lY:=hI.row.row.cells (g:=g) (by rw[e1];rfl);injection e1 with e1;refine .inr ⟨g,e1,aa,aa,hyn g hg hv,fun i hi=>?_⟩;refine(cell_of (q2.same g hg hv)).trans ?_;have:=lY i (.string ts[i]) (by simp[hi]);have ha:(⟨g,0,none⟩:Addr).add i=⟨g,i,none⟩:=by simp[Addr.add];omega
   rw[ha] at this;rw[bC];exact this
 ·have sk:j<rs.length:=by simp at hj;omega
  simp only[List.getElem_append_left sk,if_neg e];obtain⟨e1,e2,e3,e4,e5,e6⟩:=h.each j sk;exact⟨e1,e2,e3,e4,e5,e6.imp id fun⟨g,k1,k2,k3,k4,k5⟩=>⟨g,k1,k2,aa,hyn g k3 k4,dh k5 (q2.same g k3 k4)⟩⟩
theorem Uo(hF:bN au L0 o w)(p:Option Addr)(b off c:Nat)(rw:List EH)(hR:uW Fin w p b off rw):
  bA au (XB au Fin 0) 33 #[.slice p rw.length c] o w fun v o' w'=>∃rs uX,RB o w v rs uX o' w'/\rs.length<=8:=by
 have W:=bY (P:=au) (Fin:=Fin) (d:=0);have A7:=hR.ET.1;refine bD W func33 ar ?_;bP Tryz.f33;refine ax ?_;refine cj func18 (OE hF) ?_;rintro v1 o1 w1 ⟨N1,rfl,z1,k1⟩;have HL:RB o w (.slice none 0 0) [] (fun _=>[]) o1 w1:=⟨gi.eL N1,k1,⟨aa,(fun e=>by cases e)⟩,nF.nil _ _ _ _ _ aa,fun j hj=>by simp at hj⟩;clear z1 k1 N1;refine ax ?_;refine iQ W (fun m a o' w'=>∃k,m+k=min rw.length 8/\a.tmps.size=84/\a.defers=[]/\a.eval (.tmp 0)=.slice p rw.length c/\a.eval (.tmp 3)=.slice (some ⟨w.heap.size,0,none⟩) 6 6/\a.eval (.tmp 5)=.int .i64 k/\∃v rs uX,a.eval (.tmp 4)=v/\rs.length=k/\RB o w v rs uX o' w') (N:=min rw.length 8) ⟨0,aj,rfl,rfl,aI,aI,aI,_,_,_,aI,rfl,HL⟩ ?_;clear HL o1 w1;rintro m a o1 w1 ⟨k,Jq,fJ,kZ,i0,i3,i5,v,rs,uX,i4,hlen,HL⟩;obtain⟨gs,rfl⟩:=iJ fJ kZ;clear fJ kZ;simp only[List.range,List.range.loop,aA,aQ] at i0 i3 i4 i5 |-;simp[Act.eval] at i0 i3 i4 i5;simp only[i0,i3,i4,i5];clear i0 i3 i4 i5;have lD:=HL.jq.bt.aG;have z1:=HL.jq.bt.size;by_cases hk:k<min rw.length 8;rotate_left
 ·by_cases LV:k<rw.length
  ·have aeG:(k:Int)<(rw.length:Int):=aa;have hk8:¬(k:Int)<8:=aa;refine ax ?_;exact⟨.inr trivial,trivial,_,resultsC_tmp (t:=2) ar _,rs,uX,by simpa[Act.eval] using HL,aa⟩
  ·have aeG:¬(k:Int)<(rw.length:Int):=aa;refine ax ?_;exact⟨.inr trivial,trivial,_,resultsC_tmp (t:=2) ar _,rs,uX,by simpa[Act.eval] using HL,aa⟩
 have LV:k<rw.length:=aa;have hk8:k<8:=aa;have aeG:(k:Int)<(rw.length:Int):=aa;have apZ:(k:Int)<8:=aa;obtain⟨ep,ob,Va⟩:=hR.ptr (fun e=>by rw[e] at LV;simp at LV);subst ep;have Up:=HL.jq.bt.same b Va id;obtain⟨c0,c1⟩:=hR.at_ k LV;have YM:=(cell_of Up).trans c0;have AW:=(cell_of Up).trans c1;obtain⟨⟨Xi,Xj⟩,Xk⟩:=hR.Xg rw[k] (aH LV);obtain⟨in1,in2⟩:=hR.ins rw[k] (aH LV);have ap2:=hR.ET.2 rw[k] (aH LV);clear c0 c1;generalize rw[k]=r at *;have hpk:=pg r.eU (n:=5) aa;have ve:IntKind.i64.wrap (1+(eH r.eU 5:Int))=1+(eH r.eU 5:Int):=by rw[IntKind.wrap_i64]<;>omega
 refine ax ?_;refine dS mixed ah [some none,some (some (.string (iW k))),some none,some none,some none,some none,some (some (.int .i64 r.eU)),some (some (.int .i64 (eH r.eU 5:Nat))),some none,some none,none,none]
  (S:=fun σ o' w'=>gi o1 w1 o' w'/\∀y,σ 10=some y->∃A,y=.pointer (some ⟨A,0,none⟩)/\w1.heap.size<=A/\A<w'.heap.size/\w'.heap[A]?=some (.cells (if (σ 11).isSome then #[.string (iW k),.int .i64 (1+(eH r.eU 5:Int)),.slice none 0 0] else #[.string aP,.int .i64 0,.slice none 0 0]) 42)) ⟨gi.refl lD,(fun y hy=>by cases hy)⟩ fun v9=>?_
 refine dR ?_;refine cE ?_;refine jU rfl rfl ar rfl func15 ah rfl (av:=#[.int .i64 k]) aI (fun σ o' w' H hS=>?_) ?_
 ·refine(YK hS.1.bt.aG k hk8).mono ?_;rintro y o3 w3 ⟨rfl,N3⟩;refine⟨rfl,hS.1.trans (gi.eL N3),fun y hy=>?_⟩;obtain⟨A,q1,q2,q3,q4⟩:=hS.2 y hy;exact⟨A,q1,q2,bz q3 N3.size,(N3.old A q3).trans q4⟩
 refine cE ?_;refine Xf ob rfl rfl rfl ar (fun σ o' w' H hS=>?_) ?_
 ·have cc:=(cell_of (hS.1.bt.same b aa id)).trans YM;refine⟨fun wl aU=>by simp[go_sem,aU.cell.trans cc],fun wl aU x hx=>?_⟩;simp[go_sem,aU.cell.trans cc] at hx;subst hx;exact⟨_,_,_,rfl,rfl⟩
 refine cE ?_;refine jU rfl rfl ar rfl func19 ah rfl (av:=#[.int .i64 r.eU,.int .i64 5]) aI (fun σ o' w' H hS=>?_) ?_
 ·refine(Dz hS.1.bt.aG r.eU 5 Xi Xj aa aa).mono ?_;rintro y o3 w3 ⟨rfl,N3⟩;refine⟨rfl,hS.1.trans (gi.eL N3),fun y hy=>?_⟩;obtain⟨A,q1,q2,q3,q4⟩:=hS.2 y hy;exact⟨A,q1,q2,bz q3 N3.size,(N3.old A q3).trans q4⟩
 refine cE ?_;refine qu bS rfl rfl rfl ar ar (fun σ o' w' H nH hS=>?_) ?_
 ·refine⟨hS.1.bt.aG,ni,fun wl v aW=>v=.pointer (some ⟨wl.heap.size,0,none⟩)/\aW=wl.alloc (.cells #[.string aP,.int .i64 0,.slice none 0 0] 42),fun wl aU=>⟨_,_,by first|(simp[go_sem];done)|(simp[go_sem];rfl),rfl,rfl⟩,fun wl y aW w3 aU nK bO=>?_⟩;obtain⟨rfl,nK⟩:=nK;obtain⟨z3,k3,sJ⟩:=bO.alloc hS.1.bt.aG aU nK;refine⟨hS.1.trans (gi.tj bO.aG aa k3),fun y hy=>?_⟩;simp only[fR,if_true,ay] at hy;have RP:=H.xz 11 ah;refine⟨w'.heap.size,by rw[<- hy,aU.size],hS.1.bt.size,aa,?_⟩;simp[fR,RP,sJ]
 aE;refine pS bS rfl rfl rfl ar ar (fun σ o' w' H h11 hS=>?_) ?_
 ·obtain⟨A,q1,q2,q3,q4⟩:=hS.2 _ (H.done 10 ah rfl);have oA:=hS.1.all A q2 q3;simp only[h11,Option.isSome_none,aM,if_false] at q4;refine⟨hS.1.bt.aG,fun x hx=>?_,fun wl aW=>aW=((wl.setCell ⟨A,0,none⟩ (.string (iW k))).setCell ⟨A,1,none⟩ (.int .i64 (1+(eH r.eU 5:Int)))).setCell ⟨A,2,none⟩ (.slice none 0 0),fun wl aU=>⟨_,?_,rfl⟩,fun wl aW w3 aU nK bO=>?_⟩
  ·simp[Op.operands] at hx;rcases hx with rfl|rfl
   ·simp[Act.eval];rw[q1];exact bX oA
   ·simp[Act.eval];refine fX (vs:=[_,_,_]) (fun x hx=>?_);simp at hx;rcases hx with rfl|rfl|rfl
    ·exact bU
    ·exact dU
    ·exact iU
  ·obtain⟨e0,e1,e2,f0,f1,f2⟩:=eQ ((aU.heap _ oA).trans q4);simp[go_sem,Act.eval,q1,e0,e1,e2,f0,f1,f2,ve]
  ·have hO:eK A wl aW:=by rw[nK];exact uM _ _ _ _ _ _ _ _
   obtain⟨on,ow,e9⟩:=bO.only aU oA hO;have mB:=bO.aG;rw[e9] at mB |-;rw[nK,JX ((aU.heap _ oA).trans q4)] at ow;refine⟨hS.1.wrote q2 mB on,fun y hy=>?_⟩;have hy':y=v9 10:=by
    simp[fR] at hy;exact(aR ((H.done 10 ah rfl).symm.trans hy)).symm
   exact⟨A,hy'.trans q1,q2,by rw[on.1];exact q3,by simp[fR,ow]⟩
 aE;refine cD fun σ o2 w2 mC hS=>?_;obtain⟨G2,Tf⟩:=hS;obtain⟨A,q1,q2,q3,q4⟩:=Tf _ (mC 10 eA rfl);simp only[mC 11 eA rfl,Option.isSome_some,if_true] at q4;have vA:RI o1 w1 A (iW k) (1+(eH r.eU 5:Int)) (.slice none 0 0) [] o2 w2:=⟨G2,q4,⟨q2,q3,(fun e=>by cases e)⟩,nF.nil _ _ _ _ _ (by have:=G2.bt.size;omega)⟩;simp only[q1];clear mC Tf q1 q2 q3 q4 G2;have GC:1<=1+(eH r.eU 5:Int)/\1+(eH r.eU 5:Int)<=5:=aa;clear ve;generalize (1+(eH r.eU 5:Int))=rc at *;simp only[iM,dK,if_true,if_false,reduceIte,Nat.reduceEqDiff];refine ax ?_;refine iQ W (fun m a o' w'=>∃j,m+j=min r.ins.length 4/\a.tmps.size=84/\a.defers=[]/\a.eval (.tmp 0)=.slice (some ⟨b,off,none⟩) rw.length c/\a.eval (.tmp 3)=.slice (some ⟨w.heap.size,0,none⟩) 6 6/\a.eval (.tmp 4)=v/\a.eval (.tmp 5)=.int .i64 k/\a.eval (.tmp 6)=.pointer (some ⟨A,0,none⟩)/\a.eval (.tmp 7)=.int .i64 j/\∃u ts,ts.length=j/\(∀x∈ts,DC k x)/\RI o1 w1 A (iW k) rc u ts o' w') (N:=min r.ins.length 4) ⟨0,aj,rfl,rfl,aI,aI,aI,aI,aI,aI,_,_,rfl,aj,vA⟩ ?_;clear vA o2 w2;rintro m2 a o2 w2 ⟨j,hmj,fJ,kZ,i0,i3,i4,i5,i6,i7,u,ts,htl,htn,vA⟩;subst htl;obtain⟨gs2,rfl⟩:=iJ fJ kZ;clear fJ kZ;simp only[List.range,List.range.loop,aA,aQ] at i0 i3 i4 i5 i6 i7 |-;simp[Act.eval] at i0 i3 i4 i5 i6 i7;simp only[i0,i3,i4,i5,i6,i7];clear i0 i3 i4 i5 i6 i7;have rV:=vA.jq.bt.aG;have eb2:=vA.jq.bt.same b aa id;have Uq:=(cell_of eb2).trans AW;have oA:=vA.jq.all A vA.al.1 vA.al.2.1;have Xl:=HL.keep vA.jq;refine ax ?_;refine qd ob rfl ar rfl (v:=.slice r.sa r.ins.length r.sc) (fun wl aU=>by simp[go_sem,aU.cell.trans Uq]) (fun wl aU x hx=>?_) ?_
 ·simp[go_sem,aU.cell.trans Uq] at hx;subst hx;exact⟨_,_,_,rfl,rfl⟩
 aE;by_cases hj:ts.length<min r.ins.length 4;rotate_left
 ·obtain⟨up,ul,uc,Vl⟩:=mL vA.row.row;have hul:=Hm vA.row.row Vl;subst hul;subst Vl;have HH:IntKind.i64.wrap ((k:Int)+1)=((k+1:Nat):Int):=by rw[IntKind.wrap_i64]<;>omega
  obtain⟨d0,d1,d2,-⟩:=eQ vA.blk;by_cases UR:ts.length<r.ins.length;have aeH:(ts.length:Int)<(r.ins.length:Int):=aa;have hj4:¬(ts.length:Int)<4:=aa;refine ax ?_;rotate_left;have aeH:¬(ts.length:Int)<(r.ins.length:Int):=aa;refine ax ?_;all_goals
   refine dD bS rV rfl ar ar ?_ rfl (v:=.agg #[.string (iW k),.int .i64 rc,.slice up ts.length uc]) (fun wl aU=>by simp[go_sem,(aU.cell oA).trans d0,(aU.cell oA).trans d1,(aU.cell oA).trans d2]) fun _=>?_
   ·exact ng (bX oA)
   refine ax ?_;refine dv bS rV rfl ar ar ?_ rfl (R:=fun wl v aW=>v=.slice (some ⟨wl.heap.size,0,none⟩) 1 1/\aW=wl.alloc (.cells #[.string (iW k),.int .i64 rc,.slice up ts.length uc] 42)) (fun wl aU=>⟨_,_,by simp[go_sem,Act.eval],rfl,rfl⟩) fun wl y aW w3 aU nK bO=>?_
   ·refine ng ?_;refine fX (vs:=[_,_,_]) (fun x hx=>?_);simp at hx;rcases hx with rfl|rfl|rfl
    ·exact bU
    ·exact dU
    ·exact vA.row.cl
   obtain⟨rfl,nK⟩:=nK;obtain⟨z3,k3,sJ⟩:=bO.alloc rV aU nK;rw[aU.size];have G3:=gi.tj bO.aG aa k3;have hN3:grow o2 w2 w3 w2.heap.size:=G3.all _ (ag _) aa;clear nK bO aU wl aW z3;generalize grow o2 w2 w3=o3 at *;have QV:=Xl.keep G3;have ai6:=vA.keep G3;refine ax ?_;subst hlen;refine dv bS G3.bt.aG rfl ar ar ?_ rfl (R:=fun wl y aW=>aW.ownsRow w.heap.size 42 3 y (rs++[(⟨iW rs.length,rc,up,ts.length,uc⟩:aJ)]).length (eO (rs++[(⟨iW rs.length,rc,up,ts.length,uc⟩:aJ)]))/\wl.grownBy aW v.ownBlock/\(y.ownBlock=v.ownBlock\/y.ownBlock=some wl.heap.size)) (fun wl aU=>?_) fun wl y aW w4 aU BB bO=>?_
   ·intro y hy;simp[Op.operands,Call.operands] at hy;rcases hy with rfl|rfl
    ·simp[Act.eval];exact QV.row.cl
    ·simp[Act.eval];exact ee hN3
   ·obtain⟨v',W',e1,e2,e3,e4⟩:=Ul wl w.heap.size v rs ⟨iW rs.length,rc,up,ts.length,uc⟩ w2.heap.size (dF QV.row.row fun g hg _=>aU.heap g (gL G3.bt.aG QV.row.cl g hg.symm)) aa (by rw[aU.size];exact QV.row.low) ((aU.heap _ hN3).trans sJ);exact⟨v',W',jF (.tmp 79) (.tmp 81) 35 rfl aI aI e1,e2,e3,e4⟩
   obtain⟨r1,r2,r3⟩:=BB;obtain⟨q1,q2,q3⟩:=nF.add G3.bt.aG QV.row aU bO r1 r2 r3;have ai7:=RB.step HL QV ai6 GC aa htn q1 q2 q3;clear r1 r2 r3 q1 q2 q3 bO aU wl aW;refine ax ?_;exact⟨m-1,aa,rs.length+1,aa,dp,dp,aI,aI,by simp[Act.eval,HH],y,_,_,aI,aj,ai7⟩
 have UR:ts.length<r.ins.length:=aa;have hj4:ts.length<4:=aa;have aeH:(ts.length:Int)<(r.ins.length:Int):=aa;have ap5:(ts.length:Int)<4:=aa;obtain⟨es,oi,Ye⟩:=in1 (fun e=>by rw[e] at UR;simp at UR);rw[es];rw[es] at Uq;have ei2:=(vA.jq.bt.same r.ib aa id).trans (HL.jq.bt.same r.ib Ye id);have ci:=(cell_of ei2).trans (in2 ts.length UR);obtain⟨xr1,xr2⟩:=Xk r.ins[ts.length] (aH UR);generalize r.ins[ts.length]=x at *;refine ax ?_;refine qd ob rfl ar rfl (v:=.slice (some ⟨r.ib,r.Un,none⟩) r.ins.length r.sc) (fun wl aU=>by simp[go_sem,aU.cell.trans Uq]) (fun wl aU x hx=>?_) ?_
 ·simp[go_sem,aU.cell.trans Uq] at hx;subst hx;exact⟨_,_,_,rfl,rfl⟩
 refine ax ?_;refine qd oi rfl ar rfl (v:=.int .i64 x) (fun wl aU=>by simp[go_sem,aU.cell.trans ci]) (fun wl aU x hx=>?_) ?_
 ·simp[go_sem,aU.cell.trans ci] at hx;subst hx;exact⟨_,_,_,rfl,rfl⟩
 aE;obtain⟨up,ul,uc,Vl⟩:=mL vA.row.row;have hul:=Hm vA.row.row Vl;subst hul;have c2:=(eQ vA.blk).2.2.1;have hwj:IntKind.i64.wrap ((ts.length:Int)+1)=((ts.length+1:Nat):Int):=by rw[IntKind.wrap_i64]<;>omega
 by_cases Ur:x<0/\0<k;rotate_left
 ·by_cases HE:x<0;have ap7:¬0<k:=aa;clear Ur;refine ax ?_;rotate_left;have ap8:¬x<0:=HE;clear Ur;refine ax ?_;all_goals
   have hp:=pg x (n:=6) aa;have aaL:DC k (kX[eH x 6]'hp):=.inl (aH _);have vU:w2.cell? ⟨w.heap.size,eH x 6,none⟩=some (.string (kX[eH x 6]'hp)):=by
    have e:=Xl.nb;have hc6:n9[eH x 6]?=some (.string (kX[eH x 6]'hp)):=by
     rw[n9,kY,eG,bp hp];rfl
    simp[World.cell?,e,hc6]
   have hpI:((eH x 6:Nat):Int)<6:=aa;have aeI:w.heap.size<w2.heap.size:=Xl.Xh.1;have onb:o2 w.heap.size:=Xl.jq.all _ (ag _) aeI;generalize kX[eH x 6]'hp=nm at *;rw[Vl] at c2;refine dS mixed ah [some none,some (some (.slice up ts.length uc)),some none,some none,some none,some none,some (some (.int .i64 (eH x 6:Nat))),some none,some (some (.string nm)),none,none,some none,none]
    (S:=YL o1 w1 o2 w2 A (iW k) rc u ts nm 9 10 12) (.inl ⟨rfl,rfl,gi.refl rV,(fun y hy=>by cases hy)⟩) fun v9=>?_
   refine dR ?_;refine cE ?_;refine cq bS rfl rfl rfl ar ar (fun σ o' w' H hS=>?_) ?_
   ·rcases hS with⟨-,-,G,-⟩|⟨u',q,-⟩|⟨u',q,-⟩
    ·have hx:=G.bt.more _ oA;exact tM G.bt.aG hx ((cell_of (G.bt.same A vA.al.2.1 id)).trans c2)
    ·rw[H.xz 10 ah] at q;cases q
    ·rw[H.xz 10 ah] at q;cases q
   refine cE ?_;refine jU rfl rfl ar rfl func19 ah rfl (av:=#[.int .i64 x,.int .i64 6]) aI (fun σ o' w' H hS=>?_) ?_
   ·rcases hS with⟨h7,h9,G,-⟩|⟨u',q,-⟩|⟨u',q,-⟩
    ·refine(Dz G.bt.aG x 6 xr1 xr2 aa aa).mono ?_;rintro y o3 w3 ⟨rfl,N3⟩;exact⟨rfl,.inl ⟨h7,h9,G.trans (gi.eL N3),fun y hy=>by rw[H.qQ [8,7] 9 ah] at hy;cases hy⟩⟩
    ·rw[H.xz 10 ah] at q;cases q
    ·rw[H.xz 10 ah] at q;cases q
   refine cE ?_;refine cq bS rfl rfl rfl ar ar (fun σ o' w' H hS=>?_) ?_
   ·rcases hS with⟨-,-,G,-⟩|⟨u',q,-⟩|⟨u',q,-⟩
    ·have hx:=G.bt.more _ onb;exact tM G.bt.aG hx ((cell_of (G.bt.same _ aeI id)).trans vU)
    ·rw[H.qQ [9] 10 ah] at q;cases q
    ·rw[H.qQ [9] 10 ah] at q;cases q
   aE;refine qu bS rfl rfl rfl ar ar (fun σ o' w' H hib hS=>?_) ?_
   ·rcases hS with⟨h7,h9,G,-⟩|⟨u',q,-⟩|⟨u',q,-⟩
    ·refine⟨G.bt.aG,fun y hy=>?_,fun wl v aW=>v=.slice (some ⟨wl.heap.size,0,none⟩) 1 1/\aW=wl.alloc (.cells #[.string nm] 9),fun wl aU=>⟨_,_,by simp[go_sem,Act.eval],rfl,rfl⟩,fun wl y aW w3 aU nK bO=>?_⟩
     ·simp[Op.operands] at hy;subst hy;simp[Act.eval];exact bU
     ·obtain⟨rfl,nK⟩:=nK;obtain⟨z3,k3,sJ⟩:=bO.alloc G.bt.aG aU nK;refine .inl ⟨by simpa[fR] using h7,by simpa[fR] using h9,G.trans (gi.tj bO.aG aa k3),fun y hy=>?_⟩;simp only[fR,if_true,ay] at hy;exact⟨w'.heap.size,by rw[<- hy,aU.size],G.bt.size,.inr ⟨ag _,aa⟩,sJ⟩
    ·rw[H.xz 10 ah] at q;cases q
    ·rw[H.xz 10 ah] at q;cases q
   aE;refine qu bS rfl rfl rfl ar ar (fun σ o' w' H hia hS=>?_) ?_
   ·rcases hS with⟨-,h9,G,hN⟩|⟨u',q,-⟩|⟨u',q,-⟩
    ·obtain⟨Nb,hy,hNz,YF,WG⟩:=hN _ (H.done 9 ah rfl);have hq:=vA.row.jq G;have hqo:=gL G.bt.aG hq.cl;refine⟨G.bt.aG,fun y Oi=>?_,fun wl v aW=>aW.ownsRow w1.heap.size 9 1 v (ts++[nm]).length ((ts++[nm]).map .string)/\wl.grownBy aW u.ownBlock/\(v.ownBlock=u.ownBlock\/v.ownBlock=some wl.heap.size),fun wl aU=>?_,fun wl y aW w3 aU nK bO=>?_⟩
     ·simp[Op.operands,Call.operands] at Oi;rcases Oi with rfl|rfl
      ·simp[Act.eval];rw[<- Vl];exact hq.cl
      ·simp[Act.eval];rw[hy];exact ee YF
     ·obtain⟨v',W',e1,e2,e3,e4⟩:=KA wl w1.heap.size u ts (nm) Nb (dF hq.row fun g hg _=>aU.heap g (hqo g hg.symm)) aa (by rw[aU.size];exact hq.low) ((aU.heap _ YF).trans WG);refine⟨v',W',jF (v:=u) (.tmp 68) (.tmp 76) 40 rfl ?_ (by simp[Act.eval];exact hy) e1,e2,e3,e4⟩;simp[Act.eval];exact Vl.symm
     ·obtain⟨r1,r2,r3⟩:=nK;obtain⟨q1,q2,q3⟩:=nF.add G.bt.aG hq aU bO r1 r2 r3;have zg:=G.bt.size;have z3:=q2.size;have Pk:=vA.al.2.1;refine .inr (.inl ⟨y,by simp[fR],by simpa[fR] using h9,(vA.jq.trans G).row (fun b hb=>(hq.lt b hb).1) q2,(q2.same A aa vA.al.2.2).trans ((G.bt.same A Pk id).trans vA.blk),⟨vA.al.1,aa,fun e=>?_⟩,q1⟩);rcases q3 A e with q|q
      ·exact vA.al.2.2 q
      ·omega
    ·rw[hia] at q;cases q
    ·rw[hia] at q;cases q
   refine cE ?_;refine pS bS rfl rfl rfl ar ar (fun σ o' w' H his hS=>?_) ?_
   ·rcases hS with⟨q,-⟩|⟨u',q,-,P⟩|⟨u',-,q,-⟩
    ·rw[H.done 10 ah rfl] at q;cases q
    ·have hv:v9 10=u':=aR ((H.done 10 ah rfl).symm.trans q);have Xm:=P.jq.all A P.al.1 P.al.2.1;obtain⟨p',l',c',hu'⟩:=mL P.row.row;refine⟨P.jq.bt.aG,fun y hy=>?_,fun wl aW=>aW=wl.setCell ⟨A,2,none⟩ u',fun wl aU=>⟨_,?_,rfl⟩,fun wl aW w3 aU nK bO=>?_⟩
     ·simp[Op.operands] at hy;rcases hy with rfl|rfl
      ·simp[Act.eval];exact bX Xm
      ·simp[Act.eval];rw[hv];exact P.row.cl
     ·obtain⟨e0,e1,e2,f0,f1,f2⟩:=eQ ((aU.heap _ Xm).trans P.blk);simp[go_sem,Act.eval,hv,hu',e2,f2]
     ·have hO:eK A wl aW:=by rw[nK];exact je _ _ _ _
      obtain⟨on,ow,e9⟩:=bO.only aU Xm hO;have mB:=bO.aG;rw[e9] at mB |-;have kA:w3.heap[A]?=some (.cells #[.string (iW k),.int .i64 rc,u'] 42):=by
       rw[ow,nK];have e:=(aU.heap _ Xm).trans P.blk;simp[World.setCell,aS,e]
      exact .inr (.inr ⟨u',by simpa[fR] using q,by simp[fR],P.jq.wrote P.al.1 mB on,kA,⟨P.al.1,by rw[on.1];exact P.al.2.1,P.al.2.2⟩,P.row.keep (fun _ q=>q) (bH on.1.symm) fun g hg=>on.2 g fun e=>P.al.2.2 (e▸hg)⟩)
    ·exact absurd his q
   aE;refine cD fun σ o3 w3 mC hS=>?_;rcases hS with⟨q,-⟩|⟨u',-,q,-⟩|⟨u',-,-,P⟩
   ·rw[mC 10 eA rfl] at q;cases q
   ·rw[mC 12 eA rfl] at q;cases q
   clear mC;simp only[iM,dK,if_true,if_false,reduceIte,Nat.reduceEqDiff];refine ax ?_;exact⟨m2-1,aa,ts.length+1,aa,dp,dp,aI,aI,aI,aI,aI,by simp[Act.eval,hwj],u',ts++[nm],aj,(fun z hz=>by
    rcases List.mem_append.1 hz with hz|hz
    ·exact htn z hz
    ·simp at hz;subst hz;exact aaL),P⟩
 ·have HE:=Ur.1;have HU:(0:Int)<(k:Int):=aa;have hp:=pg x (n:=k) Ur.2;have aaL:DC k (iW (eH x k)):=.inr ⟨_,hp,rfl⟩;refine ax ?_;rw[Vl] at c2;refine dS mixed ah [some none,some (some (.slice up ts.length uc)),some none,some none,some (some (.int .i64 (eH x k:Nat))),some (some (.string (iW (eH x k)))),none,none,some none,none]
   (S:=YL o1 w1 o2 w2 A (iW k) rc u ts (iW (eH x k)) 6 7 9) (.inl ⟨rfl,rfl,gi.refl rV,(fun y hy=>by cases hy)⟩) fun v9=>?_
  refine dR ?_;refine cE ?_;refine cq bS rfl rfl rfl ar ar (fun σ o' w' H hS=>?_) ?_
  ·rcases hS with⟨-,-,G,-⟩|⟨u',q,-⟩|⟨u',q,-⟩
   ·have hx:=G.bt.more _ oA;exact tM G.bt.aG hx ((cell_of (G.bt.same A vA.al.2.1 id)).trans c2)
   ·rw[H.xz 7 ah] at q;cases q
   ·rw[H.xz 7 ah] at q;cases q
  refine cE ?_;refine jU rfl rfl ar rfl func19 ah rfl (av:=#[.int .i64 x,.int .i64 k]) aI (fun σ o' w' H hS=>?_) ?_
  ·rcases hS with⟨h7,h9,G,-⟩|⟨u',q,-⟩|⟨u',q,-⟩
   ·refine(Dz G.bt.aG x k xr1 xr2 Ur.2 aa).mono ?_;rintro y o3 w3 ⟨rfl,N3⟩;exact⟨rfl,.inl ⟨h7,h9,G.trans (gi.eL N3),fun y hy=>by rw[H.qQ [5] 6 ah] at hy;cases hy⟩⟩
   ·rw[H.qQ [5] 7 ah] at q;cases q
   ·rw[H.qQ [5] 7 ah] at q;cases q
  aE;refine jU rfl rfl ar rfl func15 ah rfl (av:=#[.int .i64 (eH x k:Nat)]) aI (fun σ o' w' H hS=>?_) ?_
  ·rcases hS with⟨h7,h9,G,-⟩|⟨u',q,-⟩|⟨u',q,-⟩
   ·refine(YK G.bt.aG (eH x k) aa).mono ?_;rintro y o3 w3 ⟨rfl,N3⟩;exact⟨rfl,.inl ⟨h7,h9,G.trans (gi.eL N3),fun y hy=>by rw[H.xz 6 ah] at hy;cases hy⟩⟩
   ·rw[H.xz 7 ah] at q;cases q
   ·rw[H.xz 7 ah] at q;cases q
  aE;refine qu bS rfl rfl rfl ar ar (fun σ o' w' H hib hS=>?_) ?_
  ·rcases hS with⟨h7,h9,G,-⟩|⟨u',q,-⟩|⟨u',q,-⟩
   ·refine⟨G.bt.aG,fun y hy=>?_,fun wl v aW=>v=.slice (some ⟨wl.heap.size,0,none⟩) 1 1/\aW=wl.alloc (.cells #[.string (iW (eH x k))] 9),fun wl aU=>⟨_,_,by simp[go_sem,Act.eval],rfl,rfl⟩,fun wl y aW w3 aU nK bO=>?_⟩
    ·simp[Op.operands] at hy;subst hy;simp[Act.eval];exact bU
    ·obtain⟨rfl,nK⟩:=nK;obtain⟨z3,k3,sJ⟩:=bO.alloc G.bt.aG aU nK;refine .inl ⟨by simpa[fR] using h7,by simpa[fR] using h9,G.trans (gi.tj bO.aG aa k3),fun y hy=>?_⟩;simp only[fR,if_true,ay] at hy;exact⟨w'.heap.size,by rw[<- hy,aU.size],G.bt.size,.inr ⟨ag _,aa⟩,sJ⟩
   ·rw[H.xz 7 ah] at q;cases q
   ·rw[H.xz 7 ah] at q;cases q
  aE;refine qu bS rfl rfl rfl ar ar (fun σ o' w' H hia hS=>?_) ?_
  ·rcases hS with⟨-,h9,G,hN⟩|⟨u',q,-⟩|⟨u',q,-⟩
   ·obtain⟨Nb,hy,hNz,YF,WG⟩:=hN _ (H.done 6 ah rfl);have hq:=vA.row.jq G;have hqo:=gL G.bt.aG hq.cl;refine⟨G.bt.aG,fun y Oi=>?_,fun wl v aW=>aW.ownsRow w1.heap.size 9 1 v (ts++[(iW (eH x k))]).length ((ts++[(iW (eH x k))]).map .string)/\wl.grownBy aW u.ownBlock/\(v.ownBlock=u.ownBlock\/v.ownBlock=some wl.heap.size),fun wl aU=>?_,fun wl y aW w3 aU nK bO=>?_⟩
    ·simp[Op.operands,Call.operands] at Oi;rcases Oi with rfl|rfl
     ·simp[Act.eval];rw[<- Vl];exact hq.cl
     ·simp[Act.eval];rw[hy];exact ee YF
    ·obtain⟨v',W',e1,e2,e3,e4⟩:=KA wl w1.heap.size u ts ((iW (eH x k))) Nb (dF hq.row fun g hg _=>aU.heap g (hqo g hg.symm)) aa (by rw[aU.size];exact hq.low) ((aU.heap _ YF).trans WG);refine⟨v',W',jF (v:=u) (.tmp 59) (.tmp 64) 40 rfl ?_ (by simp[Act.eval];exact hy) e1,e2,e3,e4⟩;simp[Act.eval];exact Vl.symm
    ·obtain⟨r1,r2,r3⟩:=nK;obtain⟨q1,q2,q3⟩:=nF.add G.bt.aG hq aU bO r1 r2 r3;have zg:=G.bt.size;have z3:=q2.size;have Pk:=vA.al.2.1;refine .inr (.inl ⟨y,by simp[fR],by simpa[fR] using h9,(vA.jq.trans G).row (fun b hb=>(hq.lt b hb).1) q2,(q2.same A aa vA.al.2.2).trans ((G.bt.same A Pk id).trans vA.blk),⟨vA.al.1,aa,fun e=>?_⟩,q1⟩);rcases q3 A e with q|q
     ·exact vA.al.2.2 q
     ·omega
   ·rw[hia] at q;cases q
   ·rw[hia] at q;cases q
  refine cE ?_;refine pS bS rfl rfl rfl ar ar (fun σ o' w' H his hS=>?_) ?_
  ·rcases hS with⟨q,-⟩|⟨u',q,-,P⟩|⟨u',-,q,-⟩
   ·rw[H.done 7 ah rfl] at q;cases q
   ·have hv:v9 7=u':=aR ((H.done 7 ah rfl).symm.trans q);have Xm:=P.jq.all A P.al.1 P.al.2.1;obtain⟨p',l',c',hu'⟩:=mL P.row.row;refine⟨P.jq.bt.aG,fun y hy=>?_,fun wl aW=>aW=wl.setCell ⟨A,2,none⟩ u',fun wl aU=>⟨_,?_,rfl⟩,fun wl aW w3 aU nK bO=>?_⟩
    ·simp[Op.operands] at hy;rcases hy with rfl|rfl
     ·simp[Act.eval];exact bX Xm
     ·simp[Act.eval];rw[hv];exact P.row.cl
    ·obtain⟨e0,e1,e2,f0,f1,f2⟩:=eQ ((aU.heap _ Xm).trans P.blk);simp[go_sem,Act.eval,hv,hu',e2,f2]
    ·have hO:eK A wl aW:=by rw[nK];exact je _ _ _ _
     obtain⟨on,ow,e9⟩:=bO.only aU Xm hO;have mB:=bO.aG;rw[e9] at mB |-;have kA:w3.heap[A]?=some (.cells #[.string (iW k),.int .i64 rc,u'] 42):=by
      rw[ow,nK];have e:=(aU.heap _ Xm).trans P.blk;simp[World.setCell,aS,e]
     exact .inr (.inr ⟨u',by simpa[fR] using q,by simp[fR],P.jq.wrote P.al.1 mB on,kA,⟨P.al.1,by rw[on.1];exact P.al.2.1,P.al.2.2⟩,P.row.keep (fun _ q=>q) (bH on.1.symm) fun g hg=>on.2 g fun e=>P.al.2.2 (e▸hg)⟩)
   ·exact absurd his q
  aE;refine cD fun σ o3 w3 mC hS=>?_;rcases hS with⟨q,-⟩|⟨u',-,q,-⟩|⟨u',-,-,P⟩
  ·rw[mC 7 eA rfl] at q;cases q
  ·rw[mC 9 eA rfl] at q;cases q
  clear mC;simp only[iM,dK,if_true,if_false,reduceIte,Nat.reduceEqDiff];refine ax ?_;exact⟨m2-1,aa,ts.length+1,aa,dp,dp,aI,aI,aI,aI,aI,by simp[Act.eval,hwj],u',ts++[(iW (eH x k))],aj,(fun z hz=>by
   rcases List.mem_append.1 hz with hz|hz
   ·exact htn z hz
   ·simp at hz;subst hz;exact aaL),P⟩
end
end Go.Proofs.Kz
