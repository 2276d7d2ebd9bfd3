import Derived.Test.YtgjekaaknjgnmaaGreatDoorAf
import Derived.BigQuiet
import Derived.Maps.AppendAt
set_option linter.all false
set_option maxHeartbeats 40000000
set_option maxRecDepth 200000
namespace Go.Proofs.Kz
open Go.Proofs.Tryz
open Go.Proofs.Tryz renaming prog → au
open _root_.ByteArray renaming empty → aO
open Go.Ren Go.Conc Go.Proofs Go.ConcN
open Go.ConcR (Payload)
section
variable {Fin:bK} {o o' o1:aM} {w w' w1:ae} {K:pz} {s:gQ} {lk:Int} {lab dp:Nat->Nat}
theorem bm.opened(h:bm o w K s lk lab)(lv:bM au L0 (grow o w w1) w1)(z1:w1.heap.size=w.heap.size+1)(k1:∀b,b<w.heap.size->w1.heap[b]?=w.heap[b]?):∃dp,bm (grow o w w1) w1 K s lk dp/\(∀b,b<w.heap.size->dp b=lab b)/\dp w.heap.size=7/\grow o w w1 w.heap.size/\bA (fun _=>False) o w (grow o w w1) w1:=by
 have tA:bA (fun _=>False) o w (grow o w w1) w1:=⟨lv,jk,fun b hb=>hb.imp id fun q=>q.1,aa,fun b hb _=>k1 b hb⟩;have yJ:∀b,b<w.heap.size->(if b=w.heap.size then 7 else lab b)=lab b:=fun b hb=>if_neg aa;exact⟨fun b=>if b=w.heap.size then 7 else lab b,((h.J3 fun b hb=>yJ b (h.aF.lt hb)).yI tA).1,yJ,if_pos rfl,.inr ⟨ag _,aa⟩,tA⟩
theorem bm.did{o9:aM}{w9 wA:ae}{J6:Nat->Nat}{s':gQ}(h:bm o9 w9 K s' lk J6)(tA:bA (fun _=>False) o w o1 w1)(yJ:∀b,b<w.heap.size->dp b=lab b)(S:cN o1 w1 dp o9 w9 J6)(hl:J6 w.heap.size=7)(hF:bM au L0 o9 wA)(on:eI w.heap.size w9 wA):bm o9 wA K s' lk J6/\cN o w lab o9 wA J6:=by
 refine⟨h.aside (ex:=(·=w.heap.size)) (bA.dG hF on rfl) fun b hb=>by rw[hb];exact hl,⟨hF,fun b hb=>S.br.more b (tA.more b hb),fun b hb=>(S.br.new b hb).elim (fun q=>tA.new b q) fun q=>.inr (by have:=tA.size;omega),by rw[on.1];exact aW tA.size S.br.size,fun b hb hx=>?_⟩,fun b hb=>(S.lab b (by have:=tA.size;omega)).trans (yJ b hb)⟩;rw[on.2 b aa,S.br.same b (by have:=tA.size;omega) (by rw[yJ b hb];exact hx),tA.same b hb id]
def Yq(K:pz)(s s':gQ)(F:cY)(file:af->V):Prop:=∃ij Qx sn sr,(∀i,i<K.B.rs.length->∃b,ij i=some (b,mG K.B F file i))/\s'={s.stand 0 0 with old:=ij,pb:=Qx,num:=IntKind.i64.wrap (s.num+1),lu:=sn,res:=nS K.B F file,mH:=sr,jS:=rG (qH F.cp) (mH s.old (mG K.B F file)) K.B.rs.length}
def did(n:Int)(x:af):Value:=.agg #[.int .i64 n,.string x]
def Checked(K:pz)(s s':gQ)(F:cY)(file:af->V)(v:Value):Prop :=
 (s.ck=s.src.length/\v=did 6 aO/\Yq K s s' F file) \/
 ∃(h:s.ck<s.src.length) (h':s.ck<s.rd.length),(cg s.st s.src[s.ck]≠s.rd[s.ck].2/\v=did 5 s.src[s.ck]/\s'=s.stand 1 s.time)\/(cg s.st s.src[s.ck]=s.rd[s.ck].2/\v=did 4 s.src[s.ck]/\s'={s with ck:=s.ck+1})
theorem AB[Payload](h:bm o w K s lk lab)(hlen:s.rd.length=s.src.length)(lo:Nat)(F:cY)(DO:s.fd=some (lo,F))(file:af->V)(py:∀x,(file x).2.size<=100)(TC:s.rd.map (·.1)=(fh K.B.NM K.B.rs).map file):
  bz au (XB au Fin 0) 64 #[.pointer (some ⟨K.kb,0,none⟩)] o w fun v o' w'=>∃s' lab',Checked K s s' F file v/\bm o' w' K s' lk lab'/\cN o w lab o' w' lab':=by
 have W:=bV (P:=au) (Fin:=Fin) (d:=0);refine eA W func64 ar ?_;walk_nrmf Tryz.f64;refine ax ?_;refine dt bQ h.aF rfl ar ar mW rfl (R:=fun wl v aV=>v=.pointer (some ⟨wl.heap.size,0,none⟩)/\aV=wl.alloc (Obj.cells #[.int .i64 0,.string aO] 32)) (fun wl aT=>⟨_,_,by simp[go_sem];rfl,rfl,rfl⟩) fun wl v1 aV w1 aT hR bN=>?_;obtain⟨rfl,hR⟩:=hR;obtain⟨z1,k1,tF⟩:=bN.alloc h.aF aT hR;have lv:=bN.aF;rw[aT.size];clear hR bN aT wl aV;obtain⟨dp,h1,yJ,qA,wR,tA⟩:=h.opened lv z1 k1;generalize grow o w w1=o1 at *;obtain⟨sp,sb,sc,Qt,Ra,vx,eG⟩:=h1.cX.row;have c9:w1.cell? ⟨K.kb,9,none⟩=some (.slice sp s.src.length sc):=by rw[h1.row.cell aa];exact congrArg some Qt
 have c11:w1.cell? ⟨K.kb,11,none⟩=some (.int .i64 s.ck):=by rw[h1.row.cell aa];rfl
 have TO:=h1.aF.lt h1.own;have hsf:=h1.cX.gT;have Hv:=h1.gT.2.2.2.2.1;have hW0:bA (fun _=>False) o1 w1 o1 w1:=bA.refl h1.aF;refine ax ?_;refine dQ mixed ah [some none,some none,some none,some (some (.int .i64 s.ck)),some none,some none,some none,some (some (.slice sp s.src.length sc)),some none,some none]
  (S:=fun σ o' w'=>o1=o'/\w1=w') ⟨rfl,rfl⟩ fun v=>?_
 refine dP ?_;refine cC ?_;refine cm bQ rfl rfl rfl ar ar (fun σ o' w' H hS=>?_) ?_
 ·obtain⟨rfl,rfl⟩:=hS;exact tE h1.aF h1.own c11
 refine cC ?_;refine cm bQ rfl rfl rfl ar ar (fun σ o' w' H hS=>?_) ?_
 ·obtain⟨rfl,rfl⟩:=hS;exact tE h1.aF h1.own c9
 refine cC ?_;refine cB fun σ o3 w3 mn hS=>?_;obtain⟨rfl,rfl⟩:=hS;simp only[iH,dI,if_true,if_false,reduceIte,Nat.reduceEqDiff];refine gX W (t:=decide (s.ck=s.src.length)) (by simp[Act.eval];rw[dK];simp;omega) ?_;by_cases hc:s.ck=s.src.length
 ·rw[if_pos (cU hc)];refine ax ?_;refine cd func101 (Qw h1 lo F DO file py TC) ?_;rintro v0 o4 w4 ⟨rfl,su,ij,Qx,sn,sr,S4,hold,h4⟩;have Hy:su w.heap.size=7:=(S4.lab _ aa).trans qA;have yG:=(S4.br.same w.heap.size aa (by rw[qA];omega)).trans tF;have tC:=S4.br.more _ wR;walk_nrm;refine mr 6 aO h4.aF tC yG fun wA AA zS sQ=>?_;obtain⟨hA,SA⟩:=h4.did tA yJ S4 Hy AA zS;refine ax ?_;have c9:∀n,(wA.at n).cell? ⟨w.heap.size,0,none⟩=some (.int .i64 6)/\(wA.at n).cell? ⟨w.heap.size,1,none⟩=some (.string aO):=fun n=>⟨(dO sQ).1,(dO sQ).2.1⟩;refine⟨.inr trivial,trivial,.agg #[.int .i64 6,.string aO],wS (fun n=>?_) (fun n e he=>?_),_,su,.inl ⟨hc,rfl,ij,Qx,sn,sr,hold,rfl⟩,hA,SA⟩
  ·obtain⟨c0,c1⟩:=c9 n;simp[results,results64,go_sem,c0,c1]
  ·obtain⟨c0,c1⟩:=c9 n;simp[results,results64,go_sem,c0,c1] at he;rcases he with rfl|rfl;all_goals exact⟨_,_,_,rfl,tC⟩
 rw[if_neg (by simpa using hc)];have cy:s.ck<s.src.length:=aa;have qe:s.ck<s.rd.length:=aa;obtain⟨rfl,Q2⟩:=vx fun q=>by rw[q] at cy;simp at cy
 have hT:=eG s.ck cy;rw[bB] at hT;have yX:(s.ck:Int)<s.src.length:=aa;generalize hx:s.src[s.ck]=x at hT;refine ax ?_;refine dQ mixed ah [some none,some none,some none,some (some (.slice (some ⟨sb,0,none⟩) s.src.length sc)),some none,some none,some none,some (some (.int .i64 s.ck)),some none,some (some (.string x)),some none]
  (S:=fun σ o' w'=>o1=o'/\w1=w') ⟨rfl,rfl⟩ fun v=>?_
 refine dP ?_;refine cC ?_;refine cm bQ rfl rfl rfl ar ar (fun σ o' w' H hS=>?_) ?_
 ·obtain⟨rfl,rfl⟩:=hS;exact tE h1.aF h1.own c9
 refine cC ?_;refine cm bQ rfl rfl rfl ar ar (fun σ o' w' H hS=>?_) ?_
 ·obtain⟨rfl,rfl⟩:=hS;exact tE h1.aF h1.own c11
 refine cC ?_;refine cm bQ rfl rfl rfl ar ar (fun σ o' w' H hS=>?_) ?_
 ·obtain⟨rfl,rfl⟩:=hS;exact tE h1.aF Q2 hT
 refine cC ?_;refine cB fun σ o3 w3 mn hS=>?_;obtain⟨rfl,rfl⟩:=hS;simp only[iH,dI,if_true,if_false,reduceIte,Nat.reduceEqDiff];obtain⟨rp,rb,rc,KY,Yp,Cn⟩:=h1.reads.view h1.aF;obtain⟨rfl,rT⟩:=Yp fun q=>by rw[q] at qe;simp at qe
 have c10:w1.cell? ⟨K.kb,10,none⟩=some (.slice (some ⟨rb,0,none⟩) s.rd.length rc):=by rw[h1.row.cell aa];exact congrArg some KY
 have c3:w1.cell? ⟨K.kb,3,none⟩=some (.pointer (some ⟨K.fb,0,none⟩)):=by rw[h1.row.cell aa];rfl
 have hR:=(Cn s.ck qe).2.2;have hrw:=h1.aF.lt rT;have ao9:(s.ck:Int)<s.rd.length:=aa;generalize hy:s.rd[s.ck].2=ry at hR;generalize hz:cg s.st x=rz;generalize KO:(dU s.th x).1=s1;generalize uZ:(dU s.th x).2=s2;refine ax ?_;refine dQ mixed ah [some none,some none,some none,some (some (.pointer (some ⟨K.fb,0,none⟩))),some none,some (some (.agg #[.bool s1,.string s2,.int .i64 rz])),some none,some none,some none,some none,some (some (.slice (some ⟨rb,0,none⟩) s.rd.length rc)),some none,some none,some none,some (some (.int .i64 s.ck)),some none,some none,some (some (.int .i64 ry)),some none]
  (S:=fun σ o' w'=>bA (fun _=>False) o1 w1 o' w') hW0 fun v=>?_
 refine dP ?_;refine cC ?_;refine cm bQ rfl rfl rfl ar ar (fun σ o' w' H hS=>?_) ?_
 ·have mf:=hS.more _ h1.own;exact tE hS.aF mf ((cell_of (hS.same _ TO id)).trans c3)
 refine cC ?_;refine jP rfl rfl ar rfl func100 ah rfl (av:=#[.pointer (some ⟨K.fb,0,none⟩),.string x]) aH (fun σ o' w' H hS=>?_) ?_
 ·refine(Yn hS.aF ((h1.yI hS).1).files x).mono ?_;rintro y o2 w2 ⟨rfl,N⟩;exact⟨by rw[KO,uZ,hz],hS.trans (bA.eJ N)⟩
 walk_nrm;have evf:∀w,(Instr.field 194 (.agg #[.bool s1,.string s2,.int .i64 rz]) 1).events au w #[]=#[]:=fun w=>ah;refine cC ?_;refine cm bQ rfl rfl rfl ar ar (fun σ o' w' H hS=>?_) ?_
 ·have mf:=hS.more _ h1.own;exact tE hS.aF mf ((cell_of (hS.same _ TO id)).trans c10)
 refine cC ?_;refine cm bQ rfl rfl rfl ar ar (fun σ o' w' H hS=>?_) ?_
 ·have mf:=hS.more _ h1.own;exact tE hS.aF mf ((cell_of (hS.same _ TO id)).trans c11)
 refine cC ?_;refine cm bQ rfl rfl rfl ar ar (fun σ o' w' H hS=>?_) ?_
 ·have mf:=hS.more _ rT;exact tE hS.aF mf ((cell_of (hS.same _ hrw id)).trans hR)
 refine cC ?_;refine cB fun σ o5 w5 mn hS=>?_;simp only[iH,dI,if_true,if_false,reduceIte,Nat.reduceEqDiff];clear evf mn;obtain⟨h5,S5⟩:=h1.yI hS;have wZ:=hS.more _ wR;have MC:=(hS.same w.heap.size aa id).trans tF;refine gX W (t:=decide (rz≠ry)) (by simp[Act.eval];rw[dK];simp) ?_;by_cases hd:rz≠ry
 ·rw[if_pos (cU hd)];refine ax ?_;refine cd func102 (TM h5) ?_;rintro v0 o4 w4 ⟨rfl,S4,h4⟩;have Hy:dp w.heap.size=7:=qA;have yG:=(S4.br.same w.heap.size (by have:=hS.size;omega) (by rw[qA];omega)).trans MC;have tC:=S4.br.more _ wZ;have S45:=S5.trans S4;refine ax ?_;refine mr 5 x h4.aF tC yG fun wA AA zS sQ=>?_;obtain⟨hA,SA⟩:=h4.did tA yJ S45 qA AA zS;refine ax ?_;have c9:∀n,(wA.at n).cell? ⟨w.heap.size,0,none⟩=some (.int .i64 5)/\(wA.at n).cell? ⟨w.heap.size,1,none⟩=some (.string x):=fun n=>⟨(dO sQ).1,(dO sQ).2.1⟩;refine⟨.inr trivial,trivial,.agg #[.int .i64 5,.string x],wS (fun n=>?_) (fun n e he=>?_),_,dp,.inr ⟨cy,qe,.inl ⟨by rw[hx,hy,hz];exact hd,by rw[hx];rfl,rfl⟩⟩,hA,SA⟩
  ·obtain⟨c0,c1⟩:=c9 n;simp[results,results64,go_sem,c0,c1]
  ·obtain⟨c0,c1⟩:=c9 n;simp[results,results64,go_sem,c0,c1] at he;rcases he with rfl|rfl;all_goals exact⟨_,_,_,rfl,tC⟩
 rw[if_neg (by simpa using hd)];have d11:w5.cell? ⟨K.kb,11,none⟩=some (.int .i64 s.ck):=by rw[h5.row.cell aa];rfl
 refine ax ?_;refine lh h5.aF h5.own d11 fun _=>?_;walk_nrm;have uW:IntKind.i64.wrap ((s.ck:Int)+1)=((s.ck+1:Nat):Int):=by rw[IntKind.wrap_i64]<;>omega
 refine ax ?_;refine du bQ h5.aF rfl ar ar ?_ rfl (R:=fun wl aV=>aV=wl.setCell ⟨K.kb,11,none⟩ (.int .i64 ((s.ck+1:Nat):Int))) (fun wl aT=>⟨_,?_,rfl⟩) fun wl aV w9 aT hR bN=>?_
 ·exact iV (bU h5.own) dS
 ·have rl:=World.rowIs.of_block h5.row (aT.heap _ h5.own);have e1:=(aT.cell h5.own).trans d11;have f:=rl.frozen;simp[go_sem,e1,f,uW]
 have hO:eI K.kb wl aV:=by rw[hR];exact iZ _ _ _ _
 obtain⟨lO,oe,e9⟩:=bN.only aT h5.own hO;have ml:=bN.aF;rw[e9] at ml |-;rw[hR] at oe;have h9:=h5.put (s':={s with ck:=s.ck+1}) (lk':=lk) ml lO ((World.rowIs.of_block ((World.rowIs.of_block h5.row (aT.heap _ h5.own)).set 11 _) oe).congr fun j hj=>by
  rcases ni hj with rfl|rfl|rfl|rfl|rfl|rfl|rfl|rfl|rfl|rfl|rfl|rfl|rfl<;>rfl) rfl rfl ⟨h5.gT.2.2.1,h5.gT.2.2.2.1,cy⟩
 have S9:=S5.trans (.of (bA.dG (ex:=(·=K.kb)) ml lO rfl) fun b hb=>by rw[hb,h5.l0];omega);have dH:w.heap.size≠K.kb:=fun e=>by have:=h5.l0;rw[<- e,qA] at this;omega
 have kbA:=(lO.2 _ dH).trans MC;clear hR bN aT hO oe wl aV e9;refine ax ?_;refine mr 4 x h9.aF wZ kbA fun wA AA zS sQ=>?_;obtain⟨hA,SA⟩:=h9.did tA yJ S9 qA AA zS;refine ax ?_;have c9:∀n,(wA.at n).cell? ⟨w.heap.size,0,none⟩=some (.int .i64 4)/\(wA.at n).cell? ⟨w.heap.size,1,none⟩=some (.string x):=fun n=>⟨(dO sQ).1,(dO sQ).2.1⟩;refine⟨.inr trivial,trivial,.agg #[.int .i64 4,.string x],wS (fun n=>?_) (fun n e he=>?_),_,dp,.inr ⟨cy,qe,.inr ⟨by rw[hx,hy,hz];simpa using hd,by rw[hx];rfl,rfl⟩⟩,hA,SA⟩
 ·obtain⟨c0,c1⟩:=c9 n;simp[results,results64,go_sem,c0,c1]
 ·obtain⟨c0,c1⟩:=c9 n;simp[results,results64,go_sem,c0,c1] at he;rcases he with rfl|rfl;all_goals exact⟨_,_,_,rfl,wZ⟩
theorem Qy:(au.info? 194).map (fun i=>(i.zero,i.size,i.bytes))=some (some (.agg #[.bool false,.string aO,.int .i64 0]),3,32):=ah
theorem De(ss:List (V×Int))(q:V×Int):eZ (ss++[q])=eZ ss++[.bool q.1.1,.string q.1.2,.int .i64 q.2]:=by simp[eZ]
theorem zT(W:ae)(lo:Nat)(v:Value)(ss:List (V×Int))(q:V×Int)(A:Nat)(h:W.ownsRow lo 194 3 v ss.length (eZ ss))(hn:ss.length<=100000)(vF:lo<=W.heap.size)(ha:W.heap[A]?=some (.cells #[.bool q.1.1,.string q.1.2,.int .i64 q.2] 194)):
  ∃v' W',(Builtin.append_ #[110,110] 110 #[v,.slice (some ⟨A,0,none⟩) 1 1]).run au W=.ok v' W'/\W'.ownsRow lo 194 3 v' (ss++[q]).length (eZ (ss++[q]))/\W.grownBy W' v.ownBlock/\(v'.ownBlock=v.ownBlock\/v'.ownBlock=some W.heap.size):=by
 obtain⟨i,hi,od⟩:=Option.map_eq_some_iff.1 Qy;simp only[bt] at od;obtain⟨c0,c1,c2,-⟩:=eO ha;have hc:∀j u,[Value.bool q.1.1,.string q.1.2,.int .i64 q.2][j]?=some u->W.cell? ((⟨A,0,none⟩:Addr).add j)=some u:=fun j u hj=>by
  match j with
  |0=>simp at hj;subst hj;simpa[Addr.add] using c0
  |1=>simp at hj;subst hj;simpa[Addr.add] using c1
  |2=>simp at hj;subst hj;simpa[Addr.add] using c2
  |j+3=>simp at hj
 obtain⟨v',W',e1,e2,e3,_⟩:=run_append_own (P:=au) W lo 110 110 194 i _ 3 32 underlying110 hi od.1 od.2.1 od.2.2 rfl aa v ss.length (eZ ss) h ⟨A,0,none⟩ 1 1 _ rfl hc (by simp;exact⟨rfl,rfl,rfl⟩) (by simp[maxLen];omega) aa vF;exact⟨v',W',e1,by rw[De];simpa using e2,e3,yF W lo 110 110 194 i _ 3 32 underlying110 hi od.1 od.2.1 od.2.2 v ss.length (eZ ss) h ⟨A,0,none⟩ 1 _ rfl hc (by simp;exact⟨rfl,rfl,rfl⟩) aa aa e1⟩
theorem KX.add{v v':Value}{ss:List (V×Int)}{q:V×Int}{wl aV:ae}{lo:Nat}(hF:bM au L0 o w)(h:KX o w v ss)(hl:ss.length<1000)(aT:iA o w wl)(bN:lH au L0 o w w' aV v')(vF:lo<=w.heap.size)(cj:aV.ownsRow lo 194 3 v' (ss++[q]).length (eZ (ss++[q])))(D9:wl.grownBy aV v.ownBlock)(Yl:v'.ownBlock=v.ownBlock\/v'.ownBlock=some wl.heap.size):
  KX (grow o w w') w' v' (ss++[q])/\bA (fun b=>v.ownBlock=some b) o w (grow o w w') w'/\∀b,v'.ownBlock=some b->v.ownBlock=some b\/w.heap.size<=b:=by
 rw[aT.size] at Yl;have Eh:=bN.aF;have fu:Cl au L0 (grow o w w') v':=bN.val;have z6:=bN.jj;have JY:∀b,v'.ownBlock=some b->grow o w w' b:=fun b hb=>by
  obtain⟨-,fX⟩:=cj;rcases fX with⟨rfl,-⟩|⟨g',cap,cur,rfl,-⟩
  ·cases hb
  ·cases hb;exact GX Eh fu
 refine⟨⟨⟨lo,aa,dD cj fun b hb _=>bN.same b (JY b hb.symm)⟩,fu,dV⟩,⟨Eh,jk,fun b hb=>hb.imp id fun q=>q.1,z6,fun b hb UO=>?_⟩,fun b hb=>?_⟩
 ·by_cases ho:o b
  ·rw[bN.same b (.inl ho),D9.block b (by rw[aT.size];exact hb) (fun e=>UO e.symm),aT.heap b ho]
  ·exact bN.rest b hb ho
 ·rcases Yl with e|e
  ·rw[hb] at e;exact .inl e.symm
  ·rw[hb] at e;exact .inr (bG (aQ e).symm)
theorem Checked.shape{s':gQ}{F:cY}{file:af->V}{v:Value}(h:Checked K s s' F file v):∃n x,v=did n x:=by
 rcases h with⟨-,e,-⟩|⟨_,_,⟨-,e,-⟩|⟨-,e,-⟩⟩
 ·exact⟨_,_,e⟩
 ·exact⟨_,_,e⟩
 ·exact⟨_,_,e⟩
theorem bm.aao(h:bm o w K s lk lab){MG:Value}{rd':List (V×Int)}(hW:bA (fun b=>b=K.kb\/s.rv.ownBlock=some b) o w o' w')(hq:KX o' w' MG rd')(hb:∀b,MG.ownBlock=some b->s.rv.ownBlock=some b\/w.heap.size<=b)(hr:w'.rowIs K.kb 120 13 (sk K {s with rv:=MG,rd:=rd'} lk))(hl:rd'.length<=s.src.length):
  ∃lab',bm o' w' K {s with rv:=MG,rd:=rd'} lk lab'/\cN o w lab o' w' lab':=by
 have hx:∀b,b=K.kb\/s.rv.ownBlock=some b->lab b=0\/lab b=5:=fun b hb=>hb.imp (fun e=>by rw[e];exact h.l0) fun e=>h.l5 b e;have P:=h.parts hW 0 5 hx;obtain⟨a1,a2,a3,a4⟩:=h.all;have lt:∀b,o b->b<w.heap.size:=fun b hb=>h.aF.lt hb;have lb:∀b,o b->(if w.heap.size<=b then 5 else lab b)=lab b:=fun b hb=>if_neg (by have:=lt b hb;omega);obtain⟨f1,f2,f3,f4,f5,f6⟩:=h.gT;refine⟨fun b=>if w.heap.size<=b then 5 else lab b,⟨hW.aF,hr,hW.more _ h.own,P.build aa aa,P.files aa aa,P.queue aa aa,P.cX aa aa,hq,⟨(P.set aa aa).blk,(P.set aa aa).own,(P.set aa aa).res,(P.set aa aa).cl,(P.set aa aa).gT,(P.set aa aa).jS⟩,(lb _ h.own).trans h.l0,fun b hb=>(lb b (h.build.own b hb)).trans (h.l1 b hb),fun b hb=>(lb b ?_).trans (h.l2 b hb),fun b hb=>(lb b (a1 b hb)).trans (h.l3 b hb),fun b hb=>(lb b (a2 b hb)).trans (h.l4 b hb),fun b hq=>?_,fun b hb=>(lb b (a4 b hb)).trans (h.l6 b hb),f1,f2,f3,f4,f5,hl⟩,⟨hW.mono fun b hb=>by rcases hx b hb with e|e<;>omega,fun b hb=>if_neg aa⟩⟩
 ·rcases hb with rfl|rfl|rfl
  ·exact h.files.own.1
  ·exact h.files.own.2.1
  ·exact h.files.own.2.2
 ·rcases hb b hq with e|e
  ·exact(lb b (a3 b e)).trans (h.l5 b e)
  ·exact if_pos e
def GZ(K:pz)(s s':gQ)(F:cY)(file:af->V)(v:Value):Prop :=
 (s.rd.length=s.src.length/\Checked K {s with phase:=3} s' F file v) \/
 ∃h:s.rd.length<s.src.length,v=did 3 s.src[s.rd.length]/\∃MG,s'={s with rv:=MG,rd:=s.rd++[(dU s.th s.src[s.rd.length],cg s.st s.src[s.rd.length])]}
theorem MH[Payload](h:bm o w K s lk lab)(lo:Nat)(F:cY)(DO:s.fd=some (lo,F))(file:af->V)(py:∀x,(file x).2.size<=100)(TC:s.rd.length=s.src.length->s.rd.map (·.1)=(fh K.B.NM K.B.rs).map file):
  bz au (XB au Fin 0) 63 #[.pointer (some ⟨K.kb,0,none⟩)] o w fun v o' w'=>∃s' lab',GZ K s s' F file v/\bm o' w' K s' lk lab'/\cN o w lab o' w' lab':=by
 have W:=bV (P:=au) (Fin:=Fin) (d:=0);refine eA W func63 ar ?_;walk_nrmf Tryz.f63;refine ax ?_;refine dt bQ h.aF rfl ar ar mW rfl (R:=fun wl v aV=>v=.pointer (some ⟨wl.heap.size,0,none⟩)/\aV=wl.alloc (Obj.cells #[.int .i64 0,.string aO] 32)) (fun wl aT=>⟨_,_,by simp[go_sem];rfl,rfl,rfl⟩) fun wl v1 aV w1 aT hR bN=>?_;obtain⟨rfl,hR⟩:=hR;obtain⟨z1,k1,tF⟩:=bN.alloc h.aF aT hR;have lv:=bN.aF;rw[aT.size];clear hR bN aT wl aV;obtain⟨dp,h1,yJ,qA,wR,tA⟩:=h.opened lv z1 k1;generalize grow o w w1=o1 at *;obtain⟨sp,sb,sc,Qt,Ra,vx,eG⟩:=h1.cX.row;obtain⟨rp,rb,rc,KY,Yp,Cn⟩:=h1.reads.view h1.aF;have c9:w1.cell? ⟨K.kb,9,none⟩=some (.slice sp s.src.length sc):=by rw[h1.row.cell aa];exact congrArg some Qt
 have c10:w1.cell? ⟨K.kb,10,none⟩=some (.slice rp s.rd.length rc):=by rw[h1.row.cell aa];exact congrArg some KY
 have c3:w1.cell? ⟨K.kb,3,none⟩=some (.pointer (some ⟨K.fb,0,none⟩)):=by rw[h1.row.cell aa];rfl
 have TO:=h1.aF.lt h1.own;have hsf:=h1.cX.gT;have hrf:=h1.gT.2.2.2.2.2;have hW0:bA (fun _=>False) o1 w1 o1 w1:=bA.refl h1.aF;refine ax ?_;refine dQ mixed ah [some none,some none,some none,some (some (.slice rp s.rd.length rc)),some none,some none,some none,some none,some (some (.slice sp s.src.length sc)),some none,some none]
  (S:=fun σ o' w'=>o1=o'/\w1=w') ⟨rfl,rfl⟩ fun v=>?_
 refine dP ?_;refine cC ?_;refine cm bQ rfl rfl rfl ar ar (fun σ o' w' H hS=>?_) ?_
 ·obtain⟨rfl,rfl⟩:=hS;exact tE h1.aF h1.own c10
 refine cC ?_;refine cm bQ rfl rfl rfl ar ar (fun σ o' w' H hS=>?_) ?_
 ·obtain⟨rfl,rfl⟩:=hS;exact tE h1.aF h1.own c9
 refine cC ?_;refine cB fun σ o3 w3 mn hS=>?_;obtain⟨rfl,rfl⟩:=hS;clear mn;simp only[iH,dI,if_true,if_false,reduceIte,Nat.reduceEqDiff];refine gX W (t:=decide (s.rd.length=s.src.length)) (by simp[Act.eval];rw[dK];simp;omega) ?_;by_cases hc:s.rd.length=s.src.length
 ·rw[if_pos (cU hc)];refine ax ?_;refine du bQ h1.aF rfl ar ar ?_ rfl (R:=fun wl aV=>aV=wl.setCell ⟨K.kb,7,none⟩ (.int .i64 3)) (fun wl aT=>⟨_,?_,rfl⟩) fun wl aV w9 aT hR bN=>?_
  ·exact iV (bU h1.own) dS
  ·have rl:=World.rowIs.of_block h1.row (aT.heap _ h1.own);have e1:=rl.cell (i:=7) aa;have f:=rl.frozen;simp[go_sem,e1,f]
  have hO:eI K.kb wl aV:=by rw[hR];exact iZ _ _ _ _
  obtain⟨lO,oe,e9⟩:=bN.only aT h1.own hO;have ml:=bN.aF;rw[e9] at ml |-;rw[hR] at oe;have h9:=h1.put (s':={s with phase:=3}) (lk':=lk) ml lO ((World.rowIs.of_block ((World.rowIs.of_block h1.row (aT.heap _ h1.own)).set 7 _) oe).congr fun j hj=>by
   rcases ni hj with rfl|rfl|rfl|rfl|rfl|rfl|rfl|rfl|rfl|rfl|rfl|rfl|rfl<;>rfl) rfl rfl ⟨h1.gT.2.2.1,h1.gT.2.2.2.1,h1.gT.2.2.2.2.1⟩
  have S9:cN o1 w1 dp o1 w9 dp:=.of (bA.dG (ex:=(·=K.kb)) ml lO rfl) fun b hb=>by rw[hb,h1.l0];omega
  have dH:w.heap.size≠K.kb:=fun e=>by have:=h1.l0;rw[<- e,qA] at this;omega
  have MC:=(lO.2 _ dH).trans tF;clear hR bN aT hO oe wl aV e9;refine ax ?_;refine cd func64 (AB h9 hc lo F DO file py (TC hc)) ?_;rintro v0 o4 w4 ⟨s',su,vC,h4,S4⟩;have Hy:su w.heap.size=7:=(S4.lab _ (by rw[lO.1];omega)).trans qA;have yG:=(S4.br.same w.heap.size (by rw[lO.1];omega) (by rw[qA];omega)).trans MC;have tC:=S4.br.more _ wR;have S94:=S9.trans S4;obtain⟨dn,dx,rfl⟩:=vC.shape;unfold did at vC |-;walk_nrm;refine mr dn dx h4.aF tC yG fun wA AA zS sQ=>?_;obtain⟨hA,SA⟩:=h4.did tA yJ S94 Hy AA zS;refine ax ?_;have c9:∀n,(wA.at n).cell? ⟨w.heap.size,0,none⟩=some (.int .i64 dn)/\(wA.at n).cell? ⟨w.heap.size,1,none⟩=some (.string dx):=fun n=>⟨(dO sQ).1,(dO sQ).2.1⟩;refine⟨.inr trivial,trivial,.agg #[.int .i64 dn,.string dx],wS (fun n=>?_) (fun n e he=>?_),s',su,.inl ⟨hc,vC⟩,hA,SA⟩
  ·obtain⟨c0,c1⟩:=c9 n;simp[results,results63,go_sem,c0,c1]
  ·obtain⟨c0,c1⟩:=c9 n;simp[results,results63,go_sem,c0,c1] at he;rcases he with rfl|rfl;all_goals exact⟨_,_,_,rfl,tC⟩
 rw[if_neg (by simpa using hc)];have cy:s.rd.length<s.src.length:=aa;obtain⟨rfl,Q2⟩:=vx fun q=>by rw[q] at cy;simp at cy
 have hT:=eG s.rd.length cy;rw[bB] at hT;have yX:(s.rd.length:Int)<s.src.length:=aa;generalize hx:s.src[s.rd.length]=x at hT;refine ax ?_;refine dQ mixed ah [some none,some none,some none,some (some (.slice (some ⟨sb,0,none⟩) s.src.length sc)),some none,some none,some none,some (some (.slice rp s.rd.length rc)),some none,some none,some (some (.string x)),some none]
  (S:=fun σ o' w'=>o1=o'/\w1=w') ⟨rfl,rfl⟩ fun v=>?_
 refine dP ?_;refine cC ?_;refine cm bQ rfl rfl rfl ar ar (fun σ o' w' H hS=>?_) ?_
 ·obtain⟨rfl,rfl⟩:=hS;exact tE h1.aF h1.own c9
 refine cC ?_;refine cm bQ rfl rfl rfl ar ar (fun σ o' w' H hS=>?_) ?_
 ·obtain⟨rfl,rfl⟩:=hS;exact tE h1.aF h1.own c10
 refine cC ?_;refine cm bQ rfl rfl rfl ar ar (fun σ o' w' H hS=>?_) ?_
 ·obtain⟨rfl,rfl⟩:=hS;exact tE h1.aF Q2 hT
 refine cC ?_;refine cB fun σ o3 w3 mn hS=>?_;obtain⟨rfl,rfl⟩:=hS;clear mn;simp only[iH,dI,if_true,if_false,reduceIte,Nat.reduceEqDiff];generalize hz:cg s.st x=rz;generalize KO:(dU s.th x).1=s1;generalize uZ:(dU s.th x).2=s2;have Vg:=h1.reads.cl;rw[KY] at Vg;refine ax ?_;refine dQ mixed ah [some none,some none,some none,some none,some (some (.slice rp s.rd.length rc)),some none,some none,some none,some (some (.pointer (some ⟨K.fb,0,none⟩))),some none,some (some (.agg #[.bool s1,.string s2,.int .i64 rz])),none,none,some none,some none,none]
  (S:=fun σ o' w'=>(σ 12=none/\σ 15=none/\bA (fun _=>False) o1 w1 o' w'/\∀y,σ 11=some y->∃Nb,y=.slice (some ⟨Nb,0,none⟩) 1 1/\w1.heap.size<=Nb/\o' Nb/\w'.heap[Nb]?=some (.cells #[.bool s1,.string s2,.int .i64 rz] 194)) \/
   (∃y,σ 12=some y/\σ 15=none/\(∃p l c,y=.slice p l c)/\KX o' w' y (s.rd++[((s1,s2),rz)])/\bA (fun b=>s.rv.ownBlock=some b) o1 w1 o' w'/\∀b,y.ownBlock=some b->s.rv.ownBlock=some b\/w1.heap.size<=b) \/
   (∃y,σ 12=some y/\σ 15≠none/\KX o' w' y (s.rd++[((s1,s2),rz)])/\bA (fun b=>b=K.kb\/s.rv.ownBlock=some b) o1 w1 o' w'/\(∀b,y.ownBlock=some b->s.rv.ownBlock=some b\/w1.heap.size<=b)/\w'.rowIs K.kb 120 13 (sk K {s with rv:=y,rd:=s.rd++[((s1,s2),rz)]} lk))) (.inl ⟨rfl,rfl,hW0,fun y hy=>by cases hy⟩) fun v=>?_
 refine dP ?_;refine cC ?_;refine cm bQ rfl rfl rfl ar ar (fun σ o' w' H hS=>?_) ?_
 ·rcases hS with⟨-,-,hW,-⟩|⟨y,pY,-⟩|⟨y,pY,-⟩
  ·have mf:=hW.more _ h1.own;exact tE hW.aF mf ((cell_of (hW.same _ TO id)).trans c10)
  ·rw[H.qE [] 12 ah] at pY;cases pY
  ·rw[H.qE [] 12 ah] at pY;cases pY
 refine cC ?_;refine cm bQ rfl rfl rfl ar ar (fun σ o' w' H hS=>?_) ?_
 ·rcases hS with⟨-,-,hW,-⟩|⟨y,pY,-⟩|⟨y,pY,-⟩
  ·have mf:=hW.more _ h1.own;exact tE hW.aF mf ((cell_of (hW.same _ TO id)).trans c3)
  ·rw[H.qE [11,10] 12 ah] at pY;cases pY
  ·rw[H.qE [11,10] 12 ah] at pY;cases pY
 refine cC ?_;refine jP rfl rfl ar rfl func100 ah rfl (av:=#[.pointer (some ⟨K.fb,0,none⟩),.string x]) aH (fun σ o' w' H hS=>?_) ?_
 ·rcases hS with⟨pY,Re,hW,-⟩|⟨y,pY,-⟩|⟨y,pY,-⟩
  ·refine(Yn hW.aF ((h1.yI hW).1).files x).mono ?_;rintro y o2 w2 ⟨rfl,N⟩;exact⟨by rw[KO,uZ,hz],.inl ⟨pY,Re,hW.trans (bA.eJ N),fun y hy=>by rw[H.xm 11 ah] at hy;cases hy⟩⟩
  ·rw[H.qE [11] 12 ah] at pY;cases pY
  ·rw[H.qE [11] 12 ah] at pY;cases pY
 walk_nrm;refine ql bQ rfl rfl rfl ar ar (fun σ o' w' H h11 hS=>?_) ?_
 ·rcases hS with⟨pY,Re,hW,-⟩|⟨y,pY,-⟩|⟨y,pY,-⟩
  ·refine⟨hW.aF,fun y hy=>?_,fun wl v aV=>v=.slice (some ⟨wl.heap.size,0,none⟩) 1 1/\aV=wl.alloc (.cells #[.bool s1,.string s2,.int .i64 rz] 194),fun wl aT=>⟨_,_,by simp[go_sem,Act.eval],rfl,rfl⟩,fun wl y aV w2 aT hR bN=>?_⟩
   ·simp[Op.operands] at hy;subst hy;simp[Act.eval];exact fS (vs:=[_,_,_]) (fun x hx=>by
     simp at hx;rcases hx with rfl|rfl|rfl
     ·exact mR
     ·exact bS
     ·exact dS)
   ·obtain⟨rfl,hR⟩:=hR;obtain⟨z2,k2,Og⟩:=bN.alloc hW.aF aT hR;refine .inl ⟨by simpa[fM] using pY,by simpa[fM] using Re,hW.trans ⟨bN.aF,jk,fun b hb=>hb.imp id fun q=>q.1,aa,fun b hb _=>k2 b hb⟩,fun y hy=>?_⟩;simp only[fM,if_true,ay] at hy;exact⟨w'.heap.size,by rw[<- hy,aT.size],hW.size,.inr ⟨ag _,aa⟩,Og⟩
  ·rw[H.xm 12 ah] at pY;cases pY
  ·rw[H.xm 12 ah] at pY;cases pY
 walk_nrm;refine ql bQ rfl rfl rfl ar ar (fun σ o' w' H pY hS=>?_) ?_
 ·rcases hS with⟨-,Re,hW,h9⟩|⟨y,q,-⟩|⟨y,q,-⟩
  ·obtain⟨Nb,hy,hNz,Yr,Wq⟩:=h9 _ (H.done 11 ah rfl);have hq:=((h1.yI hW).1).reads;rw[KY] at hq;obtain⟨Tu,ad7,cj⟩:=hq.row;have hqo:=gG hW.aF hq.cl;refine⟨hW.aF,fun y NV=>?_,fun wl v aV=>aV.ownsRow Tu 194 3 v (s.rd++[((s1,s2),rz)]).length (eZ (s.rd++[((s1,s2),rz)]))/\wl.grownBy aV (Value.slice rp s.rd.length rc).ownBlock/\(v.ownBlock=(Value.slice rp s.rd.length rc).ownBlock\/v.ownBlock=some wl.heap.size),fun wl aT=>?_,fun wl y aV w2 aT hR bN=>?_⟩
   ·simp[Op.operands,Call.operands] at NV;rcases NV with rfl|rfl
    ·simp[Act.eval];exact hq.cl
    ·simp[Act.eval];rw[hy];exact dY Yr
   ·obtain⟨v',W',e1,e2,e3,e4⟩:=zT wl Tu (.slice rp s.rd.length rc) s.rd ((s1,s2),rz) Nb (dD cj fun g hg _=>aT.heap g (hqo g hg.symm)) aa (by rw[aT.size];exact ad7) ((aT.heap _ Yr).trans Wq);exact⟨v',W',jA (.tmp 39) (.tmp 46) 110 rfl aH (by simp[Act.eval];exact hy) e1,e2,e3,e4⟩
   ·obtain⟨r1,r2,r3⟩:=hR;obtain⟨q1,q2,q3⟩:=KX.add hW.aF hq aa aT bN ad7 r1 r2 r3;refine .inr (.inl ⟨y,by simp[fM],by simpa[fM] using Re,?_,q1,?_,fun b hb=>?_⟩)
    ·obtain⟨-,fX⟩:=r1;rcases fX with⟨rfl,-⟩|⟨g',cap,cur,rfl,-⟩
     ·exact⟨_,_,_,rfl⟩
     ·exact⟨_,_,_,rfl⟩
    ·rw[KY];exact(hW.mono fun b hb=>hb.elim).trans q2
    ·rw[KY];exact(q3 b hb).imp id fun q=>aW hW.size q
  ·rw[pY] at q;cases q
  ·rw[pY] at q;cases q
 refine cC ?_;refine pL bQ rfl rfl rfl ar ar (fun σ o' w' H Re hS=>?_) ?_
 ·rcases hS with⟨pY,-⟩|⟨y,pY,-,⟨p,l,c,rfl⟩,q1,q2,q3⟩|⟨y,pY,q,-⟩
  ·rw[H.done 12 ah rfl] at pY;cases pY
  ·have hv:v 12=.slice p l c:=aQ ((H.done 12 ah rfl).symm.trans pY);have hk:=q2.more _ h1.own;have dH:s.rv.ownBlock≠some K.kb:=fun e=>by have:=h1.l5 _ e;rw[h1.l0] at this;omega
   have ad9:=World.rowIs.of_block h1.row (q2.same _ TO dH);refine⟨q2.aF,fun y hy=>?_,fun wl aV=>aV=wl.setCell ⟨K.kb,10,none⟩ (.slice p l c),fun wl aT=>⟨_,?_,rfl⟩,fun wl aV w2 aT hR bN=>?_⟩
   ·simp[Op.operands] at hy;rcases hy with rfl|rfl
    ·simp[Act.eval];exact bU hk
    ·simp[Act.eval];rw[hv];exact q1.cl
   ·have rl:=World.rowIs.of_block ad9 (aT.heap _ hk);have e1:=rl.cell (i:=10) aa;have f:=rl.frozen;simp[go_sem,Act.eval,hv,e1,f]
   ·have hO:eI K.kb wl aV:=by rw[hR];exact iZ _ _ _ _
    obtain⟨on,oe,e9⟩:=bN.only aT hk hO;have ml:=bN.aF;rw[e9] at ml |-;rw[hR] at oe;refine .inr (.inr ⟨.slice p l c,by simpa[fM] using pY,by simp[fM],q1.keep (fun _ q=>q) (bG on.1.symm) (fun g hg=>on.2 g fun e=>?_),(q2.mono fun b hb=>.inr hb).trans (bA.dG ml on (.inl rfl)),q3,(World.rowIs.of_block ((World.rowIs.of_block ad9 (aT.heap _ hk)).set 10 _) oe).congr fun j hj=>?_⟩)
    ·rcases q3 g hg with q|q
     ·exact dH (by rw[q,e])
     ·omega
    ·rcases ni hj with rfl|rfl|rfl|rfl|rfl|rfl|rfl|rfl|rfl|rfl|rfl|rfl|rfl<;>rfl
  ·exact absurd Re q
 walk_nrm;refine cB fun σ o5 w5 mn hS=>?_;rcases hS with⟨pY,-⟩|⟨y,pY,Re,-⟩|⟨y,-,-,q1,q2,q3,q4⟩
 ·rw[mn 12 eu rfl] at pY;cases pY
 ·rw[mn 15 eu rfl] at Re;cases Re
 clear mn;simp only[iH,dI,if_true,if_false,reduceIte,Nat.reduceEqDiff];obtain⟨oT,h5,S5⟩:=h1.aao q2 q1 q3 q4 dV;have Rf:oT w.heap.size=7:=(S5.lab _ aa).trans qA;have MC:=(S5.br.same w.heap.size aa (by rw[qA];omega)).trans tF;have wZ:=S5.br.more _ wR;clear q1 q2 q3 q4;refine ax ?_;refine mr 3 x h5.aF wZ MC fun wA AA zS sQ=>?_;obtain⟨hA,SA⟩:=h5.did tA yJ S5 Rf AA zS;refine ax ?_;have c9:∀n,(wA.at n).cell? ⟨w.heap.size,0,none⟩=some (.int .i64 3)/\(wA.at n).cell? ⟨w.heap.size,1,none⟩=some (.string x):=fun n=>⟨(dO sQ).1,(dO sQ).2.1⟩;refine⟨.inr trivial,trivial,.agg #[.int .i64 3,.string x],wS (fun n=>?_) (fun n e he=>?_),_,oT,.inr ⟨cy,by rw[hx];rfl,y,by rw[hx,hz,<- KO,<- uZ]⟩,hA,SA⟩
 ·obtain⟨c0,c1⟩:=c9 n;simp[results,results63,go_sem,c0,c1]
 ·obtain⟨c0,c1⟩:=c9 n;simp[results,results63,go_sem,c0,c1] at he;rcases he with rfl|rfl;all_goals exact⟨_,_,_,rfl,wZ⟩
theorem bm.WE(h:bm o w K s lk lab)(hF:bM au L0 o w')(hO:eI K.kb w w')(hr:w'.rowIs K.kb 120 13 (fun j=>if j=4+1 then .bool false else if j=4 then .slice none 0 0 else sk K s lk j)):
  bm o w' K {s with qv:=.slice none 0 0,qn:=[],lost:=false} lk lab:=by
 have hW:bA (·=K.kb) o w o w':=bA.dG hF hO rfl;have P:=h.parts hW 0 0 fun b hb=>.inl (by rw[hb];exact h.l0);have q6:=P.set aa aa;obtain⟨f1,f2,f3⟩:=h.gT;refine⟨hF,hr.congr fun j hj=>?_,h.own,P.build aa aa,P.files aa aa,⟨⟨0,aU _,aj,.inl ⟨rfl,rfl⟩⟩,iP⟩,P.cX aa aa,P.reads aa aa,⟨q6.blk,q6.own,q6.res,q6.cl,q6.gT,q6.jS⟩,h.l0,h.l1,h.l2,(fun b hb=>by cases hb),h.l4,h.l5,h.l6,aj,f2,f3⟩;rcases ni hj with rfl|rfl|rfl|rfl|rfl|rfl|rfl|rfl|rfl|rfl|rfl|rfl|rfl<;>rfl
theorem bm.WG(h:bm o w K s lk lab)(hW:bA (·=K.B.bb) o w o' w'){fd':Option (Nat×cY)}(hB:fL o' w' K.B fd' s.old){mid:Nat}(hm:∀b,nB K.B fd' s.old b->b<mid)(uG:K.B.bb<w.heap.size)(hx:∀b,nB K.B fd' s.old b->nB K.B s.fd s.old b\/w.heap.size<=b):
  ∃lab',bm o' w' K {s with fd:=fd'} lk lab'/\cN o w lab o' w' lab'/\∀b,w.heap.size<=b->mid<=b->lab' b=4:=by
 have xk:∀b,b=K.B.bb->lab b=1:=fun b hb=>(h.l1 b (.inl hb)).trans (if_neg (by have:=h.build.apart.2.2.2.2.1;omega));have P:=h.parts hW 1 1 fun b hb=>.inl (xk b hb);obtain⟨a1,a2,a3,a4⟩:=h.all;have lb:∀b,o b->(if w.heap.size<=b then(if mid<=b then 4 else 1) else lab b)=lab b:=fun b hb=>if_neg (by have:=h.aF.lt hb;omega);have q6:=P.set aa aa;refine⟨fun b=>if w.heap.size<=b then(if mid<=b then 4 else 1) else lab b,⟨hW.aF,P.row aa aa,hW.more _ h.own,hB,P.files aa aa,P.queue aa aa,P.cX aa aa,P.reads aa aa,⟨q6.blk,q6.own,q6.res,q6.cl,q6.gT,q6.jS⟩,(lb _ h.own).trans h.l0,fun b hb=>?_,fun b hb=>(lb b ?_).trans (h.l2 b hb),fun b hb=>(lb b (a1 b hb)).trans (h.l3 b hb),fun b hb=>(lb b (a2 b hb)).trans (h.l4 b hb),fun b hb=>(lb b (a3 b hb)).trans (h.l5 b hb),fun b hb=>(lb b (a4 b hb)).trans (h.l6 b hb),h.gT⟩,⟨hW.mono fun b hb=>by rw[xk b hb];omega,fun b hb=>if_neg aa⟩,fun b h1 h2=>by simp[h1,h2]⟩
 ·have:=hm b hb;rcases hx b hb with q|q
  ·exact(lb b (h.build.own b q)).trans (h.l1 b q)
  ·have h4:=h.build.apart.2.2.2.2.1;rw[if_pos q,if_neg aa];exact(if_neg aa).symm
 ·rcases hb with rfl|rfl|rfl
  ·exact h.files.own.1
  ·exact h.files.own.2.1
  ·exact h.files.own.2.2
theorem bm.started(h:bm o w K s lk lab){MI:Value}{aaq:List af}(hF:bM au L0 o w')(hO:eI K.kb w w')(hr:w'.rowIs K.kb 120 13 (sk K {s.stand 2 0 with sv:=MI,src:=aaq} lk))(ht:Rc o w MI aaq)(hl:∀b,MI.ownBlock=some b->lab b=4):bm o w' K {s.stand 2 0 with sv:=MI,src:=aaq} lk lab:=by
 have hW:bA (·=K.kb) o w o w':=bA.dG hF hO rfl;have P:=h.parts hW 0 0 fun b hb=>.inl (by rw[hb];exact h.l0);have q6:=P.set aa aa;obtain⟨f1,f2,f3,f4,f5,f6⟩:=h.gT;exact⟨hF,hr,h.own,P.build aa aa,P.files aa aa,P.queue aa aa,ht.keep (fun _ q=>q) (fun g hg=>hO.2 g fun e=>by have:=hl g hg;rw[e,h.l0] at this;omega),Oe,⟨q6.blk,q6.own,q6.res,q6.cl,q6.gT,q6.jS⟩,h.l0,h.l1,h.l2,h.l3,hl,(fun b hb=>by cases hb),h.l6,f1,f2,f3,aU _,aU _,aU _⟩
theorem J7{B:vk}{fd:Option (Nat×cY)}{old:Nat->Option (Nat×List V)}(h:fL o w B fd old):(fh B.NM B.rs).length<=1000:=by
 have q1:=uF (lD (B.rs.map (·.out)) (DN B.NM B.rs) B.rs.length);have q2:=oM (B.rs.map (·.out)) (DN B.NM B.rs) B.rs.length (fun i hi=>by rw[nf hi];exact h.right.four _ (aG hi)) B.rs.length (ag _);have q3:=h.rules.gT;have:(fh B.NM B.rs).length<=(lD (B.rs.map (·.out)) (DN B.NM B.rs) B.rs.length).length:=q1;omega
theorem MJ{B:vk}{fd:Option (Nat×cY)}{old:Nat->Option (Nat×List V)}{lo n:Nat}{F:cY}(h:fL o w B (some (lo,F)) old)(hf:fd=some (lo,F)\/fd=none/\lo=n):∀b,nB B (some (lo,F)) old b->nB B fd old b\/n<=b:=fun b hb=>by
 rcases hf with rfl|⟨rfl,rfl⟩
 ·exact .inl hb
 ·rcases hb with q|q|q|q|q|⟨Tu,F',e,q⟩|q
  ·exact .inl (.inl q)
  ·exact .inl (.inr (.inl q))
  ·exact .inl (.inr (.inr (.inl q)))
  ·exact .inl (.inr (.inr (.inr (.inl q))))
  ·exact .inl (.inr (.inr (.inr (.inr (.inl q)))))
  ·cases e;obtain⟨y0,y1,y2,-,hp⟩:=h.blk;exact .inr ((hp _ _ rfl).ge q)
  ·exact .inl (.inr (.inr (.inr (.inr (.inr (.inr q))))))
theorem ig.tat{lo:Nat}{ts:List af}{v:Value}(h:ig lo ts v w)(hc:Cl au L0 o v)(hg:∀g l c,v=.slice (some ⟨g,0,none⟩) l c->o g)(hl:ts.length<=1000):Rc o w v ts:=by
 refine⟨?_,hc,hl⟩;rcases h.own with⟨e,e2⟩|⟨g,cap,e,g1,g2,g3⟩
 ·exact⟨none,0,0,by rw[e2];exact e,fun _=>e2,fun q=>absurd e2 q,fun i hi=>by rw[e2] at hi;simp at hi⟩
 ·exact⟨_,g,cap,e,(fun q=>by cases q),fun _=>⟨rfl,hg g _ _ e⟩,g3⟩
def G0(K:pz)(s s':gQ)(v:Value):Prop :=
 ((0<s.qn.length\/s.lost=true)/\v=did 1 aO/\s'=gQ.stand {s with qv:=.slice none 0 0,qn:=[],lost:=false} 1 s.time) \/
 (¬(0<s.qn.length\/s.lost=true)/\(s.phase=1/\s.since+5<=s.time)/\v=did 2 aO/\∃lo F MI,s'={s.stand 2 0 with fd:=some (lo,F),sv:=MI,src:=fh K.B.NM K.B.rs}) \/
 (¬(0<s.qn.length\/s.lost=true)/\¬(s.phase=1/\s.since+5<=s.time)/\v=did 0 aO/\s'=s)
theorem aar(h:bm o w K s lk lab):
  bz au (XB au Fin 0) 65 #[.pointer (some ⟨K.kb,0,none⟩)] o w fun v o' w'=>∃s' lab',G0 K s s' v/\bm o' w' K s' lk lab'/\cN o w lab o' w' lab':=by
 have W:=bV (P:=au) (Fin:=Fin) (d:=0);refine eA W func65 ar ?_;walk_nrmf Tryz.f65;refine ax ?_;refine dt bQ h.aF rfl ar ar mW rfl (R:=fun wl v aV=>v=.pointer (some ⟨wl.heap.size,0,none⟩)/\aV=wl.alloc (Obj.cells #[.int .i64 0,.string aO] 32)) (fun wl aT=>⟨_,_,by simp[go_sem];rfl,rfl,rfl⟩) fun wl v1 aV w1 aT hR bN=>?_;obtain⟨rfl,hR⟩:=hR;obtain⟨z1,k1,tF⟩:=bN.alloc h.aF aT hR;have lv:=bN.aF;rw[aT.size];clear hR bN aT wl aV;obtain⟨dp,h1,yJ,qA,wR,tA⟩:=h.opened lv z1 k1;generalize grow o w w1=o1 at *;obtain⟨p,b,c,hqv,-,-,-,-⟩:=h1.queue.view h1.aF;have c4:w1.cell? ⟨K.kb,4,none⟩=some (.slice p s.qn.length c):=by rw[h1.row.cell aa];exact congrArg some hqv
 have c5:w1.cell? ⟨K.kb,5,none⟩=some (.bool s.lost):=by rw[h1.row.cell aa];rfl
 have c6:w1.cell? ⟨K.kb,6,none⟩=some (.int .i64 s.time):=by rw[h1.row.cell aa];rfl
 have c7:w1.cell? ⟨K.kb,7,none⟩=some (.int .i64 s.phase):=by rw[h1.row.cell aa];rfl
 have c8:w1.cell? ⟨K.kb,8,none⟩=some (.int .i64 s.since):=by rw[h1.row.cell aa];rfl
 have TO:=h1.aF.lt h1.own;have S11:cN o1 w1 dp o1 w1 dp:=.of (ex:=fun _=>False) (bA.refl h1.aF) fun b hb=>hb.elim;have dH:w.heap.size≠K.kb:=fun e=>by have:=h1.l0;rw[<- e,qA] at this;omega
 refine ax ?_;refine cd func103 (Wx h1.aF K.kb 4 s.qn.length c p s.lost h1.own c4 c5) ?_;rintro v0 o2 w2 ⟨rfl,rfl,rfl⟩;refine ax ?_;refine gX W (t:=decide (0<s.qn.length)||s.lost) aH ?_;by_cases hq:0<s.qn.length\/s.lost=true
 ·rw[if_pos (by simpa using hq)];refine ax ?_;refine cd func104 (Wy h1.aF K.kb 4 120 13 _ h1.own h1.row aa) ?_;rintro v0 o2' w3 ⟨rfl,rfl,px,J0,air⟩;have h3:=h1.WE px J0 air;have S3:cN o2' w2 dp o2' w3 dp:=.of (bA.dG (ex:=(·=K.kb)) px J0 rfl) fun b hb=>by rw[hb,h1.l0];omega
  refine ax ?_;refine cd func102 (TM h3) ?_;rintro v0 o4 w4 ⟨rfl,S4,h4⟩;have S34:=S3.trans S4;have yG:=(S34.br.same w.heap.size aa (by rw[qA];omega)).trans tF;have tC:=S34.br.more _ wR;refine ax ?_;refine mr 1 aO h4.aF tC yG fun wA AA zS sQ=>?_;obtain⟨hA,SA⟩:=h4.did tA yJ S34 qA AA zS;refine ax ?_;have c9:∀n,(wA.at n).cell? ⟨w.heap.size,0,none⟩=some (.int .i64 1)/\(wA.at n).cell? ⟨w.heap.size,1,none⟩=some (.string aO):=fun n=>⟨(dO sQ).1,(dO sQ).2.1⟩;refine⟨.inr trivial,trivial,.agg #[.int .i64 1,.string aO],wS (fun n=>?_) (fun n e he=>?_),_,dp,.inl ⟨hq,rfl,rfl⟩,hA,SA⟩
  ·obtain⟨c0,c1⟩:=c9 n;simp[results,results65,go_sem,c0,c1]
  ·obtain⟨c0,c1⟩:=c9 n;simp[results,results65,go_sem,c0,c1] at he;rcases he with rfl|rfl;all_goals exact⟨_,_,_,rfl,tC⟩
 rw[if_neg (by simpa using hq)];refine ax ?_;obtain⟨-,-,f3,f4,-⟩:=h1.gT;by_cases hp:s.phase=1
 ·have hpi:((s.phase:Int)==1)=true:=by simp[hp]
  have uW:IntKind.i64.wrap ((s.time:Int)-s.since)=(s.time:Int)-s.since:=by rw[IntKind.wrap_i64]<;>omega
  refine dQ mixed ah [some none,some none,some none,some none,some (some (.int .i64 s.phase)),some none,some none,some none,some none,some none,some (some (.int .i64 s.time)),some none,some none,some none,some none,some (some (.int .i64 s.since)),some none,some none,some none]
   (S:=fun σ o' w'=>o2=o'/\w2=w') ⟨rfl,rfl⟩ fun v=>?_
  refine dP ?_;refine cC ?_;refine cm bQ rfl rfl rfl ar ar (fun σ o' w' H hS=>?_) ?_
  ·obtain⟨rfl,rfl⟩:=hS;exact tE h1.aF h1.own c7
  walk_nrm;refine re (y:=.bool true) rfl rfl rfl ar (fun w1=>by simp[go_sem,Act.eval,hpi]) (fun w1=>by simp[go_sem,Act.eval]) ?_;refine cC ?_;refine cm bQ rfl rfl rfl ar ar (fun σ o' w' H hS=>?_) ?_
  ·obtain⟨rfl,rfl⟩:=hS;exact tE h1.aF h1.own c6
  refine cC ?_;refine cm bQ rfl rfl rfl ar ar (fun σ o' w' H hS=>?_) ?_
  ·obtain⟨rfl,rfl⟩:=hS;exact tE h1.aF h1.own c8
  refine cC ?_;refine cB fun σ o3 w3 mn hS=>?_;obtain⟨rfl,rfl⟩:=hS;clear mn;simp only[iH,dI,if_true,if_false,reduceIte,Nat.reduceEqDiff];refine gX W (t:=decide (s.since+5<=s.time)) (by simp[Act.eval,uW];omega) ?_;by_cases ht:s.since+5<=s.time
  ·rw[if_pos (cU ht)];have c2:w2.cell? ⟨K.kb,2,none⟩=some (.pointer (some ⟨K.B.bb,0,none⟩)):=by rw[h1.row.cell aa];rfl
   refine ax ?_;refine lh h1.aF h1.own c2 fun _=>?_;refine ax ?_;refine cd func44 (Fx h1.aF K.B s.fd s.old h1.build) ?_;rintro v3 o3 w3 ⟨W3,⟨lo,F,mid,hB,DO,Lx,hm,hmv⟩,aeb,ht3,hg3⟩;obtain⟨kL,h3,S3,L3⟩:=h1.WG W3 hB hm (h1.aF.lt (h1.build.own _ (.inl rfl))) (MJ hB DO);obtain⟨p3,l3,c3,rfl⟩:=uJ ht3;have tat:=ht3.tat aeb hg3 (J7 hB);have Bp:kL w.heap.size=7:=(S3.lab _ aa).trans qA;have sB:=(S3.br.same w.heap.size aa (by rw[qA];omega)).trans tF;have vf:=S3.br.more _ wR;refine ax ?_;refine du bQ h3.aF rfl ar ar ?_ rfl (R:=fun wl aV=>aV=((((wl.setCell ⟨K.kb,7,none⟩ (.int .i64 (2:Nat))).setCell ⟨K.kb,8,none⟩ (.int .i64 (0:Nat))).setCell ⟨K.kb,9,none⟩ (.slice p3 l3 c3)).setCell ⟨K.kb,10,none⟩ (.slice none 0 0)).setCell ⟨K.kb,11,none⟩ (.int .i64 0)) (fun wl aT=>⟨_,?_,rfl⟩) fun wl aV w9 aT hR bN=>?_
   ·refine iV ?_ ?_
    ·exact bU h3.own
    ·exact fS (vs:=[_,_,_,_,_]) (fun x hx=>by
      simp at hx;rcases hx with rfl|rfl|rfl|rfl|rfl
      ·exact dS
      ·exact dS
      ·exact aeb
      ·exact iP
      ·exact dS)
   ·have rl:=World.rowIs.of_block h3.row (aT.heap _ h3.own);have e7:=rl.cell (i:=7) aa;have e8:=rl.cell (i:=8) aa;have e9:=rl.cell (i:=9) aa;have XG:=rl.cell (i:=10) aa;have Rv:=rl.cell (i:=11) aa;have f:=rl.frozen;simp[go_sem,e7,e8,e9,XG,Rv,f]
   have hO:eI K.kb wl aV:=by rw[hR];exact TL _ _ _ _ _ _ _ _ _ _ _ _
   obtain⟨lO,oe,e9⟩:=bN.only aT h3.own hO;have ml:=bN.aF;rw[e9] at ml |-;rw[hR] at oe;have h9:=h3.started ml lO ((World.rowIs.of_block ((((((World.rowIs.of_block h3.row (aT.heap _ h3.own)).set 7 _).set 8 _).set 9 _).set 10 _).set 11 _) oe).congr fun j hj=>by
    rcases ni hj with rfl|rfl|rfl|rfl|rfl|rfl|rfl|rfl|rfl|rfl|rfl|rfl|rfl<;>rfl) tat (fun b hb=>L3 b (by have:=hmv b hb;omega) (hmv b hb))
   have S9:=S3.trans (.of (bA.dG (ex:=(·=K.kb)) ml lO rfl) fun b hb=>by rw[hb,h3.l0];omega);have kbA:=(lO.2 _ dH).trans sB;clear hR bN aT hO oe wl aV e9;refine ax ?_;refine mr 2 aO h9.aF vf kbA fun wA AA zS sQ=>?_;obtain⟨hA,SA⟩:=h9.did tA yJ S9 Bp AA zS;refine ax ?_;have c9:∀n,(wA.at n).cell? ⟨w.heap.size,0,none⟩=some (.int .i64 2)/\(wA.at n).cell? ⟨w.heap.size,1,none⟩=some (.string aO):=fun n=>⟨(dO sQ).1,(dO sQ).2.1⟩;refine⟨.inr trivial,trivial,.agg #[.int .i64 2,.string aO],wS (fun n=>?_) (fun n e he=>?_),_,kL,.inr (.inl ⟨hq,⟨hp,ht⟩,rfl,lo,F,_,rfl⟩),hA,SA⟩
   ·obtain⟨c0,c1⟩:=c9 n;simp[results,results65,go_sem,c0,c1]
   ·obtain⟨c0,c1⟩:=c9 n;simp[results,results65,go_sem,c0,c1] at he;rcases he with rfl|rfl;all_goals exact⟨_,_,_,rfl,vf⟩
  ·rw[if_neg (by simpa using ht)];refine ax ?_;refine mr 0 aO h1.aF wR tF fun wA AA zS sQ=>?_;obtain⟨hA,SA⟩:=h1.did tA yJ S11 qA AA zS;refine ax ?_;have c9:∀n,(wA.at n).cell? ⟨w.heap.size,0,none⟩=some (.int .i64 0)/\(wA.at n).cell? ⟨w.heap.size,1,none⟩=some (.string aO):=fun n=>⟨(dO sQ).1,(dO sQ).2.1⟩;refine⟨.inr trivial,trivial,.agg #[.int .i64 0,.string aO],wS (fun n=>?_) (fun n e he=>?_),_,dp,.inr (.inr ⟨hq,fun q=>ht q.2,rfl,rfl⟩),hA,SA⟩
   ·obtain⟨c0,c1⟩:=c9 n;simp[results,results65,go_sem,c0,c1]
   ·obtain⟨c0,c1⟩:=c9 n;simp[results,results65,go_sem,c0,c1] at he;rcases he with rfl|rfl;all_goals exact⟨_,_,_,rfl,wR⟩
 ·have hpi:((s.phase:Int)==1)=false:=dV;refine dQ mixed ah [some none,some none,some none,some none,some (some (.int .i64 s.phase)),some none,some none,some (some undef),some (some undef),some (some undef),some (some undef),some (some undef),some (some undef),some (some undef),some (some undef),some (some undef),some (some undef),some (some undef),some none]
   (S:=fun σ o' w'=>o2=o'/\w2=w') ⟨rfl,rfl⟩ fun v=>?_
  refine dP ?_;refine cC ?_;refine cm bQ rfl rfl rfl ar ar (fun σ o' w' H hS=>?_) ?_
  ·obtain⟨rfl,rfl⟩:=hS;exact tE h1.aF h1.own c7
  walk_nrm;refine re (y:=.bool false) rfl rfl rfl ar (fun w1=>by simp[go_sem,Act.eval,hpi]) (fun w1=>by simp[go_sem,Act.eval]) ?_;refine cC ?_
  iterate 11 (refine Zy rfl rfl ar ?_;walk_nrm)
  refine cC ?_;refine cB fun σ o3 w3 mn hS=>?_;obtain⟨rfl,rfl⟩:=hS;clear mn;simp only[iH,dI,if_true,if_false,reduceIte,Nat.reduceEqDiff];refine gX W (t:=false) aH ?_;refine ax ?_;refine mr 0 aO h1.aF wR tF fun wA AA zS sQ=>?_;obtain⟨hA,SA⟩:=h1.did tA yJ S11 qA AA zS;refine ax ?_;have c9:∀n,(wA.at n).cell? ⟨w.heap.size,0,none⟩=some (.int .i64 0)/\(wA.at n).cell? ⟨w.heap.size,1,none⟩=some (.string aO):=fun n=>⟨(dO sQ).1,(dO sQ).2.1⟩;refine⟨.inr trivial,trivial,.agg #[.int .i64 0,.string aO],wS (fun n=>?_) (fun n e he=>?_),_,dp,.inr (.inr ⟨hq,fun q=>hp q.1,rfl,rfl⟩),hA,SA⟩
  ·obtain⟨c0,c1⟩:=c9 n;simp[results,results65,go_sem,c0,c1]
  ·obtain⟨c0,c1⟩:=c9 n;simp[results,results65,go_sem,c0,c1] at he;rcases he with rfl|rfl;all_goals exact⟨_,_,_,rfl,wR⟩
theorem xf{Post:Value->aM->ae->Prop}{A:Nat}{n:Int}{x:af}(h:bm o w K s 1 lab)(hb:w.heap[A]?=some (.cells #[.int .i64 n,.string x] 32))(dH:A≠K.kb)(hA:o A)(tm:Array Value)(ht:tm.getD 2 undef=.pointer (some ⟨A,0,none⟩))(hp:∀w',bm o w' K s 0 lab->eI K.kb w w'->Post (did n x) o w'):
  jK (XB au Fin 0) 38 Post ⟨tm,[{target:=.fn (.func 46) #[],args:=#[.pointer (some ⟨K.kb,0,none⟩)]}]⟩ o w:=by
 have W:=bV (P:=au) (Fin:=Fin) (d:=0);refine h.unlock tm fun w' hk hz hs=>LU W func38 rfl (wS (fun n=>?_) (fun n e he=>?_)) (hp w' hk ⟨hz,hs⟩)
 ·have kb:=(hs A dH).trans hb;have c0:(w'.at n).cell? ⟨A,0,none⟩=_:=(dO kb).1;have c1:(w'.at n).cell? ⟨A,1,none⟩=_:=(dO kb).2.1;simp at ht;simp[results,results38,go_sem,ht,c0,c1,did]
 ·have kb:=(hs A dH).trans hb;have c0:(w'.at n).cell? ⟨A,0,none⟩=_:=(dO kb).1;have c1:(w'.at n).cell? ⟨A,1,none⟩=_:=(dO kb).2.1;simp at ht;simp[results,results38,go_sem,ht,c0,c1] at he;rcases he with rfl|rfl;all_goals exact⟨_,_,_,rfl,hA⟩
theorem G0.shape{s':gQ}{v:Value}(h:G0 K s s' v):∃n x,v=did n x:=by
 rcases h with⟨-,e,-⟩|⟨-,-,e,-⟩|⟨-,-,e,-⟩
 ·exact⟨_,_,e⟩
 ·exact⟨_,_,e⟩
 ·exact⟨_,_,e⟩
theorem GZ.shape{s':gQ}{F:cY}{file:af->V}{v:Value}(h:GZ K s s' F file v):∃n x,v=did n x:=by
 rcases h with⟨-,e⟩|⟨_,e,-⟩
 ·exact e.shape
 ·exact⟨_,_,e⟩
def jU(K:pz)(s s':gQ)(F:cY)(file:af->V)(v:Value):Prop :=
 (s.phase=2/\GZ K s s' F file v)\/(s.phase=3/\Checked K s s' F file v)\/(s.phase≠2/\s.phase≠3/\G0 K s s' v)
theorem aas[Payload](h:bm o w K s 0 lab)(lo:Nat)(F:cY)(file:af->V)(py:∀x,(file x).2.size<=100)(DO:s.phase=2\/s.phase=3->s.fd=some (lo,F))(h2r:s.phase=2->s.rd.length=s.src.length->s.rd.map (·.1)=(fh K.B.NM K.B.rs).map file)(h3r:s.phase=3->s.rd.length=s.src.length/\s.rd.map (·.1)=(fh K.B.NM K.B.rs).map file):
  bz au (XB au Fin 0) 38 #[.pointer (some ⟨K.kb,0,none⟩)] o w fun v o' w'=>∃s' lab',jU K s s' F file v/\bm o' w' K s' 0 lab'/\cN o w lab o' w' lab':=by
 have W:=bV (P:=au) (Fin:=Fin) (d:=0);refine oH W func38 ar ?_;walk_nrmf Tryz.f38;refine ax ?_;refine dt bQ h.aF rfl ar ar mW rfl (R:=fun wl v aV=>v=.pointer (some ⟨wl.heap.size,0,none⟩)/\aV=wl.alloc (Obj.cells #[.int .i64 0,.string aO] 32)) (fun wl aT=>⟨_,_,by simp[go_sem];rfl,rfl,rfl⟩) fun wl v1 aV w1 aT hR bN=>?_;obtain⟨rfl,hR⟩:=hR;obtain⟨z1,k1,tF⟩:=bN.alloc h.aF aT hR;have lv:=bN.aF;rw[aT.size];clear hR bN aT wl aV;obtain⟨dp,h1,yJ,qA,wR,tA⟩:=h.opened lv z1 k1;generalize grow o w w1=o1 at *;have dH:w.heap.size≠K.kb:=fun e=>by have:=h1.l0;rw[<- e,qA] at this;omega
 refine ax ?_;refine cd func45 (CO K.kb 0 h1.own (by rw[h1.row.cell aa];rfl) (h1.row.frozen 0)) ?_;rintro v0 o0 w0 ⟨rfl,rfl,rfl⟩;have h2:=h1.lock (lk':=1);have S2:=cN.lock h1 (lk':=1);have Ys:=iZ w1 K.kb 0 (.int .i32 1);generalize w1.setCell ⟨K.kb,0,none⟩ (.int .i32 1)=w2 at h2 Ys S2 |-;have Og:=(Ys.2 _ dH).trans tF;refine ax ?_;refine mh W (d:={target:=.fn (.func 46) #[],args:=#[.pointer (some ⟨K.kb,0,none⟩)]}) rfl ar (fun w1=>fP) (fun w1=>fP) rfl ?_;walk_nrm;have c7:w2.cell? ⟨K.kb,7,none⟩=some (.int .i64 s.phase):=by rw[h2.row.cell aa];rfl
 refine ax ?_;refine lh h2.aF h2.own c7 fun _=>?_;refine ax ?_;refine gX W (t:=decide (s.phase=2)) (by simp[Act.eval];rw[dK];simp;omega) ?_;by_cases p2:s.phase=2
 ·rw[if_pos (cU p2)];refine ax ?_;refine cd func63 (MH h2 lo F (DO (.inl p2)) file py (h2r p2)) ?_;rintro v0 o4 w4 ⟨s',su,vC,h4,S4⟩;have Hy:su w.heap.size=7:=(S4.lab _ (by rw[Ys.1];omega)).trans qA;have yG:=(S4.br.same w.heap.size (by rw[Ys.1];omega) (by rw[qA];omega)).trans Og;have tC:=S4.br.more _ wR;have S94:=S2.trans S4;obtain⟨dn,dx,rfl⟩:=vC.shape;unfold did at vC |-;walk_nrm;refine mr dn dx h4.aF tC yG fun wA AA zS sQ=>?_;obtain⟨hA,SA⟩:=h4.did tA yJ S94 Hy AA zS;refine ax ?_;exact⟨.inr trivial,xf hA sQ dH tC _ rfl fun w' hk on=>⟨s',_,.inl ⟨p2,vC⟩,hk,SA.trans (.of (bA.dG (ex:=(·=K.kb)) hk.aF on rfl) fun b hb=>by rw[hb,hA.l0];omega)⟩⟩
 rw[if_neg (by simpa using p2)];refine ax ?_;refine gX W (t:=decide (s.phase=3)) (by simp[Act.eval];rw[dK];simp;omega) ?_;by_cases p3:s.phase=3
 ·rw[if_pos (cU p3)];refine ax ?_;refine cd func64 (AB h2 (h3r p3).1 lo F (DO (.inr p3)) file py (h3r p3).2) ?_;rintro v0 o4 w4 ⟨s',su,vC,h4,S4⟩;have Hy:su w.heap.size=7:=(S4.lab _ (by rw[Ys.1];omega)).trans qA;have yG:=(S4.br.same w.heap.size (by rw[Ys.1];omega) (by rw[qA];omega)).trans Og;have tC:=S4.br.more _ wR;have S94:=S2.trans S4;obtain⟨dn,dx,rfl⟩:=vC.shape;unfold did at vC |-;walk_nrm;refine mr dn dx h4.aF tC yG fun wA AA zS sQ=>?_;obtain⟨hA,SA⟩:=h4.did tA yJ S94 Hy AA zS;refine ax ?_;exact⟨.inr trivial,xf hA sQ dH tC _ rfl fun w' hk on=>⟨s',_,.inr (.inl ⟨p3,vC⟩),hk,SA.trans (.of (bA.dG (ex:=(·=K.kb)) hk.aF on rfl) fun b hb=>by rw[hb,hA.l0];omega)⟩⟩
 rw[if_neg (by simpa using p3)];refine ax ?_;refine cd func65 (aar h2) ?_;rintro v0 o4 w4 ⟨s',su,vC,h4,S4⟩;have Hy:su w.heap.size=7:=(S4.lab _ (by rw[Ys.1];omega)).trans qA;have yG:=(S4.br.same w.heap.size (by rw[Ys.1];omega) (by rw[qA];omega)).trans Og;have tC:=S4.br.more _ wR;have S94:=S2.trans S4;obtain⟨dn,dx,rfl⟩:=vC.shape;unfold did at vC |-;walk_nrm;refine mr dn dx h4.aF tC yG fun wA AA zS sQ=>?_;obtain⟨hA,SA⟩:=h4.did tA yJ S94 Hy AA zS;refine ax ?_;exact⟨.inr trivial,xf hA sQ dH tC _ rfl fun w' hk on=>⟨s',_,.inr (.inr ⟨p2,p3,vC⟩),hk,SA.trans (.of (bA.dG (ex:=(·=K.kb)) hk.aF on rfl) fun b hb=>by rw[hb,hA.l0];omega)⟩⟩
end
section
variable {Fin:bK} {o o' o1 o2:aM} {w w' w1 w2:ae} {K:pz} {s:gQ} {lk:Int} {lab fR:Nat->Nat}
theorem cN.beside{A:Nat}(S:cN o w lab o2 w2 fR)(hW:bA (fun b=>b=A) o2 w2 o' w')(hA:w.heap.size<=A):cN o w lab o' w' fR:=by
 have hz:=S.br.size;have Ti:=hW.size;exact⟨⟨hW.aF,fun b hb=>hW.more b (S.br.more b hb),fun b hb=>(hW.new b hb).elim (fun q=>S.br.new b q) fun q=>.inr aa,aa,fun b hb hx=>(hW.same b aa aa).trans (S.br.same b hb hx)⟩,S.lab⟩
end
section
variable {Fin:bK} {o o' o2 o3:aM} {w w' w2 w3:ae} {K:pz} {s:gQ} {lk:Int} {lab fR:Nat->Nat}
theorem cN.refl(hF:bM au L0 o w):cN o w lab o w lab:=⟨bA.refl hF,fun _ _=>rfl⟩
theorem bm.grown(h:bm o2 w2 K s lk fR)(S:cN o w lab o2 w2 fR)(hW:bA (fun _=>False) o2 w2 o3 w3):∃kL,bm o3 w3 K s lk kL/\cN o w lab o3 w3 kL/\(∀b,b<w2.heap.size->kL b=fR b)/\∀b,w2.heap.size<=b->kL b=7:=by
 have hl:∀b,b<w2.heap.size->(if b<w2.heap.size then fR b else 7)=fR b:=fun b hb=>if_pos hb;refine⟨fun b=>if b<w2.heap.size then fR b else 7,((h.J3 fun b hb=>hl b (h.aF.lt hb)).yI hW).1,S.trans ⟨hW.mono fun b hb=>hb.elim,hl⟩,hl,fun b hb=>if_neg aa⟩
theorem bm.wrote{A:Nat}(h:bm o2 w2 K s lk fR)(S:cN o w lab o2 w2 fR)(hl:fR A=7)(hA:w.heap.size<=A)(hF:bM au L0 o2 w3)(on:eI A w2 w3):bm o2 w3 K s lk fR/\cN o w lab o2 w3 fR :=
 ⟨h.aside (ex:=fun b=>b=A) (bA.dG hF on rfl) fun b hb=>by rw[hb];exact hl,S.beside (bA.dG hF on rfl) hA⟩
theorem bA.qx(hF:bM au L0 (grow o w w') w')(z:w'.heap.size=w.heap.size+1)(k:∀b,b<w.heap.size->w'.heap[b]?=w.heap[b]?):bA (fun _=>False) o w (grow o w w') w'/\grow o w w' w.heap.size :=
 ⟨⟨hF,jk,fun b hb=>hb.imp id fun q=>q.1,aa,fun b hb _=>k b hb⟩,.inr ⟨ag _,aa⟩⟩
end
section
open Go.RowKit
theorem MK:(au.info? 65).map (fun i=>(i.zero,i.size,i.bytes))=some (some (.agg #[.string aO,.string aO,.bool false]),3,40):=ah
theorem G1(b c n:Nat)(p:Option Addr)(xs:List Value)(w:ae)(hl:xs.length=n*3)(hn:n<=1000)(hp:p=none->n=0)(hq:n≠0->p=some ⟨b,0,none⟩)(hx:∀j u,xs[j]?=some u->w.cell? ⟨b,j,none⟩=some u)(h1:∀u∈xs,u.oneCell'=true):
  Calls au 50 #[.slice p n c] w fun e w'=>∃v,e=.returned v/\w'.ownsRow w.heap.size 65 3 v n xs/\Below w.heap.size w w'/\w.heap.size<=w'.heap.size:=by
 have q24:∀(w:ae) (a:Option Addr) (n c n' c':Nat),(binOp .eql 46 (.slice a n c) (.slice none n' c')).run au w=.ok (.bool a.isNone) w:=fun w a n c n' c'=>Lib.run_eql_slice_nil w _ _ a n c n' c' underlying46;go_enter func50,ntmps50;cases p with
 |none =>
  have KI:=hp rfl;subst KI;have Hr:xs=[]:=List.length_eq_zero_iff.1 aa;subst Hr;go_wp2;go_ret;exact⟨_,rfl,⟨aj,.inl ⟨rfl,rfl⟩⟩,Below.refl _ _,ag _⟩
 |some a =>
  obtain⟨i,hi,od⟩:=Option.map_eq_some_iff.1 MK;simp only[bt] at od;have fq:(w.alloc (.cells #[] 65)).ownsRow w.heap.size 65 3 (.slice (some ⟨w.heap.size,0,none⟩) 0 0) 0 []:=⟨aj,.inr ⟨w.heap.size,0,#[],rfl,ag _,jR w _,ag _,by simp[maxLen],aj,aj⟩⟩;have mf:∀j u,xs[j]?=some u->(w.alloc (.cells #[] 65)).cell? (a.add j)=some u:=fun j u hu=>by
   have KI:n≠0:=fun e=>by
    subst e;have Hr:xs=[]:=List.length_eq_zero_iff.1 aa;subst Hr;simp at hu
   have ha:=hq KI;cases ha;have hc:=hx j u hu;have hb:b<w.heap.size:=aZ fun q=>by
    simp[World.cell?,Array.getElem?_eq_none (Nat.le_of_not_lt q)] at hc
   have:(⟨b,0,none⟩:Addr).add j=⟨b,j,none⟩:=by simp[Addr.add];omega
   rw[this,((Below.refl w.heap.size w).alloc (ag _) _).cell (p:=⟨b,j,none⟩) hb];exact hc
  obtain⟨v',W',e1,e2,e3,_⟩:=run_append_own (P:=au) (w.alloc (.cells #[] 65)) w.heap.size 46 46 65 i _ 3 40 underlying46 hi od.1 od.2.1 od.2.2 rfl aa _ 0 [] fq a n c xs hl mf h1 (by simp[maxLen];omega) aa aj;have xn:=Below.grown ((Below.refl w.heap.size w).alloc (ag _) (.cells #[] 65)) e3 aj (fun k hk=>by cases hk;exact ag _);go_wp2_with (at_builtin;refine gm rfl _ _ 46 rfl rfl rfl e1 ?_);go_ret;exact⟨_,rfl,by simpa using e2,xn,xn.size⟩
theorem Er(b c n:Nat)(p:Option Addr)(xs:List Value)(w:ae)(hl:xs.length=n*3)(hn:n<=1000)(hp:p=none->n=0)(hq:n≠0->p=some ⟨b,0,none⟩)(hx:∀j u,xs[j]?=some u->w.cell? ⟨b,j,none⟩=some u)(h1:∀u∈xs,u.oneCell'=true):
  Calls au 71 #[.slice p n c] w fun e w'=>∃v,e=.returned v/\w'.ownsRow w.heap.size 42 3 v n xs/\Below w.heap.size w w'/\w.heap.size<=w'.heap.size:=by
 have q24:∀(w:ae) (a:Option Addr) (n c n' c':Nat),(binOp .eql 35 (.slice a n c) (.slice none n' c')).run au w=.ok (.bool a.isNone) w:=fun w a n c n' c'=>Lib.run_eql_slice_nil w _ _ a n c n' c' underlying35;go_enter func71,ntmps71;cases p with
 |none =>
  have KI:=hp rfl;subst KI;have Hr:xs=[]:=List.length_eq_zero_iff.1 aa;subst Hr;go_wp2;go_ret;exact⟨_,rfl,⟨aj,.inl ⟨rfl,rfl⟩⟩,Below.refl _ _,ag _⟩
 |some a =>
  obtain⟨i,hi,od⟩:=Option.map_eq_some_iff.1 CP;simp only[bt] at od;have fq:(w.alloc (.cells #[] 42)).ownsRow w.heap.size 42 3 (.slice (some ⟨w.heap.size,0,none⟩) 0 0) 0 []:=⟨aj,.inr ⟨w.heap.size,0,#[],rfl,ag _,jR w _,ag _,by simp[maxLen],aj,aj⟩⟩;have mf:∀j u,xs[j]?=some u->(w.alloc (.cells #[] 42)).cell? (a.add j)=some u:=fun j u hu=>by
   have KI:n≠0:=fun e=>by
    subst e;have Hr:xs=[]:=List.length_eq_zero_iff.1 aa;subst Hr;simp at hu
   have ha:=hq KI;cases ha;have hc:=hx j u hu;have hb:b<w.heap.size:=aZ fun q=>by
    simp[World.cell?,Array.getElem?_eq_none (Nat.le_of_not_lt q)] at hc
   have:(⟨b,0,none⟩:Addr).add j=⟨b,j,none⟩:=by simp[Addr.add];omega
   rw[this,((Below.refl w.heap.size w).alloc (ag _) _).cell (p:=⟨b,j,none⟩) hb];exact hc
  obtain⟨v',W',e1,e2,e3,_⟩:=run_append_own (P:=au) (w.alloc (.cells #[] 42)) w.heap.size 35 35 42 i _ 3 48 underlying35 hi od.1 od.2.1 od.2.2 rfl aa _ 0 [] fq a n c xs hl mf h1 (by simp[maxLen];omega) aa aj;have xn:=Below.grown ((Below.refl w.heap.size w).alloc (ag _) (.cells #[] 42)) e3 aj (fun k hk=>by cases hk;exact ag _);go_wp2_with (at_builtin;refine gm rfl _ _ 35 rfl rfl rfl e1 ?_);go_ret;exact⟨_,rfl,by simpa using e2,xn,xn.size⟩
end
section
variable {Fin:bK} {o o':aM} {w w':ae} {K:pz} {s:gQ} {lk:Int} {lab:Nat->Nat}
def aat(lo:Nat)(rs:List (af×V))(v:Value)(w':ae):Prop:=(v=.slice none 0 0/\rs=[])\/∃g cap,v=.slice (some ⟨g,0,none⟩) rs.length cap/\lo<=g/\g<w'.heap.size/\nC w' g rs
def gq(rs:List (af×V)):List Value:=(rs.map fun r=>[Value.string r.1,.string r.2.2,.bool (!r.2.1)]).flatten
theorem yK(rs:List (af×V)):(gq rs).length=rs.length*3:=by
 induction rs with
 |nil=>rfl
 |cons r rs ih =>
  have e:gq (r::rs)=.string r.1 :: .string r.2.2 :: .bool (!r.2.1)::gq rs:=by simp[gq]
  rw[e];simp[ih];omega
theorem sR:∀(rs:List (af×V)) (i:Nat) (h:i<rs.length),(gq rs)[i*3]?=some (.string rs[i].1)/\(gq rs)[i*3+1]?=some (.string rs[i].2.2)/\(gq rs)[i*3+2]?=some (.bool (!rs[i].2.1))
 |r::rs,0,h=>by simp[gq]
 |r::rs,i+1,h=>by
  have ih:=sR rs i (by simpa using h);have e:gq (r::rs)=.string r.1 :: .string r.2.2 :: .bool (!r.2.1)::gq rs:=by simp[gq]
  have e2:(i+1)*3=i*3+1+1+1:=aa;rw[e,e2];simpa using ih
theorem G6(rs:List (af×V)):∀u∈gq rs,u.oneCell'=true:=fun u hu=>by
 simp only[gq,List.mem_flatten,List.mem_map] at hu;obtain⟨l,⟨r,-,rfl⟩,hu⟩:=hu;simp at hu;rcases hu with rfl|rfl|rfl<;>rfl
theorem J8{b:Nat}{rs:List (af×V)}(h:nC w b rs):∀j u,(gq rs)[j]?=some u->w.cell? ⟨b,j,none⟩=some u:=fun j u hu=>by
 have hj:j<rs.length*3:=by
  rw[<- yK];exact(List.getElem?_eq_some_iff.1 hu).1
 have hi:j/3<rs.length:=aa;obtain⟨c0,c1,c2⟩:=sR rs (j/3) hi;obtain⟨d0,d1,d2⟩:=h (j/3) hi;have h3:j=j/3*3\/j=j/3*3+1\/j=j/3*3+2:=aa;generalize j/3=i at *;rcases h3 with rfl|rfl|rfl
 ·rw[c0] at hu;rw[d0];exact hu
 ·rw[c1] at hu;rw[d1];exact hu
 ·rw[c2] at hu;rw[d2];exact hu
theorem kn{w w':ae}{b:Nat}{rs:List (af×V)}(h:nC w b rs)(e:w'.heap[b]?=w.heap[b]?):nC w' b rs:=fun i hi=>⟨(cell_of e).trans (h i hi).1,(cell_of e).trans (h i hi).2.1,(cell_of e).trans (h i hi).2.2⟩
theorem ML(hF:bM au L0 o w)(v0:Value)(b c:Nat)(p:Option Addr)(rs:List (af×V))(OE:v0=.slice p rs.length c)(hn:rs.length<=1000)(hp:p=none->rs=[])(hq:rs≠[]->p=some ⟨b,0,none⟩/\o b)(ht:nC w b rs)(hc:Cl au L0 o v0):
  bz au (XB au Fin 0) 50 #[v0] o w fun v o' w'=>fT o w v o' w'/\aat w.heap.size rs v w':=by
 refine bz.mono (eD ah hF (fun x hx=>by simp at hx;subst hx;exact hc) (Q:=fun wl v w'=>w'.ownsRow wl.heap.size 65 3 v rs.length (gq rs)) (fun wl A1 v w1 w2 e1 e2 h=>?_) (fun wl hz aT=>?_)) (fun v o' w' hq=>?_)
 ·rw[e1];exact dD h fun g _ _=>by rw[e2]
 ·subst OE;refine(G1 b c rs.length p (gq rs) wl (yK rs) hn (fun e=>by rw[hp e];rfl) (fun dH=>(hq (fun e=>dH (by rw[e];rfl))).1) ?_ (G6 rs)).mono fun e w' hq=>?_
  ·by_cases dH:rs=[]
   ·subst dH;intro j u hu;simp[gq] at hu
   ·exact J8 (kn ht (aT b (hq dH).2))
  ·obtain⟨v,rfl,h1,h2,h3⟩:=hq;exact⟨_,rfl,h3,fun b hb=>h2.block b hb,h1⟩
 ·obtain⟨hN,wl,aV,z1,z2,hs,h3⟩:=hq;rw[z1] at h3;refine⟨hN,?_⟩;obtain⟨h4,h5⟩:=h3;rcases h5 with⟨e1,e2⟩|⟨g,cap,cur,rfl,q1,q2,q3,q4,q5,q6⟩
  ·refine .inl ⟨e1,?_⟩;cases rs with
   |nil=>rfl
   |cons r rs=>simp at e2
  ·have hg:g<aV.heap.size:=aZ fun q=>by
    rw[cG (de q)] at q2;cases q2
   refine .inr ⟨g,cap,rfl,q1,aa,fun i hi=>?_⟩;have hb:=hs g q1 aa;have own:aV.ownsRow w.heap.size 65 3 (.slice (some ⟨g,0,none⟩) rs.length cap) rs.length (gq rs):=⟨h4,.inr ⟨g,cap,cur,rfl,q1,q2,q3,q4,q5,q6⟩⟩;have hc:∀j u,(gq rs)[j]?=some u->aV.cell? ⟨g,j,none⟩=some u:=fun j u hu=>by
    have:=own.cells (g:=g) rfl j u hu;have ha:(⟨g,0,none⟩:Addr).add j=⟨g,j,none⟩:=by simp[Addr.add];omega
    rw[ha] at this;exact this
   obtain⟨c0,c1,c2⟩:=sR rs i hi;refine⟨(cell_of hb).trans ?_,(cell_of hb).trans ?_,(cell_of hb).trans ?_⟩
   ·exact hc _ _ c0
   ·exact hc _ _ c1
   ·exact hc _ _ c2
structure WH(s:gQ)(v:Value)(o':aM)(w':ae):Prop where
 ex:∃rv tv,v=.agg #[.int .i64 s.num,rv,tv]/\(∃p b c,rv=.slice p s.res.length c/\(s.res≠[]->p=some ⟨b,0,none⟩/\o' b)/\nC w' b s.res)/\Cl au L0 o' rv/\Rc o' w' tv s.jS
theorem G7(h:bm o w K s lk lab):
  bz au (XB au Fin 0) 24 #[.pointer (some ⟨K.kb,0,none⟩)] o w fun v o' w'=>WH s v o' w'/\∃lab',bm o' w' K s lk lab'/\cN o w lab o' w' lab'/\∀n rv tv g,v=.agg #[n,rv,tv]->rv.ownBlock=some g->w.heap.size<=g/\lab' g=7:=by
 have W:=bV (P:=au) (Fin:=Fin) (d:=0);refine eA W func24 ar ?_;walk_nrmf Tryz.f24;refine ax ?_;refine dt bQ h.aF rfl ar ar mW rfl (R:=fun wl v aV=>v=.pointer (some ⟨wl.heap.size,0,none⟩)/\aV=wl.alloc (Obj.cells #[.int .i64 0,.slice none 0 0,.slice none 0 0] 59)) (fun wl aT=>⟨_,_,by first|(simp[go_sem];done)|(simp[go_sem];rfl),rfl,rfl⟩) fun wl v1 aV w1 aT hR bN=>?_;obtain⟨rfl,hR⟩:=hR;obtain⟨z1,k1,tF⟩:=bN.alloc h.aF aT hR;obtain⟨W1,wR⟩:=bA.qx bN.aF z1 k1;rw[aT.size];clear hR bN aT wl aV;obtain⟨dp,h1,S1,yJ,hn1⟩:=h.grown (cN.refl h.aF) W1;have hlA:=hn1 w.heap.size (ag _);generalize grow o w w1=o1 at *;have hAl:w.heap.size<w1.heap.size:=aa;generalize hAe:w.heap.size=A at *;refine ax ?_;refine cd func49 (Fq K.kb 12 s.pb _ _ _ (by rw[h1.row.cell aa];rfl) h1.set.blk) ?_;rintro v0 o2 w2 ⟨rfl,rfl,rfl⟩;refine ax ?_;obtain⟨p0,p1,p2,-,-,-⟩:=eO h1.set.blk;refine dB bQ h1.aF rfl ar ar ?_ rfl (v:=.agg #[.int .i64 s.num,s.lu,s.mH]) (fun wl aT=>by
  have e:=aT.heap _ h1.set.own;simp[go_sem,(cell_of e).trans p0,(cell_of e).trans p1,(cell_of e).trans p2]) fun _=>?_
 ·exact mU (bU h1.set.own)
 refine ax ?_;refine dt bQ h1.aF rfl ar ar mW rfl (R:=fun wl v aV=>v=.pointer (some ⟨wl.heap.size,0,none⟩)/\aV=wl.alloc (Obj.cells #[.int .i64 0,.slice none 0 0,.slice none 0 0] 59)) (fun wl aT=>⟨_,_,by first|(simp[go_sem];done)|(simp[go_sem];rfl),rfl,rfl⟩) fun wl v1 aV w3 aT hR bN=>?_;obtain⟨rfl,hR⟩:=hR;obtain⟨z3,k3,sB⟩:=bN.alloc h1.aF aT hR;obtain⟨W3,PX⟩:=bA.qx bN.aF z3 k3;rw[aT.size];clear hR bN aT wl aV;obtain⟨kL,h3,S3,Bp,Oh⟩:=h1.grown S1 W3;have vf:=W3.more _ wR;have kA3:=(k3 A hAl).trans tF;have aiu:=(Bp A hAl).trans hlA;have aec:=Oh _ (ag _);generalize grow o2 w2 w3=o3 at *;have hBl:w2.heap.size<w3.heap.size:=aa;have hAB:A<w2.heap.size:=hAl;clear z1;generalize w2.heap.size=B at *;obtain⟨rp,rb,rc,r1,r2,r3,r4⟩:=h3.set.res;obtain⟨tp,tb,tc,t1,t2,t3,t4⟩:=h3.set.jS.row;have RG:=h3.set.cl;have aiv:=h3.set.jS.cl;have aed:=h3.set.gT;have aee:=h3.set.jS.gT;walk_nrm;refine du bQ h3.aF rfl ar ar ?_ rfl (R:=fun wl aV=>aV=((wl.setCell ⟨B,0,none⟩ (.int .i64 s.num)).setCell ⟨B,1,none⟩ s.lu).setCell ⟨B,2,none⟩ s.mH) (fun wl aT=>⟨_,?_,rfl⟩) fun wl aV w4 aT hR bN=>?_
 ·refine iV ?_ ?_
  ·exact bU PX
  ·exact fS (vs:=[_,_,_]) (fun x hx=>by
    simp at hx;rcases hx with rfl|rfl|rfl
    ·exact dS
    ·exact RG
    ·exact aiv)
 ·obtain⟨e0,e1,e2,f0,f1,f2⟩:=eO ((aT.heap _ PX).trans sB);rw[r1,t1];simp[go_sem,e0,e1,e2,f0,f1,f2]
 have hO:eI B wl aV:=by rw[hR];exact uE _ _ _ _ _ _ _ _
 obtain⟨vo,sQ,e4⟩:=bN.only aT PX hO;have tj:=bN.aF;rw[e4] at tj |-;rw[hR,JK ((aT.heap _ PX).trans sB)] at sQ;obtain⟨h4,S4⟩:=h3.wrote S3 aec aa tj vo;have kA4:=(vo.2 A aa).trans kA3;clear hR bN aT hO wl aV e4;refine ax ?_;refine dB bQ h4.aF rfl ar ar ?_ rfl (v:=s.lu) (fun wl aT=>by
  have e:=(aT.cell PX).trans (eO sQ).2.1;rw[r1] at e |-;simp[go_sem,e]) fun _=>?_
 ·exact mU (bU PX)
 refine ax ?_;obtain⟨rp,rb,rc,r1,r2,r3,r4⟩:=h4.set.res;refine cd func50 (ML h4.aF s.lu rb rc rp s.res r1 aed r2 r3 r4 h4.set.cl) ?_;rintro v5 o5 w5 ⟨N5,q5⟩;obtain⟨oT,h5,S5,Rf,hn5⟩:=h4.grown S4 (bA.eJ N5);have wZ:=bA.more (bA.eJ (ex:=fun _=>False) N5) _ vf;have WI:=bA.more (bA.eJ (ex:=fun _=>False) N5) _ PX;have z4:=vo.1;have kA5:=(N5.old A aa).trans kA4;have kB5:=(N5.old B aa).trans sQ;have uK:=(Rf A aa).trans aiu;have aef:=(Rf B aa).trans aec;have z5:=N5.size;have cl5:=N5.cl;obtain⟨rp5,rb5,rc5,rfl⟩:∃p l c,v5=.slice p l c:=by
  rcases q5 with⟨rfl,-⟩|⟨g,cap,rfl,-⟩
  ·exact⟨_,_,_,rfl⟩
  ·exact⟨_,_,_,rfl⟩
 refine ax ?_;refine du bQ h5.aF rfl ar ar ?_ rfl (R:=fun wl aV=>aV=wl.setCell ⟨B,1,none⟩ (.slice rp5 rb5 rc5)) (fun wl aT=>⟨_,?_,rfl⟩) fun wl aV w6 aT hR bN=>?_
 ·refine iV ?_ ?_
  ·exact bU WI
  ·exact cl5
 ·obtain⟨e0,e1,e2,f0,f1,f2⟩:=eO ((aT.heap _ WI).trans kB5);simp[go_sem,e1,f1]
 have hO:eI B wl aV:=by rw[hR];exact iZ _ _ _ _
 obtain⟨TP,kb6,e6⟩:=bN.only aT WI hO;have Eh:=bN.aF;rw[e6] at Eh |-;have kB6:w6.heap[B]?=some (.cells #[.int .i64 s.num,.slice rp5 rb5 rc5,s.mH] 59):=by
  rw[kb6,hR];have e:=(aT.heap _ WI).trans kB5;simp[World.setCell,aR,e]
 obtain⟨h6,S6⟩:=h5.wrote S5 aef aa Eh TP;have kA6:=(TP.2 A aa).trans kA5;have z6:=TP.1;clear hR bN aT hO wl aV e6 kb6;refine ax ?_;refine dB bQ h6.aF rfl ar ar ?_ rfl (v:=s.mH) (fun wl aT=>by
  have e:=(aT.cell WI).trans (eO kB6).2.2.1;rw[t1] at e |-;simp[go_sem,e]) fun _=>?_
 ·exact mU (bU WI)
 refine ax ?_;obtain⟨tp,tb,tc,t1,t2,t3,t4⟩:=h6.set.jS.row;refine cd func51 (C8 h6.aF s.mH tb tc tp s.jS t1 aa t2 t3 t4 h6.set.jS.cl) ?_;rintro v7 o7 w7 ⟨N7,q7⟩;obtain⟨xg,h7,S7,qA,hn7⟩:=h6.grown S6 (bA.eJ N7);have W7:=bA.eJ (ex:=fun _=>False) N7;have L8:=W7.more _ wZ;have hB7:=W7.more _ WI;have kA7:=(N7.old A aa).trans kA6;have kB7:=(N7.old B aa).trans kB6;have MM:=(qA A aa).trans uK;have aix:=(qA B aa).trans aef;have z7:=N7.size;have cl7:=N7.cl;have aeg:=cl5.up W7.more;have aiy:Rc o7 w7 v7 s.jS:=q7.tat cl7 (fun g l c e=>gG N7.aF cl7 g (by rw[e];rfl)) aee;have aiz:∀g,v7.ownBlock=some g->w6.heap.size<=g:=fun g hg=>by
  rcases q7 with⟨e,-⟩|⟨g',cap,e,-,e2,-⟩
  ·rw[e] at hg;cases hg
  ·rw[e] at hg;have:=aQ hg;simp at this;omega
 obtain⟨tp7,tb7,tc7,rfl⟩:∃p l c,v7=.slice p l c:=by
  rcases q7 with⟨rfl,-⟩|⟨g,cap,rfl,-⟩
  ·exact⟨_,_,_,rfl⟩
  ·exact⟨_,_,_,rfl⟩
 refine ax ?_;refine du bQ h7.aF rfl ar ar ?_ rfl (R:=fun wl aV=>aV=wl.setCell ⟨B,2,none⟩ (.slice tp7 tb7 tc7)) (fun wl aT=>⟨_,?_,rfl⟩) fun wl aV w8 aT hR bN=>?_
 ·refine iV ?_ ?_
  ·exact bU hB7
  ·exact cl7
 ·obtain⟨e0,e1,e2,f0,f1,f2⟩:=eO ((aT.heap _ hB7).trans kB7);rw[t1] at e2;simp[go_sem,e2,f2]
 have hO:eI B wl aV:=by rw[hR];exact iZ _ _ _ _
 obtain⟨FA,kb8,e8⟩:=bN.only aT hB7 hO;have se:=bN.aF;rw[e8] at se |-;have kB8:w8.heap[B]?=some (.cells #[.int .i64 s.num,.slice rp5 rb5 rc5,.slice tp7 tb7 tc7] 59):=by
  rw[kb8,hR];have e:=(aT.heap _ hB7).trans kB7;simp[World.setCell,aR,e]
 obtain⟨h8,S8⟩:=h7.wrote S7 aix aa se FA;have Yt:=(FA.2 A aa).trans kA7;have z8:=FA.1;clear hR bN aT hO wl aV e8 kb8;refine ax ?_;refine dB bQ h8.aF rfl ar ar ?_ rfl (v:=.agg #[.int .i64 s.num,.slice rp5 rb5 rc5,.slice tp7 tb7 tc7]) (fun wl aT=>by
  obtain⟨e0,e1,e2,-⟩:=eO ((aT.heap _ hB7).trans kB8);simp[go_sem,e0,e1,e2]) fun _=>?_
 ·exact mU (bU hB7)
 walk_nrm;refine du bQ h8.aF rfl ar ar ?_ rfl (R:=fun wl aV=>aV=((wl.setCell ⟨A,0,none⟩ (.int .i64 s.num)).setCell ⟨A,1,none⟩ (.slice rp5 rb5 rc5)).setCell ⟨A,2,none⟩ (.slice tp7 tb7 tc7)) (fun wl aT=>⟨_,?_,rfl⟩) fun wl aV w9 aT hR bN=>?_
 ·refine iV ?_ ?_
  ·exact bU L8
  ·exact fS (vs:=[_,_,_]) (fun x hx=>by
    simp at hx;rcases hx with rfl|rfl|rfl
    ·exact dS
    ·exact aeg
    ·exact cl7)
 ·obtain⟨e0,e1,e2,f0,f1,f2⟩:=eO ((aT.heap _ L8).trans Yt);simp[go_sem,e0,e1,e2,f0,f1,f2]
 have hO:eI A wl aV:=by rw[hR];exact uE _ _ _ _ _ _ _ _
 obtain⟨lO,oe,e9⟩:=bN.only aT L8 hO;have ml:=bN.aF;rw[e9] at ml |-;rw[hR,JK ((aT.heap _ L8).trans Yt)] at oe;obtain⟨h9,S9⟩:=h8.wrote S8 MM aa ml lO;clear hR bN aT hO wl aV e9;refine ax ?_;refine⟨.inr trivial,trivial,.agg #[.int .i64 s.num,.slice rp5 rb5 rc5,.slice tp7 tb7 tc7],wS (fun n=>?_) (fun n e he=>?_),⟨⟨_,_,rfl,?_,aeg,aiy.keep (fun _ q=>q) fun g hg=>?_⟩⟩,xg,h9,S9,fun n rv tv g e hg=>?_⟩
 ·obtain⟨c0,c1,c2,-⟩:=eO (w:=w9.at n) oe;simp[results,results24,go_sem,c0,c1,c2]
 ·obtain⟨c0,c1,c2,-⟩:=eO (w:=w9.at n) oe;simp[results,results24,go_sem,c0,c1,c2] at he;rcases he with rfl|rfl|rfl;all_goals exact⟨_,_,_,rfl,L8⟩
 ·rcases q5 with⟨e,e2⟩|⟨g,cap,e,g1,g2,g3⟩
  ·exact⟨none,0,0,by rw[e2];exact e,fun q=>absurd e2 q,fun i hi=>by rw[e2] at hi;simp at hi⟩
  ·refine⟨_,g,cap,e,fun _=>⟨rfl,W7.more _ (gG N5.aF cl5 g (by rw[e];rfl))⟩,kn g3 ?_⟩;rw[lO.2 g aa,FA.2 g aa,N7.old g aa,TP.2 g aa]
 ·have:=aiz g hg;rw[lO.2 g aa,FA.2 g aa]
 ·have e1:Value.slice rp5 rb5 rc5=rv:=by
   injection e with e;have:=congrArg (fun a=>a[1]?) e;simpa using this
  subst e1;rcases q5 with⟨e,-⟩|⟨g',cap,e,g1,g2,-⟩
  ·rw[e] at hg;cases hg
  ·rw[e] at hg;have:g'=g:=aQ hg;subst this;exact⟨aa,(qA _ aa).trans (hn5 _ aa)⟩
end
section
open Go.RowKit
theorem vp{x y:af}(h:¬x=y):(x.toList==y.toList)=false:=by
 rw[beq_eq_false_iff_ne];intro e;rw[ByteArray.toList_eq,ByteArray.toList_eq] at e;exact h (ByteArray.ext (Array.toList_inj.1 e))
def eF(c:Int)(n:Nat):Nat:=(if c<0 then -(c+1) else c).toNat%n
theorem oU(c:Int){n:Nat}(h:0<n):eF c n<n:=Nat.mod_lt _ h
theorem J9(c:Int)(n:Nat)(w:ae)(h1:-9223372036854775808<=c)(h2:c<=9223372036854775807)(hn:0<n)(NG:n<=1000):
  Calls au 19 #[.int .i64 c,.int .i64 n] w fun e w'=>e=.returned (.int .i64 (eF c n:Nat))/\w'=w:=by
 have KI:¬(n:Int)=0:=aa;go_enter func19,ntmps19;by_cases hc:c<0
 ·have e1:IntKind.i64.wrap (c+1)=c+1:=by rw[IntKind.wrap_i64]<;>omega
  have e2:IntKind.i64.wrap (-(c+1))=-(c+1):=by rw[IntKind.wrap_i64]<;>omega
  have e3:-((c+1).tmod n)=((eF c n:Nat):Int):=by
   rw[<- Int.neg_tmod,Int.tmod_eq_emod_of_nonneg aa];unfold eF;rw[if_pos hc,Int.natCast_emod,gE aa]
  go_wp2;go_ret;exact⟨rfl,rfl⟩
 ·have e3:c%n=((eF c n:Nat):Int):=by
   unfold eF;rw[if_neg hc,Int.natCast_emod,gE aa]
  go_wp2;go_ret;exact⟨rfl,rfl⟩
def kR:List af:=[⟨#[97]⟩,⟨#[98]⟩,⟨#[99]⟩,⟨#[100]⟩,⟨#[101]⟩,⟨#[102]⟩]
theorem Qz(w:ae):Calls au 18 #[] w fun e w'=>e=.returned (.slice (some ⟨w.heap.size,0,none⟩) 6 6)/\w'=w.alloc (.cells (kR.map Value.string).toArray 9):=by
 go_enter func18,ntmps18;go_wp2;go_ret;exact⟨rfl,rfl⟩
def iR(i:Nat):af:=(⟨#[111]⟩:af)++⟨#[97+UInt8.ofNat i]⟩
theorem oX(w:ae)(cs:Array Value)(t:TypeId)(j:Nat):(w.alloc (.cells cs t)).cell? ⟨w.heap.size,j,none⟩=cs[j]?:=by
 simp only[World.cell?];rw[show(w.alloc (.cells cs t)).heap[w.heap.size]?=some (.cells cs t) from by show(w.heap.push _)[w.heap.size]?=_;simp];rfl
theorem WJ(i:Nat)(hi:i<8)(w:ae):Calls au 15 #[.int .i64 i] w fun e w'=>e=.returned (.string (iR i))/\Below w.heap.size w w'/\w.heap.size<=w'.heap.size:=by
 have e1:IntKind.i64.wrap (97+(i:Int))=97+(i:Int):=by rw[IntKind.wrap_i64]<;>omega
 have e2:IntKind.u8.wrap (97+(i:Int))=97+(i:Int):=by simp[IntKind.wrap,IntKind.signed,IntKind.bits];omega
 have hu:(UInt8.ofNat (97+i)).toNat=97+i:=by rw[UInt8.toNat_ofNat'];omega
 have hcv:(convert 90 9 (.slice (some ⟨w.heap.size,0,none⟩) 1 1)).run au (w.alloc (.cells #[.int .u8 (97+(i:Int))] 5))=.ok (.string ⟨#[UInt8.ofNat (97+i)]⟩) (w.alloc (.cells #[.int .u8 (97+(i:Int))] 5)):=by
  refine run_convert_bytes_back (P:=au) (w.alloc (.cells #[.int .u8 (97+(i:Int))] 5)) 90 9 5 ⟨w.heap.size,0,none⟩ 1 [UInt8.ofNat (97+i)] underlying90 underlying5 underlying9 (fun j hj=>?_);have hj0:j=0:=Nat.lt_one_iff.1 hj;subst hj0;refine(oX w _ _ 0).trans ?_;show some (Value.int .u8 (97+(i:Int)))=some (Value.int .u8 ((UInt8.ofNat (97+i)).toNat:Int));rw[hu];rfl
 have hz:=(Below.refl w.heap.size w).alloc (ag _) (.cells #[.int .u8 (97+(i:Int))] 5);go_enter func15,ntmps15;go_wp2;go_ret;exact⟨rfl,hz,aj⟩
def rq(c:Int):af:=(⟨#[116,104,114,101,101,32,119,111,114,100,115,32,33]⟩:af).extract 0 (eF c 13)
theorem Df(c:Int):(rq c).size<=12:=by
 have:=oU c (n:=13) aa;unfold rq;rw[ByteArray.size_extract];omega
theorem QA(c:Int)(w:ae)(h1:-9223372036854775808<=c)(h2:c<=9223372036854775807):
  Calls au 20 #[.int .i64 c] w fun e w'=>e=.returned (.string (rq c))/\w'=w:=by
 have hp:=J9 c 13 w h1 h2 aa aa;have cy:=oU c (n:=13) aa;have Z1:rq c=(⟨#[116,104,114,101,101,32,119,111,114,100,115,32,33]⟩:af).extract 0 (eF c 13):=rfl;rw[Z1];generalize eF c 13=n at *;go_enter func20,ntmps20;go_wp2_with (go_at_call 19;refine hp.mono ?_;rintro e w' ⟨rfl,rfl⟩);go_ret;exact⟨rfl,rfl⟩
def inL:List af->af->Bool
 | [],_=>false
 |y::l,x=>if y=x then true else inL l x
theorem Br(x:af):∀l:List af,inL l x=true↔x∈l
 | []=>by simp[inL]
 |y::l=>by
  unfold inL;by_cases h:y=x
  ·simp[h]
  ·rw[if_neg h,Br x l,bJ];exact⟨.inr,fun q=>q.elim (fun e=>absurd e.symm h) id⟩
theorem Dg{j:Nat}(h:j<8):j=0\/j=1\/j=2\/j=3\/j=4\/j=5\/j=6\/j=7:=aa
theorem vq(i:Nat)(h:i<8):(iR i).data=#[111,97+UInt8.ofNat i]:=by
 rcases Dg h with rfl|rfl|rfl|rfl|rfl|rfl|rfl|rfl<;>decide
theorem Ka{i j:Nat}(hi:i<8)(hj:j<8)(h:iR i=iR j):i=j:=by
 have h:=congrArg ByteArray.data h;rw[vq i hi,vq j hj] at h;revert h;rcases Dg hi with rfl|rfl|rfl|rfl|rfl|rfl|rfl|rfl<;>rcases Dg hj with rfl|rfl|rfl|rfl|rfl|rfl|rfl|rfl<;>decide
theorem FB(i:Nat)(h:i<8):iR i∉kR:=fun q=>by
 have hs:(iR i).data.size=2:=by rw[vq i h];rfl
 simp only[kR,bJ,dh,or_false] at q;rcases q with q|q|q|q|q|q<;>(rw[q] at hs;cases hs)
end
section
open Go.RowKit
open Go.Ren (iZ eI)
structure IxR(rs:List aI)(x:af)(r:Int):Prop where
 ex:(r=-1/\∀q∈rs,q.out≠x)\/∃i,∃h:i<rs.length,r=(i:Nat)/\rs[i].out=x
def Dh:List aI->af->Nat->Int
 | [],_,_=>-1
 |r::l,x,k=>if r.out=x then(k:Nat) else Dh l x (k+1)
theorem FC(x:af):∀(l:List aI) (k:Nat),(Dh l x k=-1/\∀q∈l,q.out≠x)\/∃i,∃h:i<l.length,Dh l x k=((k+i:Nat):Int)/\l[i].out=x
 | [],k=>.inl ⟨rfl,aj⟩
 |r::l,k=>by
  unfold Dh;by_cases h:r.out=x
  ·rw[if_pos h];exact .inr ⟨0,aj,aj,by simpa using h⟩
  ·rw[if_neg h];rcases FC x l (k+1) with⟨h1,h2⟩|⟨i,hi,h1,h2⟩
   ·refine .inl ⟨h1,fun q hq=>?_⟩;rcases List.mem_cons.1 hq with rfl|hq
    ·exact h
    ·exact h2 q hq
   ·exact .inr ⟨i+1,dV,by rw[h1];congr 1;omega,by simpa using h2⟩
theorem Kb(rs:List aI)(x:af):IxR rs x (Dh rs x 0):=by
 rcases FC x rs 0 with h|⟨i,hi,h1,h2⟩
 ·exact⟨.inl h⟩
 ·exact⟨.inr ⟨i,hi,by simpa using h1,h2⟩⟩
theorem Di(b c:Nat)(p:Option Addr)(rs:List aI)(x:af)(w:ae)(hn:rs.length<=100000)(hp:rs≠[]->p=some ⟨b,0,none⟩)(hv:eU w b rs):
  Calls au 107 #[.slice p rs.length c,.string x] w fun e w'=>e=.returned (.int .i64 (Dh rs x 0))/\w'=w:=by
 go_enter func107,ntmps107;go_wp2;go_loop [8] (fun i=>∃k:Nat,k<=rs.length/\i=.int .i64 k/\Dh rs x 0=Dh (rs.drop k) x k) (fun i=>rs.length-(intOf i).toNat)
 case atStart=>exact⟨0,aU _,rfl,rfl⟩
 case round =>
  obtain⟨k,hk,rfl,hs⟩:=hrel;by_cases cy:k<rs.length
  ·have e:=hp (fun e=>by rw[e] at cy;simp at cy);subst e;obtain⟨h1,-,-⟩:=hv k cy;rw[List.drop_eq_getElem_cons cy,Dh] at hs;generalize rs[k].out=y at *;by_cases hx:y=x
   ·rw[if_pos hx] at hs;subst hx;go_wp2;go_ret;exact⟨rfl,rfl⟩
   ·rw[if_neg hx] at hs;have hxl:=vp hx;go_wp2
    go_round
    case rel=>exact⟨k+1,aa,by go_num,hs⟩
    case measure=>simp[intOf];omega
  ·rw[List.drop_of_length_le aa,Dh] at hs;go_wp2;go_ret;exact⟨rfl,rfl⟩
theorem Kc(x:af)(h:isName x)(w:ae):Calls au 68 #[.string x] w fun e w'=>e=.returned (.bool true)/\w'=w:=by
 refine(JZ x w (by have:=h.2.1;omega)).mono fun e w' hq=>?_;obtain⟨⟨b,rfl,hb⟩,rfl⟩:=hq;rw[hb.2 h];exact⟨rfl,rfl⟩
theorem G8(b c:Nat)(p:Option Addr)(ts:List af)(w:ae)(hn:ts.length<=100000)(hp:ts≠[]->p=some ⟨b,0,none⟩)(ht:fy w b 0 ts)(ha:∀x∈ts,isName x):
  Calls au 105 #[.slice p ts.length c] w fun e w'=>e=.returned (.bool true)/\w'=w:=by
 go_enter func105,ntmps105;go_wp2;go_loop [7] (fun i=>∃k:Nat,k<=ts.length/\i=.int .i64 k) (fun i=>ts.length-(intOf i).toNat)
 case atStart=>exact⟨0,aU _,rfl⟩
 case round =>
  obtain⟨k,hk,rfl⟩:=hrel;by_cases cy:k<ts.length
  ·have e:=hp (fun e=>by rw[e] at cy;simp at cy);subst e;have h1:=ht k cy;rw[bB] at h1;have zo:=Kc ts[k] (ha _ (aG cy)) w;go_wp2_with (go_at_call 68;refine zo.mono ?_;rintro e w' ⟨rfl,rfl⟩)
   go_round
   case rel=>exact⟨k+1,aa,by go_num⟩
   case measure=>simp[intOf];omega
  ·go_wp2;go_ret;exact⟨rfl,rfl⟩
theorem QB(n:Int)(w:ae)(h1:1<=n)(h5:n<=5):Calls au 106 #[.int .i64 n] w fun e w'=>e=.returned (.bool true)/\w'=w:=by
 go_enter func106,ntmps106;go_wp2;go_ret;exact⟨rfl,rfl⟩
structure pR(w:ae)(p:Option Addr)(b:Nat)(rs:List aI)(NM:aI->List af)(NB:aI->Nat):Prop where
 gT:rs.length<=8
 ptr:rs≠[]->p=some ⟨b,0,none⟩/\b<w.heap.size
 at_:eU w b rs
 nm:∀r∈rs,r.sl=(NM r).length/\(NM r≠[]->r.sa=some ⟨NB r,0,none⟩/\NB r<w.heap.size)/\fy w (NB r) 0 (NM r)/\(NM r).length<=4
theorem pR.below{w w':ae}{p:Option Addr}{b:Nat}{rs:List aI}{NM:aI->List af}{NB:aI->Nat}(h:pR w p b rs NM NB)(hw:Below w.heap.size w w'):pR w' p b rs NM NB:=by
 refine⟨h.gT,fun q=>⟨(h.ptr q).1,bw (h.ptr q).2 hw.size⟩,fun i hi=>?_,fun r hr=>⟨(h.nm r hr).1,fun q=>⟨((h.nm r hr).2.1 q).1,bw ((h.nm r hr).2.1 q).2 hw.size⟩,fun k hk=>?_,(h.nm r hr).2.2.2⟩⟩
 ·exact h.at_.below (h.ptr (fun q=>by rw[q] at hi;simp at hi)).2 hw i hi
 ·exact(h.nm r hr).2.2.1.below ((h.nm r hr).2.1 (fun q=>by rw[q] at hk;simp at hk)).2 hw k hk
structure Dj(rs:List aI)(NM:aI->List af)(RK:af->Nat):Prop where
 outs:∀r∈rs,isName r.out
 ins:∀r∈rs,∀x∈NM r,isName x
 eR:∀r∈rs,1<=r.eR/\r.eR<=5
 nodup:(rs.map (·.out)).Nodup
 Ep:∀r∈rs,∀x∈NM r,x∈rs.map (·.out)->RK x<RK r.out
def Oi(rk:Nat->Nat)(g:Nat->Bool):Prop:=∀i j,i<8->j<8->g (i*8+j)=true->rk j<rk i
structure rI(rk:Nat->Nat)(cs:Array Value):Prop where
 size:cs.size=64
 ex:∃g:Nat->Bool,(∀k,k<64->cs[k]?=some (.bool (g k)))/\Oi rk g
theorem rI.one{rk:Nat->Nat}{cs:Array Value}(h:rI rk cs):cs.all (·.oneCell')=true:=by
 obtain⟨g,hg,-⟩:=h.ex;rw[Array.all_eq_true_iff_forall_mem];intro v hv;obtain⟨k,hk,rfl⟩:=Array.getElem_of_mem hv;have:=hg k (by rw[<- h.size];exact hk);rw[aN hk] at this;rw[aQ this];rfl
theorem xh:(au.info? 201).map (·.size)=some 64:=ah
structure lX(w:ae)(b:Nat)(rk:Nat->Nat):Prop where
 ex:∃g:Nat->Bool,w.rowIs b 201 64 (fun j=>.bool (g j))/\Oi rk g
theorem lX.blk{w:ae}{b:Nat}{rk:Nat->Nat}(h:lX w b rk):∃cs,w.heap[b]?=some (.cells cs 201 (0,0))/\rI rk cs:=by
 obtain⟨g,⟨cs,h1,h2,h3⟩,hg⟩:=h.ex;exact⟨cs,h1,h2,g,fun k hk=>h3 k hk,hg⟩
theorem rI.at{w:ae}{b:Nat}{rk:Nat->Nat}{cs:Array Value}(h:rI rk cs)(hb:w.heap[b]?=some (.cells cs 201 (0,0))):lX w b rk:=by
 obtain⟨g,h1,hg⟩:=h.ex;exact⟨g,⟨cs,hb,h.size,fun k hk=>h1 k hk⟩,hg⟩
theorem lX.of_block{w w':ae}{b:Nat}{rk:Nat->Nat}(h:lX w b rk)(e:w'.heap[b]?=w.heap[b]?):lX w' b rk:=by
 obtain⟨g,h1,hg⟩:=h.ex;exact⟨g,h1.of_block e,hg⟩
theorem lX.set{w:ae}{b:Nat}{rk:Nat->Nat}(h:lX w b rk){i j:Nat}(hi:i<8)(hj:j<8)(hr:rk j<rk i):lX (w.setCell ⟨b,i*8+j,none⟩ (.bool true)) b rk:=by
 obtain⟨g,h1,hg⟩:=h.ex;refine⟨fun k=>if k=i*8+j then true else g k,(h1.set (i*8+j) _).congr fun k hk=>?_,fun i' j' ma r8 hq=>?_⟩
 ·by_cases e:k=i*8+j
  ·simp[e]
  ·simp[e]
 ·by_cases e:i'*8+j'=i*8+j
  ·have e1:i'=i:=aa;have e2:j'=j:=aa;rw[e1,e2];exact hr
  ·simp only[if_neg e] at hq;exact hg i' j' ma r8 hq
structure NS(w:ae)(rk:Nat->Nat)(w':ae):Prop where
 MN:Below w.heap.size w w'
 size:w'.heap.size=w.heap.size+2
 vy:lX w' w.heap.size rk
 res:∃z:Array Value,w'.heap[w.heap.size+1]?=some (.cells z 201 (0,0))/\z.size=64
theorem NS.set{w w':ae}{rk:Nat->Nat}(h:NS w rk w'){i j:Nat}(hi:i<8)(hj:j<8)(hr:rk j<rk i):NS w rk (w'.setCell ⟨w.heap.size,i*8+j,none⟩ (.bool true)):=by
 obtain⟨z,h1,h2⟩:=h.res;have on:=iZ w' w.heap.size (i*8+j) (.bool true);exact⟨h.MN.setCell (ag _) _,on.1.trans h.size,h.vy.set hi hj hr,z,(on.2 _ aa).trans h1,h2⟩
theorem alloc_old(w:ae)(x:Obj)(b:Nat)(h:b<w.heap.size):(w.alloc x).heap[b]?=w.heap[b]?:=by
 show(w.heap.push x)[b]?=_;rw[dz h,aN h]
theorem sS{B g:Nat}{a w:ae}(h:Below B a w)(hg:B<=g)(cs:Array Value):Below B a (w.setRow g cs) :=
 ⟨h.os,h.tape,h.output,by rw[setRow_size];exact h.size,fun b hb=>(setRow_other w g b cs aa).trans (h.block b hb)⟩
end
section
open Go.RowKit
open Go.Ren (iZ eI)
theorem Ke(rk:Nat->Nat)(cs:Array Value)(OX:rI rk cs)(w:ae):
  Calls au 108 #[.agg cs] w fun e w'=>∃DI,e=.returned (.agg DI)/\rI rk DI/\Below w.heap.size w w'/\w.heap.size<=w'.heap.size:=by
 have fE:=OX.size;go_enter func108,ntmps108;go_wp2;go_loopw [6] (fun i w'=>∃m:Nat,m<=8/\i=.int .i64 m/\NS w rk w') (fun i _=>8-(intOf i).toNat)
 case atStart =>
  refine⟨0,aa,rfl,((Below.refl _ _).alloc (ag _) _).alloc aj _,aj,OX.at (heap_alloc2_old w _ _),Array.replicate 64 (.bool false),heap_alloc2_new w _ _,aj⟩
 case round =>
  obtain⟨m,hm,rfl,hS⟩:=hrel;by_cases cy:m<8
  ·have hmI:(m:Int)<8:=aa;go_wp2;go_loopw [9] (fun i w'=>∃f:Nat,f<=8/\i=.int .i64 f/\NS w rk w') (fun i _=>8-(intOf i).toNat)
   case atStart=>exact⟨0,aa,rfl,hS⟩
   case round =>
    clear hS;obtain⟨f,hf,rfl,hS⟩:=hrel;by_cases KR:f<8
    ·have hfI:(f:Int)<8:=aa;go_wp2;go_loopw [12] (fun i w'=>∃t:Nat,t<=8/\i=.int .i64 t/\NS w rk w') (fun i _=>8-(intOf i).toNat)
     case atStart=>exact⟨0,aa,rfl,hS⟩
     case round =>
      clear hS;obtain⟨t,ht,rfl,hS⟩:=hrel;by_cases yX:t<8
      ·have htI:(t:Int)<8:=aa;obtain⟨g,cj,je⟩:=hS.vy.ex;have c1:=cj.cell (show f*8+m<64 by omega);have c2:=cj.cell (show m*8+t<64 by omega);have c3:=cj.cell (show f*8+t<64 by omega);have f3:=cj.frozen (f*8+t);cases h1:g (f*8+m)
       ·rw[h1] at c1;go_wp2;exact⟨⟨t+1,aa,by go_num,hS⟩,by simp[intOf];omega⟩
       ·rw[h1] at c1;cases h2:g (m*8+t)
        ·rw[h2] at c2;go_wp2;exact⟨⟨t+1,aa,by go_num,hS⟩,by simp[intOf];omega⟩
        ·rw[h2] at c2;have hr:rk t<rk f:=kC (je m t cy yX h2) (je f m KR cy h1);go_wp2;exact⟨⟨t+1,aa,by go_num,hS.set KR yX hr⟩,by simp[intOf];omega⟩
      ·go_wp2;exact⟨⟨f+1,aa,by go_num,hS⟩,by simp[intOf];omega⟩
    ·go_wp2;exact⟨⟨m+1,aa,by go_num,hS⟩,by simp[intOf];omega⟩
  ·obtain⟨DI,nn,WK⟩:=hS.vy.blk;obtain⟨z,hz,Y6⟩:=hS.res;have hi:(au.info? 201).map (·.size)=some DI.size:=by rw[WK.size];exact xh
   go_wp2_with (first
    | (refine wpList_load_row rfl 201 _ rfl w.heap.size rfl 201 DI (0,0) _ nn underlying201 rfl hi ?_)
    | (refine wpList_plain rfl fun _ hK=>wp_store_row 201 _ _ rfl (w.heap.size+1) DI rfl rfl 201 z hz hi (Y6.trans WK.size.symm) WK.one (hK _ _ ?_)))
   refine bodyPost_ret (results_cell_row ar _ _ (w.heap.size+1) 201 DI (0,0) _ rfl (setRow_heap _ _ _ _ _ _ hz) underlying201 rfl hi) rfl ⟨DI,rfl,WK,?_,?_⟩
   ·exact sS hS.MN aa _
   ·rw[setRow_size,hS.size];omega
structure DS(w:ae)(rk:Nat->Nat)(w':ae):Prop where
 MN:Below w.heap.size w w'
 size:w.heap.size+2<=w'.heap.size
 vy:lX w' (w.heap.size+1) rk
 res:∃z:Array Value,w'.heap[w.heap.size]?=some (.cells z 201 (0,0))/\z.size=64
theorem DS.set{w w':ae}{rk:Nat->Nat}(h:DS w rk w'){i j:Nat}(hi:i<8)(hj:j<8)(hr:rk j<rk i):DS w rk (w'.setCell ⟨w.heap.size+1,i*8+j,none⟩ (.bool true)):=by
 obtain⟨z,h1,h2⟩:=h.res;have on:=iZ w' (w.heap.size+1) (i*8+j) (.bool true);exact⟨h.MN.setCell aj _,by rw[on.1];exact h.size,h.vy.set hi hj hr,z,(on.2 _ aa).trans h1,h2⟩
theorem DS.alloc{w w':ae}{rk:Nat->Nat}(h:DS w rk w')(x:Obj):DS w rk (w'.alloc x):=by
 obtain⟨z,h1,h2⟩:=h.res;have:=h.size;exact⟨h.MN.alloc aa _,dV,h.vy.of_block (alloc_old _ _ _ aa),z,(alloc_old _ _ _ aa).trans h1,h2⟩
theorem MO(rk:Nat->Nat)(p:Option Addr)(b c:Nat)(rs:List aI)(NM:aI->List af)(NB:aI->Nat)(w:ae)(hR:pR w p b rs NM NB)(UR:∀i (hi:i<rs.length),∀x∈NM rs[i],∀j (hj:j<rs.length),rs[j].out=x->rk j<rk i):
  Calls au 109 #[.slice p rs.length c] w fun e w'=>∃DI,e=.returned (.agg DI)/\rI rk DI/\Below w.heap.size w w'/\w.heap.size<=w'.heap.size:=by
 have xc:=hR.gT;go_enter func109,ntmps109;go_wp2;go_loopw [11] (fun i w'=>∃m:Nat,m<=rs.length/\i=.int .i64 m/\DS w rk w') (fun i _=>rs.length-(intOf i).toNat)
 case atStart =>
  refine⟨0,aa,rfl,((Below.refl _ _).alloc (ag _) _).alloc aj _,aj,⟨fun _=>false,⟨Array.replicate 64 (.bool false),heap_alloc2_new w _ _,aj,fun k hk=>by simp[hk]⟩,fun i j _ _ q=>by cases q⟩,Array.replicate 64 (.bool false),heap_alloc2_old w _ _,aj⟩
 case round =>
  obtain⟨m,hm,rfl,hS⟩:=hrel;by_cases cy:m<rs.length
  ·obtain⟨ep,hb⟩:=hR.ptr (fun e=>by rw[e] at cy;simp at cy);subst ep;have KV:=hR.below hS.MN;obtain⟨c0,c1,c2⟩:=KV.at_ m cy;obtain⟨n1,n2,n3,n4⟩:=hR.nm rs[m] (aG cy);rw[n1] at c2;have hrm:=UR m cy;generalize apq:NM rs[m]=ts at *;generalize rs[m].sa=sa at *;generalize NB rs[m]=nb at *;generalize rs[m].sc=sc at *;have hSa:=hS.alloc (.cells #[.string rs[m].out,.int .i64 rs[m].eR,.slice sa ts.length sc] 42);go_wp2;go_loopw [19] (fun i w'=>∃t:Nat,t<=ts.length/\i=.int .i64 t/\DS w rk w') (fun i _=>ts.length-(intOf i).toNat)
   case atStart=>exact⟨0,aa,rfl,hSa⟩
   case round =>
    clear hSa hS KV;obtain⟨t,ht,rfl,hS⟩:=hrel;by_cases yX:t<ts.length
    ·obtain⟨e1,e2⟩:=n2 (fun e=>by rw[e] at yX;simp at yX);subst e1;have h1:=n3.below e2 hS.MN t yX;rw[bB] at h1;have KV:=hR.below hS.MN;have Fg:=Di b c _ rs ts[t] _ aa (fun q=>rfl) KV.at_;obtain⟨g,cj,je⟩:=hS.vy.ex;have hx:=Kb rs ts[t];generalize Dh rs ts[t] 0=r at *;rcases hx.ex with⟨rfl,-⟩|⟨j,hj,rfl,hj2⟩
     ·go_wp2_with (go_at_call 107;refine Fg.mono ?_;rintro e w' ⟨rfl,rfl⟩);exact⟨⟨t+1,aa,by go_num,hS⟩,by simp[intOf];omega⟩
     ·have hj8:j<8:=aa;have hjI:(j:Int)<8:=aa;have hmI:(m:Int)<8:=aa;have c3:=cj.cell (show m*8+j<64 by omega);have f3:=cj.frozen (m*8+j);go_wp2_with (go_at_call 107;refine Fg.mono ?_;rintro e w' ⟨rfl,rfl⟩);exact⟨⟨t+1,aa,by go_num,hS.set aa hj8 (hrm _ (aG yX) j hj hj2)⟩,by simp[intOf];omega⟩
    ·go_wp2;exact⟨⟨m+1,aa,by go_num,hS⟩,by simp[intOf];omega⟩
  ·obtain⟨DI,nn,WK⟩:=hS.vy.blk;obtain⟨z,hz,Y6⟩:=hS.res;have hi:(au.info? 201).map (·.size)=some DI.size:=by rw[WK.size];exact xh
   go_wp2_with (first
    | (refine wpList_load_row rfl 201 _ rfl (w.heap.size+1) rfl 201 DI (0,0) _ nn underlying201 rfl hi ?_)
    | (refine wpList_plain rfl fun _ hK=>wp_store_row 201 _ _ rfl w.heap.size DI rfl rfl 201 z hz hi (Y6.trans WK.size.symm) WK.one (hK _ _ ?_)))
   refine bodyPost_ret (results_cell_row ar _ _ w.heap.size 201 DI (0,0) _ rfl (setRow_heap _ _ _ _ _ _ hz) underlying201 rfl hi) rfl ⟨DI,rfl,WK,?_,?_⟩
   ·exact sS hS.MN (ag _) _
   ·rw[setRow_size];have:=hS.size;omega
end
section
open Go.RowKit
theorem rI.info{rk:Nat->Nat}{cs:Array Value}(h:rI rk cs):(au.info? 201).map (·.size)=some cs.size:=by rw[h.size];exact xh
theorem Dk(rk:Nat->Nat)(p:Option Addr)(b c:Nat)(rs:List aI)(NM:aI->List af)(NB:aI->Nat)(w:ae)(hR:pR w p b rs NM NB)(UR:∀i (hi:i<rs.length),∀x∈NM rs[i],∀j (hj:j<rs.length),rs[j].out=x->rk j<rk i):
  Calls au 67 #[.slice p rs.length c] w fun e w'=>e=.returned (.int .i64 (-1))/\Below w.heap.size w w'/\w.heap.size<=w'.heap.size:=by
 have xc:=hR.gT;go_enter func67,ntmps67;go_wp2_with (first
  | (go_at_call 109;refine(MO rk p b c rs NM NB w hR UR).mono ?_;rintro e w1 ⟨tx,rfl,hN1,Bo,VW⟩)
  | (go_at_call 108;refine(Ke rk tx hN1 w1).mono ?_;rintro e w2 ⟨cs2,rfl,hN2,pA,Ti⟩;have hi:=hN2.info)
  | (refine wpList_plain rfl fun _ hK=>wp_store_row 201 _ _ rfl w2.heap.size cs2 rfl rfl 201 _ (jR _ _) hi hN2.size.symm hN2.one (hK _ _ ?_)))
 have aiA:Below w.heap.size w w2:=Bo.trans (pA.mono VW);generalize hzc:(Obj.cells (#[Value.bool false,Value.bool false,Value.bool false,Value.bool false,Value.bool false,Value.bool false,Value.bool false,Value.bool false,Value.bool false,Value.bool false,Value.bool false,Value.bool false,Value.bool false,Value.bool false,Value.bool false,Value.bool false,Value.bool false,Value.bool false,Value.bool false,Value.bool false,Value.bool false,Value.bool false,Value.bool false,Value.bool false,Value.bool false,Value.bool false,Value.bool false,Value.bool false,Value.bool false,Value.bool false,Value.bool false,Value.bool false,Value.bool false,Value.bool false,Value.bool false,Value.bool false,Value.bool false,Value.bool false,Value.bool false,Value.bool false,Value.bool false,Value.bool false,Value.bool false,Value.bool false,Value.bool false,Value.bool false,Value.bool false,Value.bool false,Value.bool false,Value.bool false,Value.bool false,Value.bool false,Value.bool false,Value.bool false,Value.bool false,Value.bool false,Value.bool false,Value.bool false,Value.bool false,Value.bool false,Value.bool false,Value.bool false,Value.bool false,Value.bool false]) 201 (0,0))=zc;have xn:Below w.heap.size w ((w2.alloc zc).setRow w2.heap.size cs2)/\w.heap.size<=((w2.alloc zc).setRow w2.heap.size cs2).heap.size :=
  ⟨sS (aiA.alloc aa _) aa _,by rw[setRow_size];simp;omega⟩
 have Oh:lX ((w2.alloc zc).setRow w2.heap.size cs2) w2.heap.size rk:=by
  rw[<- hzc];exact hN2.at (setRow_heap _ _ _ _ _ _ (jR _ _))
 generalize (w2.alloc zc).setRow w2.heap.size cs2=w3 at *;obtain⟨g,cj,je⟩:=Oh.ex;go_loop [10] (fun i=>∃k:Nat,k<=rs.length/\i=.int .i64 k) (fun i=>rs.length-(intOf i).toNat)
 case atStart=>exact⟨0,aU _,rfl⟩
 case round =>
  obtain⟨k,hk,rfl⟩:=hrel;by_cases cy:k<rs.length
  ·have UT:(k:Int)<8:=aa;have c1:=cj.cell (show k*8+k<64 by omega);have hg:g (k*8+k)=false:=by
    cases h:g (k*8+k)
    ·rfl
    ·have:=je k k aa aa h;omega
   rw[hg] at c1;go_wp2
   go_round
   case rel=>exact⟨k+1,aa,by go_num⟩
   case measure=>simp[intOf];omega
  ·go_wp2;go_ret;exact⟨rfl,xn⟩
theorem Kf(b c:Nat)(p:Option Addr)(rs:List aI)(x:af)(w:ae)(hn:rs.length<=100000)(hp:rs≠[]->p=some ⟨b,0,none⟩)(hv:eU w b rs)(hx:∀q∈rs,q.out≠x):
  Calls au 107 #[.slice p rs.length c,.string x] w fun e w'=>e=.returned (.int .i64 (-1))/\w'=w:=by
 have:=Di b c p rs x w hn hp hv;rcases(Kb rs x).ex with⟨e,-⟩|⟨i,hi,e,q⟩
 ·rw[e] at this;exact this
 ·exact absurd q (hx _ (aG hi))
theorem Kg(p:Option Addr)(b c:Nat)(rs:List aI)(NM:aI->List af)(NB:aI->Nat)(RK:af->Nat)(w:ae)(hR:pR w p b rs NM NB)(hY:Dj rs NM RK)(k:Nat)(hk:k<rs.length)(hc:rs.length<=c):
  Calls au 66 #[.slice p rs.length c,.int .i64 k] w fun e w'=>e=.returned (.int .i64 0)/\Below w.heap.size w w'/\w.heap.size<=w'.heap.size:=by
 have xc:=hR.gT;obtain⟨ep,hb⟩:=hR.ptr (fun e=>by rw[e] at hk;simp at hk);subst ep;obtain⟨c0,c1,c2⟩:=hR.at_ k hk;obtain⟨n1,n2,n3,n4⟩:=hR.nm rs[k] (aG hk);have y1:=hY.outs rs[k] (aG hk);have y2:=hY.ins rs[k] (aG hk);obtain⟨y3,y4⟩:=hY.eR rs[k] (aG hk);rw[n1] at c2;have QC:∀q∈rs.take k,q.out≠rs[k].out:=fun q hq e=>by
  obtain⟨j,hj,rfl⟩:=bc hq;have r8:j<k:=by simp at hj;omega
  rw[fY] at e;have:=List.pairwise_iff_getElem.1 hY.nodup j k dV dV r8;simp at this;exact this e
 have gw:∀x:Obj,Below w.heap.size w (w.alloc x):=fun x=>(Below.refl _ _).alloc (ag _) _;have pg:∀x:Obj,eU (w.alloc x) b (rs.take k):=fun x i hi=>by
  have ma:i<rs.length:=by simp at hi;omega
  have:=(hR.at_.below hb (gw x)) i ma;simpa using this
 have iB:=fun x=>G8 (NB rs[k]) rs[k].sc rs[k].sa (NM rs[k]) (w.alloc x) aa (fun q=>(n2 q).1) (fun j hj=>n3.below (n2 (fun e=>by rw[e] at hj;simp at hj)).2 (gw x) j hj) y2;have zo:=fun x=>Kc rs[k].out y1 (w.alloc x);have Io:=fun x=>QB rs[k].eR (w.alloc x) y3 y4;have rT:=fun x n=>Kf b c (some ⟨b,0,none⟩) (rs.take k) rs[k].out ((w.alloc x).drewN n) dV (fun _=>rfl) (fun i hi=>pg x i hi) QC;have LI:(rs.take k).length=k:=dV;simp only[LI] at rT;have n4I:¬(4:Int)<((NM rs[k]).length:Int):=aa;have hkc:k<=c:=aa;have aiC:(k:Int)<=(c:Int):=aa;clear pg gw n2 n3 QC;generalize rs[k].out=y at *;generalize rs[k].eR=rc at *;generalize rs[k].sa=sa at *;generalize rs[k].sc=sc at *;generalize (NM rs[k]).length=nl at *;go_enter func66,ntmps66;go_wp2_with (first
  | (go_at_call 68;refine(zo _).mono ?_;rintro e w' ⟨rfl,rfl⟩)
  | (go_at_call 105;refine(iB _).mono ?_;rintro e w' ⟨rfl,rfl⟩)
  | (go_at_call 106;refine(Io _).mono ?_;rintro e w' ⟨rfl,rfl⟩))
 go_quiet (first|(go_at_call 107;refine Calls.quiet_of_same (rT _ _)))
 go_wp2;go_ret;have hB:=(Below.refl w.heap.size w).alloc (ag _) (.cells #[.string y,.int .i64 rc,.slice sa nl sc] 42);exact⟨rfl,⟨hB.os,hB.tape,hB.output,hB.size,hB.block⟩,hB.size⟩
theorem QD(p:Option Addr)(b c:Nat)(rs:List aI)(NM:aI->List af)(NB:aI->Nat)(RK:af->Nat)(w:ae)(hR:pR w p b rs NM NB)(hY:Dj rs NM RK)(hc:rs.length<=c):
  Calls au 39 #[.slice p rs.length c] w fun e w'=>e=.returned (.tuple #[.int .i64 0,.int .i64 0])/\Below w.heap.size w w'/\w.heap.size<=w'.heap.size:=by
 have xc:=hR.gT;have h8:¬(8:Int)<(rs.length:Int):=aa;go_enter func39,ntmps39;go_wp2;go_loopw [12] (fun i w'=>∃k:Nat,k<=rs.length/\i=.int .i64 k/\Below w.heap.size w w'/\w.heap.size<=w'.heap.size) (fun i _=>rs.length-(intOf i).toNat)
 case atStart=>exact⟨0,aU _,rfl,Below.refl _ _,ag _⟩
 case round =>
  obtain⟨k,hk,rfl,gw,hz⟩:=hrel;by_cases cy:k<rs.length
  ·have aiD:=Kg p b c rs NM NB RK _ (hR.below gw) hY k cy hc;go_wp2_with (go_at_call 66;refine aiD.mono ?_;rintro e w2 ⟨rfl,pA,Ti⟩);exact⟨⟨k+1,aa,by go_num,gw.trans (pA.mono hz),aa⟩,by simp[intOf];omega⟩
  ·have XF:=Dk (fun i=>((rs[i]?).map fun r=>RK r.out).getD 0) p b c rs NM NB _ (hR.below gw) (fun i hi x hx j hj e=>by
    simp only[bo hi,bo hj,aJ,bq];rw[e];exact hY.Ep _ (aG hi) x hx (by rw[<- e];exact List.mem_map.2 ⟨_,aG hj,rfl⟩))
   go_wp2_with (go_at_call 67;refine XF.mono ?_;rintro e w2 ⟨rfl,pA,Ti⟩)
   go_ret2
   exact⟨rfl,gw.trans (pA.mono hz),aa⟩
end
section
open Go.RowKit
theorem TQ:(au.info? 44).map (fun i=>(i.zero,i.size,i.bytes))=some (some (.agg #[.string aO,.string aO]),2,32):=ah
def fN(fs:List (af×af)):List Value:=(fs.map fun f=>[Value.string f.1,.string f.2]).flatten
theorem Es(fs:List (af×af))(f:af×af):fN (fs++[f])=fN fs++[.string f.1,.string f.2]:=by simp[fN]
theorem wq:∀(fs:List (af×af)) (i:Nat) (h:i<fs.length),(fN fs)[i*2]?=some (.string fs[i].1)/\(fN fs)[i*2+1]?=some (.string fs[i].2)
 |f::fs,0,h=>by simp[fN]
 |f::fs,i+1,h=>by
  have ih:=wq fs i (by simpa using h);have e:fN (f::fs)=.string f.1 :: .string f.2::fN fs:=by simp[fN]
  have e2:(i+1)*2=i*2+1+1:=aa;rw[e,e2];simpa using ih
theorem mo(fs:List (af×af)):(fN fs).length=fs.length*2:=by
 induction fs with
 |nil=>rfl
 |cons f fs ih =>
  have e:fN (f::fs)=.string f.1 :: .string f.2::fN fs:=by simp[fN]
  rw[e];simp[ih];omega
def lM(w:ae)(b:Nat)(fs:List (af×af)):Prop:=∀i (h:i<fs.length),w.cell? ⟨b,i*2,none⟩=some (.string fs[i].1)/\w.cell? ⟨b,i*2+1,none⟩=some (.string fs[i].2)
theorem lM.below{w w':ae}{b:Nat}{fs:List (af×af)}(h:lM w b fs)(hb:b<w.heap.size)(hw:Below w.heap.size w w'):lM w' b fs:=fun k hk=>by
 obtain⟨hc,-⟩:=vX hw;rw[hc _ _ hb,hc _ _ hb];exact h k hk
theorem tt(W:ae)(lo:Nat)(v:Value)(fs:List (af×af))(x t:af)(A:Nat)(h:W.ownsRow lo 44 2 v fs.length (fN fs))(hn:fs.length<=100000)(vF:lo<=W.heap.size)(c0:W.cell? ⟨A,0,none⟩=some (.string x))(c1:W.cell? ⟨A,1,none⟩=some (.string t)):
  ∃v' W',(Builtin.append_ #[37,37] 37 #[v,.slice (some ⟨A,0,none⟩) 1 1]).run au W=.ok v' W'/\W'.ownsRow lo 44 2 v' (fs++[(x,t)]).length (fN (fs++[(x,t)]))/\W.grownBy W' v.ownBlock:=by
 obtain⟨i,hi,od⟩:=Option.map_eq_some_iff.1 TQ;simp only[bt] at od;obtain⟨v',W',e1,e2,e3,_⟩:=run_append_own (P:=au) W lo 37 37 44 i _ 2 32 underlying37 hi od.1 od.2.1 od.2.2 rfl aa v fs.length (fN fs) h ⟨A,0,none⟩ 1 1 [.string x,.string t] rfl (fun j u hj=>by
  match j,hj with
  |0,hj=>simp at hj;subst hj;simpa[Addr.add] using c0
  |1,hj=>simp at hj;subst hj;simpa[Addr.add] using c1) (by simp;exact⟨rfl,rfl⟩) (by simp[maxLen];omega) aa vF
 exact⟨v',W',e1,by rw[Es];simpa using e2,e3⟩
theorem mE{w:ae}{lo e sz n:Nat}{v:Value}{xs:List Value}(h:w.ownsRow lo e sz v n xs):∃p l c,v=.slice p l c:=by
 obtain⟨_,hc⟩:=h;rcases hc with⟨rfl,_⟩|⟨g,cap,cur,rfl,h1,_⟩
 ·exact⟨_,_,_,rfl⟩
 ·exact⟨_,_,_,rfl⟩
def Ha(fs:List (af×af))(x:af):Bool:=inL (fs.map (·.1)) x
def sT(fs:List (af×af))(x:af):List (af×af):=fs.filter fun f=>decide (f.1≠x)
def qy(fs:List (af×af))(x t:af)(there:Bool):List (af×af):=sT fs x++(if there then[(x,t)] else[])
theorem Kh(fs:List (af×af))(x:af):(sT fs x).length<=fs.length:=ff _ _
theorem QE(fs:List (af×af))(x:af)(k:Nat)(h:k<fs.length):sT (fs.take (k+1)) x=sT (fs.take k) x++(if fs[k].1=x then[] else[fs[k]]):=by
 rw[take_succ fs k h,sT,List.filter_append];by_cases e:fs[k].1=x
 ·simp[sT,e]
 ·simp[sT,e]
theorem WL(S b c:Nat)(kv rv:Value)(ed:Int)(p:Option Addr)(fs:List (af×af))(x:af)(w:ae)(hS:w.cell? ⟨S,2,none⟩=some (.slice p fs.length c))(hn:fs.length<=1000)(hp:fs≠[]->p=some ⟨b,0,none⟩)(hf:lM w b fs):
  Calls au 35 #[.pointer (some ⟨S,0,none⟩),.string x] w fun e w'=>e=.returned (.bool (Ha fs x))/\w'=w:=by
 go_enter func35,ntmps35;go_wp2;go_loop [5] (fun i=>∃k:Nat,k<=fs.length/\i=.int .i64 k/\x∉(fs.take k).map (·.1)) (fun i=>fs.length-(intOf i).toNat)
 case atStart=>exact⟨0,aU _,rfl,aj⟩
 case round =>
  obtain⟨k,hk,rfl,hs⟩:=hrel;by_cases cy:k<fs.length
  ·have e:=hp (fun e=>by rw[e] at cy;simp at cy);subst e;obtain⟨h1,-⟩:=hf k cy;have hm:fs[k].1∈fs.map (·.1):=List.mem_map.2 ⟨_,aG cy,rfl⟩;have tB:(fs.take (k+1)).map (·.1)=(fs.take k).map (·.1)++[fs[k].1]:=by rw[take_succ fs k cy,gI];rfl
   generalize fs[k].1=y at *;by_cases hx:y=x
   ·have rN:Ha fs x=true:=(Br x _).2 (hx▸hm);clear tB hm hs;subst hx;go_wp2;go_ret;exact⟨rfl,rfl⟩
   ·have hxl:=vp hx;go_wp2
    go_round
    case rel=>exact⟨k+1,aa,by go_num,by rw[tB];simp only[List.mem_append,List.mem_singleton];exact fun q=>q.elim hs fun e=>hx e.symm⟩
    case measure=>simp[intOf];omega
  ·rw[cH aa] at hs;have rN:Ha fs x=false:=by
    cases h:Ha fs x
    ·rfl
    ·exact absurd ((Br x _).1 h) hs
   go_wp2;go_ret;exact⟨rfl,rfl⟩
theorem WM(S b c:Nat)(p:Option Addr)(fs:List (af×af))(x t:af)(there:Bool)(w:ae)(hS:w.cell? ⟨S,2,none⟩=some (.slice p fs.length c))(hSf:w.frozen? ⟨S,2,none⟩=false)(hSz:S<w.heap.size)(hn:fs.length<=1000)(hp:fs≠[]->p=some ⟨b,0,none⟩/\b<w.heap.size)(hf:lM w b fs):
  Calls au 22 #[.pointer (some ⟨S,0,none⟩),.string x,.string t,.bool there] w fun e w'=>e=.returned (.tuple #[])/\∃v w2,Below w.heap.size w w2/\w.heap.size<=w2.heap.size/\w2.ownsRow w.heap.size 44 2 v (qy fs x t there).length (fN (qy fs x t there))/\w'=w2.setCell ⟨S,2,none⟩ v:=by
 go_enter func22,ntmps22;go_wp2;go_loopw [8,9] (fun v i w'=>∃k:Nat,k<=fs.length/\i=.int .i64 k/\Below w.heap.size w w'/\w.heap.size<=w'.heap.size/\w'.ownsRow w.heap.size 44 2 v (sT (fs.take k) x).length (fN (sT (fs.take k) x))) (fun v i _=>fs.length-(intOf i).toNat)
 case atStart=>exact⟨0,aU _,rfl,Below.refl _ _,ag _,by simp[sT,fN],.inl ⟨rfl,rfl⟩⟩
 case round =>
  obtain⟨k,hk,rfl,gw,hz,cj⟩:=hrel;have XA:=(gw.cell (p:=⟨S,2,none⟩) hSz).trans hS;have apt:=(gw.frozen (p:=⟨S,2,none⟩) hSz).trans hSf;by_cases cy:k<fs.length
  ·obtain⟨e,hb⟩:=hp (fun e=>by rw[e] at cy;simp at cy);subst e;obtain⟨h1,h2⟩:=hf.below hb gw k cy;have Ej:=QE fs x k cy;have hl:=Kh (fs.take k) x;have QX:(fs.take k).length<=k:=dV;generalize sT (fs.take k) x=raw at *;generalize fs[k]=f at *;obtain⟨y,ty⟩:=f;simp only at h1 h2 Ej;by_cases hx:y=x
   ·rw[if_pos hx,List.append_nil] at Ej;subst hx;go_wp2;exact⟨⟨k+1,aa,by go_num,gw,hz,by rw[Ej];exact cj⟩,by simp[intOf];omega⟩
   ·rw[if_neg hx] at Ej;have hxl:=vp hx;obtain⟨v',W',e1,e2,e3⟩:=tt (wr.alloc (.cells #[.string y,.string ty] 44)) w.heap.size _ _ y ty wr.heap.size (pZ cj _) aa dV (oX _ _ _ 0) (oX _ _ _ 1);have xn:=Below.grown (gw.alloc aa _) e3 dV (zF cj);go_wp2_with (at_builtin;refine gm rfl _ _ 37 rfl rfl rfl e1 ?_);exact⟨⟨k+1,aa,by go_num,xn,xn.size,by rw[Ej];exact e2⟩,by simp[intOf];omega⟩
  ·rw[cH aa] at cj;have hl:=Kh fs x;have AT:qy fs x t there=sT fs x++(if there then[(x,t)] else[]):=rfl;generalize sT fs x=raw at *;cases there
   ·have TR:qy fs x t false=raw:=by rw[AT];simp
    clear AT;obtain⟨sp,sl,sc,rfl⟩:=mE cj;go_wp2
    go_end0
    exact⟨rfl,_,_,gw,hz,by rw[TR];exact cj,rfl⟩
   ·have TR:qy fs x t true=raw++[(x,t)]:=by rw[AT];simp
    clear AT;obtain⟨v',W',e1,e2,e3⟩:=tt (wr.alloc (.cells #[.string x,.string t] 44)) w.heap.size _ _ x t wr.heap.size (pZ cj _) aa dV (oX _ _ _ 0) (oX _ _ _ 1);have xn:=Below.grown (gw.alloc aa _) e3 dV (zF cj);obtain⟨sp,sl,sc,rfl⟩:=mE e2;have hc3:=(xn.cell (p:=⟨S,2,none⟩) hSz).trans hS;have apu:=(xn.frozen (p:=⟨S,2,none⟩) hSz).trans hSf;go_wp2_with (at_builtin;refine gm rfl _ _ 37 rfl rfl rfl e1 ?_)
    go_end0
    exact⟨rfl,_,_,xn,xn.size,by rw[TR];exact e2,rfl⟩
end
section
open Go.RowKit
theorem MP(b c:Nat)(p:Option Addr)(ts:List af)(w:ae)(hn:ts.length<=100000)(hp:p=none->ts=[])(hq:ts≠[]->p=some ⟨b,0,none⟩)(ht:fy w b 0 ts):
  Calls au 51 #[.slice p ts.length c] w fun e w'=>∃v,e=.returned v/\w'.ownsRow w.heap.size 9 1 v ts.length (ts.map .string)/\Below w.heap.size w w'/\w.heap.size<=w'.heap.size:=by
 cases p with
 |none =>
  obtain rfl:=hp rfl;refine(Tryz.slices_Clone_string_nil _ _ w).mono fun e w' hq=>?_;obtain⟨rfl,rfl⟩:=hq;exact⟨_,rfl,⟨aj,.inl ⟨rfl,rfl⟩⟩,Below.refl _ _,ag _⟩
 |some a =>
  by_cases dH:ts=[]
  ·subst dH;refine(Tryz.slices_Clone_string_zero a _ w).mono fun e w' hq=>?_;obtain⟨v',rfl,h1,-,h2⟩:=hq;exact⟨_,rfl,h1,h2,h2.size⟩
  ·have e:=hq dH;cases e;refine(Tryz.slices_Clone_string b 0 ts.length c ts w (ag _) aa (fun j hj=>?_)).mono fun e w' hq=>?_
   ·rw[ht j hj];simp[hj]
   ·obtain⟨v',rfl,h1,h2⟩:=hq;rw[cS] at h1;exact⟨_,rfl,h1,h2.2,h2.2.size⟩
def eM(rs:List aI):List Value:=(rs.map aI.cells).flatten
theorem qz(r:aI)(rs:List aI):eM (r::rs)=.string r.out :: .int .i64 r.eR :: .slice r.sa r.sl r.sc::eM rs:=by simp[eM,aI.cells]
theorem rJ(rs:List aI):(eM rs).length=rs.length*3:=by
 induction rs with
 |nil=>rfl
 |cons r rs ih =>
  rw[qz];simp[ih];omega
theorem oh:∀(rs:List aI) (i:Nat) (h:i<rs.length),(eM rs)[i*3]?=some (.string rs[i].out)/\(eM rs)[i*3+1]?=some (.int .i64 rs[i].eR)/\(eM rs)[i*3+2]?=some (.slice rs[i].sa rs[i].sl rs[i].sc)
 |r::rs,0,h=>by simp[qz]
 |r::rs,i+1,h=>by
  have ih:=oh rs i (by simpa using h);have e2:(i+1)*3=i*3+1+1+1:=aa;rw[qz,e2];simpa using ih
theorem Et(rs:List aI):∀u∈eM rs,u.oneCell'=true:=fun u hu=>by
 simp only[eM,List.mem_flatten,List.mem_map] at hu;obtain⟨l,⟨r,-,rfl⟩,hu⟩:=hu;simp[aI.cells] at hu;rcases hu with rfl|rfl|rfl<;>rfl
theorem Eu{w:ae}{b:Nat}{rs:List aI}(h:eU w b rs):∀j u,(eM rs)[j]?=some u->w.cell? ⟨b,j,none⟩=some u:=fun j u hu=>by
 have hj:j<rs.length*3:=by
  rw[<- rJ];exact(List.getElem?_eq_some_iff.1 hu).1
 have hi:j/3<rs.length:=aa;obtain⟨c0,c1,c2⟩:=oh rs (j/3) hi;obtain⟨d0,d1,d2⟩:=h (j/3) hi;have h3:j=j/3*3\/j=j/3*3+1\/j=j/3*3+2:=aa;generalize j/3=i at *;rcases h3 with rfl|rfl|rfl
 ·rw[c0] at hu;rw[d0];exact hu
 ·rw[c1] at hu;rw[d1];exact hu
 ·rw[c2] at hu;rw[d2];exact hu
theorem TS:(au.info? 222).map (fun i=>(i.zero,i.size,i.bytes))=some (some (.agg #[.bool false,.slice none 0 0,.bool false,.string aO]),4,56):=ah
theorem Ev(w:ae)(n:Nat)(hn:n<=100000):(Instr.makeSlice 148 (.int .i64 (n:Int)) (.int .i64 (n:Int))).run au w=.ok (.slice (some ⟨w.heap.size,0,none⟩) n n) (w.alloc (.cells (madeCells #[.bool false,.slice none 0 0,.bool false,.string aO] (n*4)) 222)):=by
 obtain⟨i,hi,hz⟩:=Option.map_eq_some_iff.1 TS;simp only[bt] at hz;obtain⟨hz,hs,hb⟩:=hz;have:=run_make (P:=au) w 148 222 i _ underlying148 hi hz .i64 .i64 n n aa (fK _) (by rw[hb];omega) aa;rw[this,hs];simp[Value.cells]
theorem Hb{w:ae}{lo e sz n:Nat}{v:Value}{xs:List Value}(h:w.ownsRow lo e sz v n xs){p:Option Addr}{l c:Nat}(hv:v=.slice p l c):l=n:=by
 obtain⟨h0,hc⟩:=h;rcases hc with⟨rfl,h2⟩|⟨g,cap,cur,rfl,h1,_⟩
 ·cases hv;exact h2.symm
 ·cases hv;rfl
def sU(j:Nat):Value:=match j%4 with
 |0=>.bool false
 |1=>.slice none 0 0
 |2=>.bool false
 |_=>.string aO
def uL(lo hi:Nat)(v:Value)(ts:List af)(w':ae):Prop:=(v=.slice none 0 0/\ts=[])\/∃g cap,v=.slice (some ⟨g,0,none⟩) ts.length cap/\lo<g/\g<hi/\fy w' g 0 ts
theorem uL.keep{lo hi ma:Nat}{v:Value}{ts:List af}{w w':ae}(h:uL lo hi v ts w)(hz:hi<=ma)(e:∀g,lo<g->g<hi->w'.heap[g]?=w.heap[g]?):uL lo ma v ts w':=by
 rcases h with h|⟨g,cap,h1,h2,h3,h4⟩
 ·exact .inl h
 ·exact .inr ⟨g,cap,h1,h2,aa,fun k hk=>(World.cell?_of_block (w:=w) (w':=w') (a:=⟨g,0+k,none⟩) (e g h2 h3)).trans (h4 k hk)⟩
theorem QF{lo:Nat}{v:Value}{ts:List af}{w1 w2:ae}(h:w2.ownsRow w1.heap.size 9 1 v ts.length (ts.map .string))(vF:lo<w1.heap.size):uL lo w2.heap.size v ts w2:=by
 have h0:=h;obtain⟨h4,h5⟩:=h;rcases h5 with⟨e1,e2⟩|⟨g,cap,cur,rfl,q1,q2,q3,q4,q5,q6⟩
 ·refine .inl ⟨e1,?_⟩;cases ts with
  |nil=>rfl
  |cons r rs=>simp at e2
 ·have hg:g<w2.heap.size:=aZ fun q=>by
   rw[cG (de q)] at q2;cases q2
  refine .inr ⟨g,cap,rfl,aa,hg,fun i hi=>?_⟩;have hc:=h0.cells (g:=g) rfl i (.string ts[i]) (by simp[hi]);have ha:(⟨g,0,none⟩:Addr).add i=⟨g,i,none⟩:=by simp[Addr.add];omega
  rw[ha] at hc;rw[bB];exact hc
structure BI(w:ae)(rs:List aI)(NM:aI->List af)(Ru k:Nat)(w':ae):Prop where
 MN:Below w.heap.size w w'
 ru:rs≠[]->w.heap.size<=Ru/\Ru<w'.heap.size
 row:rs≠[]->∃N f,w'.rowIs Ru 42 N f/\rs.length*3<=N/\∀i (h:i<rs.length),f (i*3)=.string rs[i].out/\f (i*3+1)=.int .i64 rs[i].eR/\(k<=i->f (i*3+2)=.slice rs[i].sa rs[i].sl rs[i].sc)/\(i<k->uL Ru w'.heap.size (f (i*3+2)) (NM rs[i]) w')
structure MQ(lo:Nat)(rs:List aI)(NM:aI->List af)(v:Value)(w':ae):Prop where
 ex:∃(bb Rb Ru c:Nat) (p':Option Addr) (f:Nat->Value),v=.pointer (some ⟨bb,0,none⟩)/\lo<=Rb/\Rb<bb/\bb<w'.heap.size/\((p'=none/\rs=[])\/(p'=some ⟨Ru,0,none⟩/\lo<=Ru/\Ru<Rb)) /\
  (∀i (h:i<rs.length),w'.cell? ⟨Ru,i*3,none⟩=some (.string rs[i].out)/\w'.cell? ⟨Ru,i*3+1,none⟩=some (.int .i64 rs[i].eR)/\w'.cell? ⟨Ru,i*3+2,none⟩=some (f i)/\uL Ru Rb (f i) (NM rs[i]) w') /\
  w'.heap[bb]?=some (KW (.slice p' rs.length c) (.int .u32 0) (.int .i32 0) (.int .u32 0) (.slice none 0 0) (.slice none 0 0) (.slice none 0 0) (.slice (some ⟨Rb,0,none⟩) rs.length rs.length)) /\
  w'.rowIs Rb 222 (rs.length*4) sU
theorem TT(p:Option Addr)(b c:Nat)(rs:List aI)(NM:aI->List af)(NB:aI->Nat)(w:ae)(hR:pR w p b rs NM NB)(hp:p=none->rs=[])(hpi:∀r∈rs,r.sa=none->NM r=[]):
  Calls au 41 #[.slice p rs.length c] w fun e w'=>∃v,e=.returned v/\Below w.heap.size w w'/\w.heap.size<=w'.heap.size/\MQ w.heap.size rs NM v w':=by
 have xc:=hR.gT;have fu:=Er b c rs.length p (eM rs) w (rJ rs) aa (fun e=>by rw[hp e];rfl) (fun dH=>(hR.ptr (fun e=>dH (by rw[e];rfl))).1) (Eu hR.at_) (Et rs);have Je:=fun w=>Ev w rs.length aa;go_enter func41,ntmps41;go_wp2_with (go_at_call 71;refine fu.mono ?_;rintro e w1 ⟨v1,rfl,Ki,Bo,VW⟩;obtain⟨p',sl,c',HI⟩:=mE Ki;have hsl:=Hb Ki HI;subst hsl;subst HI);obtain⟨Ru,fX,hB0⟩:∃Ru,((p'=none/\rs=[])\/(p'=some ⟨Ru,0,none⟩/\w.heap.size<=Ru/\Ru<w1.heap.size))/\BI w rs NM Ru 0 w1:=by
  rcases Ki.2 with⟨e1,e2⟩|⟨g,cap,cur,e1,q1,q2,q3,q4,q5,q6⟩
  ·have Cn:rs=[]:=List.length_eq_zero_iff.1 e2;injection e1 with e1 _ _;exact⟨0,.inl ⟨e1,Cn⟩,Bo,fun q=>absurd Cn q,fun q=>absurd Cn q⟩
  ·have hg:g<w1.heap.size:=aZ fun q=>by
    rw[cG (de q)] at q2;cases q2
   have hc:=Ki.cells (g:=g) (by rw[e1];rfl);cases e1;refine⟨g,.inr ⟨rfl,q1,hg⟩,Bo,fun _=>⟨q1,hg⟩,fun _=>⟨cur.size,fun j=>cur.getD j undef,⟨cur,q2,rfl,fun j hj=>by simp[hj]⟩,by rw[q5];exact iQ _ q3,fun i hi=>?_⟩⟩;obtain⟨c0,c1,c2⟩:=oh rs i hi;have cc:∀j u,(eM rs)[j]?=some u->cur.getD j undef=u:=fun j u hu=>by
    have:=hc j u hu;have hj:j<rs.length*3:=by
     rw[<- rJ];exact(List.getElem?_eq_some_iff.1 hu).1
    have hj2:j<cur.size:=by rw[q5];exact bw hj (iQ _ q3)
    have ha:(⟨g,0,none⟩:Addr).add j=⟨g,j,none⟩:=by simp[Addr.add];omega
    rw[ha] at this;simp[World.cell?,q2,hj2] at this;simp[hj2,this]
   exact⟨cc _ _ c0,cc _ _ c1,fun _=>cc _ _ c2,fun q=>aa⟩
 clear Ki Bo;go_loopw [9] (fun i w'=>∃k:Nat,k<=rs.length/\i=.int .i64 k/\BI w rs NM Ru k w'/\w1.heap.size<=w'.heap.size) (fun i _=>rs.length-(intOf i).toNat)
 case atStart=>exact⟨0,aU _,rfl,hB0,ag _⟩
 case round =>
  clear hB0;obtain⟨k,hk,rfl,hB,od⟩:=hrel;by_cases cy:k<rs.length
  ·have dH:rs≠[]:=fun e=>by rw[e] at cy;simp at cy
   rcases fX with⟨-,e⟩|⟨rfl,ly,GC⟩
   ·exact absurd e dH
   obtain⟨N,f,cj,hN,hf⟩:=hB.row dH;obtain⟨-,yT⟩:=hB.ru dH;obtain⟨f0,f1,f2,-⟩:=hf k cy;have c2:=cj.cell (show k*3+2<N by omega);have z2:=cj.frozen (k*3+2);rw[f2 (ag _)] at c2;obtain⟨n1,n2,n3,n4⟩:=hR.nm rs[k] (aG cy);rw[n1] at c2;have OX:=MP (NB rs[k]) rs[k].sc rs[k].sa (NM rs[k]) wr aa (hpi _ (aG cy)) (fun q=>(n2 q).1) (fun j hj=>n3.below (n2 (fun e=>by rw[e] at hj;simp at hj)).2 hB.MN j hj);go_wp2_with (go_at_call 51;refine OX.mono ?_;rintro e w2 ⟨v2,rfl,Yu,pA,Ti⟩;have rN:=QF Yu yT;have KH:=mE Yu;obtain⟨sp,sl,sc2,KH⟩:=KH;subst KH;have cc2:=(pA.cell (p:=⟨Ru,k*3+2,none⟩) yT).trans c2;have zz2:=(pA.frozen (p:=⟨Ru,k*3+2,none⟩) yT).trans z2);have ael:=World.rowIs.of_block cj (pA.block Ru yT);have on:=Go.Ren.iZ w2 Ru (k*3+2) (.slice sp sl sc2);refine⟨⟨k+1,aa,by go_num,⟨?_,fun _=>⟨ly,by rw[on.1];omega⟩,fun _=>⟨N,fun j=>if j=k*3+2 then .slice sp sl sc2 else f j,(ael.set (k*3+2) _).congr fun j hj=>rfl,hN,fun i hi=>?_⟩⟩,by rw[on.1];omega⟩,by simp[intOf];omega⟩
   ·exact(hB.MN.trans (pA.mono (by have:=hB.MN.size;omega))).setCell (by simpa using ly) _
   ·obtain⟨g0,g1,g2,g3⟩:=hf i hi;have e0:¬i*3=k*3+2:=aa;have e1:¬i*3+1=k*3+2:=aa;simp only[if_neg e0,if_neg e1];refine⟨g0,g1,fun q=>?_,fun q=>?_⟩
    ·have e2:¬i*3+2=k*3+2:=aa;rw[if_neg e2];exact g2 aa
    ·by_cases e:i=k
     ·subst e;rw[if_pos rfl];exact rN.keep (bG on.1.symm) fun g hg _=>on.2 g aa
     ·have e2:¬i*3+2=k*3+2:=aa;rw[if_neg e2];exact(g3 aa).keep (by rw[on.1];exact Ti) fun g hg DK=>(on.2 g aa).trans (pA.block g DK)
  ·have lP:k=rs.length:=aa;subst lP;go_wp2;go_ret;generalize hm:madeCells #[.bool false,.slice none 0 0,.bool false,.string aO] (rs.length*4)=mc;have hms:mc.size=rs.length*4:=by rw[<- hm];simp[size_madeCells]
   have hzw:=hB.MN.size;refine⟨_,rfl,(hB.MN.alloc aa _).alloc dV _,dV,⟨wr.heap.size+1,wr.heap.size,Ru,c',p',fun i=>((wr.cell? ⟨Ru,i*3+2,none⟩).getD undef),rfl,hzw,aa,aj,?_,fun i hi=>?_,heap_alloc2_new wr _ _,mc,heap_alloc2_old wr _ _,hms,fun j hj=>?_⟩⟩
   ·exact fX.imp id fun q=>⟨q.1,q.2.1,aa⟩
   ·have dH:rs≠[]:=fun e=>by rw[e] at hi;simp at hi
    obtain⟨N,f,cj,hN,hf⟩:=hB.row dH;obtain⟨-,yT⟩:=hB.ru dH;obtain⟨g0,g1,-,g3⟩:=hf i hi;have uG:((wr.alloc (.cells mc 222)).alloc (KW (.slice p' rs.length c') (.int .u32 0) (.int .i32 0) (.int .u32 0) (.slice none 0 0) (.slice none 0 0) (.slice none 0 0) (.slice (some ⟨wr.heap.size,0,none⟩) rs.length rs.length))).heap[Ru]?=wr.heap[Ru]?:=(alloc_old _ _ _ dV).trans (alloc_old _ _ _ yT);have TU:=World.rowIs.of_block cj uG;have d0:=TU.cell (show i*3<N by omega);have d1:=TU.cell (show i*3+1<N by omega);have d2:=TU.cell (show i*3+2<N by omega);have d3:=cj.cell (show i*3+2<N by omega);rw[g0] at d0;rw[g1] at d1;refine⟨d0,d1,?_,?_⟩
    ·show _=some ((wr.cell? ⟨Ru,i*3+2,none⟩).getD undef);rw[d3];exact d2
    show uL _ _ ((wr.cell? ⟨Ru,i*3+2,none⟩).getD undef) _ _;rw[d3];exact(g3 hi).keep (ag _) fun g _ hg=>(alloc_old _ _ _ dV).trans (alloc_old _ _ _ hg)
   ·rw[<- hm];simp only[madeCells,aK,Array.getElem?_range,hj,if_true,aJ];have h4:j%4=0\/j%4=1\/j%4=2\/j%4=3:=aa;rcases h4 with e|e|e|e<;>simp[e,sU]
end
def fileOf:List af->List V->af->V
 |k::ks,v::vs,x=>if x=k then v else fileOf ks vs x
 |_,_,_=>V0
theorem yL:∀(ks:List af) (vs:List V),(∀v∈vs,v.2.size<=12)->∀x,(fileOf ks vs x).2.size<=12
 | [],_,_,_=>by simp[fileOf,V0]
 |_::_,[],_,_=>by simp[fileOf,V0]
 |k::ks,v::vs,h,x=>by
  unfold fileOf;split
  ·exact h v aj
  ·exact yL ks vs (fun u hu=>h u (by simp[hu])) x
theorem Dl:∀(ks:List af) (vs:List V),ks.Nodup->vs.length=ks.length->vs=ks.map (fileOf ks vs)
 | [],[],_,_=>rfl
 | [],_::_,_,h=>by simp at h
 |_::_,[],_,h=>by simp at h
 |k::ks,v::vs,hn,h=>by
  have hn':=List.nodup_cons.1 hn;have ih:=Dl ks vs hn'.2 (by simpa using h);have e1:fileOf (k::ks) (v::vs) k=v:=by simp[fileOf]
  have e2:ks.map (fileOf (k::ks) (v::vs))=ks.map (fileOf ks vs):=b9 fun x hx=>by
   have:x≠k:=fun e=>hn'.1 (e▸hx);simp[fileOf,this]
  rw[aA,e1,e2,<- ih]
theorem lK.nodup{xs:List af}(h:lK xs):xs.Nodup:=List.pairwise_iff_getElem.2 fun i j hi hj E7 e=>by
 have:=h i j hi hj E7;rw[e,pX] at this;exact absurd this eu
theorem Dm{α:Type}{x:af}{v:α}:∀{l:List (af×α)},eT l x=some v->(x,v)∈l
 | [],h=>by cases h
 | (k,u)::l,h=>by
  unfold eT at h;split at h
  ·rename_i e;cases h;subst e;simp
  ·exact bD _ (Dm h)
theorem Kj{α:Type}{x:af}{v:α}{y:af×α}:∀{l:List (af×α)},y∈gN l x v->y=(x,v)\/y∈l
 | [],h=>by simpa[gN] using h
 | (k,u)::l,h=>by
  unfold gN at h;split at h
  ·rcases List.mem_cons.1 h with h|h
   ·exact .inl h
   ·exact .inr (bD _ h)
  ·rcases List.mem_cons.1 h with h|h
   ·exact .inr (h▸jD)
   ·exact(Kj h).imp id (bD _)
theorem Kk{α:Type}{x:af}{y:af×α}:∀{l:List (af×α)},y∈lT l x->y∈l
 | [],h=>by cases h
 | (k,u)::l,h=>by
  unfold lT at h;split at h
  ·exact bD _ h
  ·rcases List.mem_cons.1 h with h|h
   ·exact h▸jD
   ·exact bD _ (Kk h)
structure Sound(K:pz)(s:gQ):Prop where
 ph:s.phase<=3
 fd:s.phase=2\/s.phase=3->∃lo F,s.fd=some (lo,F)
 src:s.phase=2\/s.phase=3->s.src=fh K.B.NM K.B.rs
 idle:s.phase<=1->s.src=[]/\s.rd=[]/\s.ck=0
 early:s.phase=2->s.ck=0
 full:s.phase=3->s.rd.length=s.src.length
 rd:∀x∈s.rd,x.1.2.size<=12
 th:∀x∈s.th,x.2.size<=12
 once:s.qn.Nodup
 lost:s.lost=true->4<=s.qn.length
theorem Dn{ts:List af}{lost:Bool}{x:af}(hn:ts.Nodup)(hl:lost=true->4<=ts.length):(jC ts lost x).1.Nodup/\((jC ts lost x).2=true->4<=(jC ts lost x).1.length)/\(∀y,y∈(jC ts lost x).1->y=x\/y∈ts)/\(∀y∈ts,y∈(jC ts lost x).1)/\(x∈(jC ts lost x).1\/(jC ts lost x).2=true)/\(lost=true->(jC ts lost x).2=true):=by
 unfold jC;by_cases hc:Lib.containsS ts x=true
 ·rw[if_pos hc];exact⟨hn,hl,fun y hy=>.inr hy,fun y hy=>hy,.inl ((Lib.containsS_iff _ _).1 hc),id⟩
 ·rw[if_neg hc];have hx:x∉ts:=fun q=>hc ((Lib.containsS_iff _ _).2 q);by_cases h4:4<=ts.length
  ·rw[if_pos h4];exact⟨hn,fun _=>h4,fun y hy=>.inr hy,fun y hy=>hy,.inr rfl,fun _=>rfl⟩
  ·rw[if_neg h4];refine⟨?_,fun q=>absurd (hl q) h4,fun y hy=>?_,fun y hy=>by simp[hy],.inl aj,id⟩
   ·refine List.nodup_append.2 ⟨hn,aj,fun a ha b hb e=>?_⟩;simp at hb;exact hx (by rw[<- hb,<- e];exact ha)
   ·simp at hy;exact hy.symm
section
variable {Fin:bK} {o:aM} {w:ae} {K:pz} {s s':gQ} {lab:Nat->Nat}
theorem Sound.tick(h:Sound K s)(t:Nat):Sound K {s with time:=t}:=⟨h.ph,h.fd,h.src,h.idle,h.early,h.full,h.rd,h.th,h.once,h.lost⟩
theorem Sound.edit(h:Sound K s){x t:af}(ht:t.size<=12)(st':List (af×Int))(qJ:Value):Sound K {s with th:=gN s.th x t,st:=st',qv:=qJ,qn:=(jC s.qn s.lost x).1,lost:=(jC s.qn s.lost x).2}:=by
 obtain⟨q1,q2,-⟩:=Dn (x:=x) h.once h.lost;refine⟨h.ph,h.fd,h.src,h.idle,h.early,h.full,h.rd,fun y hy=>?_,q1,q2⟩;rcases Kj hy with rfl|hy
 ·exact ht
 ·exact h.th y hy
theorem Sound.remove(h:Sound K s){x:af}(st':List (af×Int))(qJ:Value):Sound K {s with th:=lT s.th x,st:=st',qv:=qJ,qn:=(jC s.qn s.lost x).1,lost:=(jC s.qn s.lost x).2}:=by
 obtain⟨q1,q2,-⟩:=Dn (x:=x) h.once h.lost;exact⟨h.ph,h.fd,h.src,h.idle,h.early,h.full,h.rd,fun y hy=>h.th y (Kk hy),q1,q2⟩
theorem Sound.stand(h:Sound K s){p t:Nat}(hp:p<=1):Sound K (s.stand p t):=by
 refine⟨?_,?_,?_,?_,?_,?_,?_,h.th,h.once,h.lost⟩<;>simp only[gQ.stand]
 ·omega
 ·omega
 ·omega
 ·exact fun _=>⟨trivial,trivial,trivial⟩
 ·omega
 ·omega
 ·simp
theorem Sound.checked{F:cY}{file:af->V}{v:Value}(h:Sound K s)(h3:s.phase=3)(hc:Checked K s s' F file v):Sound K s':=by
 rcases hc with⟨-,-,ij,Qx,sn,sr,-,rfl⟩|⟨h1,h2,⟨-,-,rfl⟩|⟨-,-,rfl⟩⟩
 ·have q:=h.stand (p:=0) (t:=0) aa;exact⟨q.ph,q.fd,q.src,q.idle,q.early,q.full,q.rd,q.th,q.once,q.lost⟩
 ·exact h.stand aa
 ·exact⟨h.ph,h.fd,h.src,fun q=>by have:s.phase<=1:=q;omega,fun q=>by have:s.phase=2:=q;omega,h.full,h.rd,h.th,h.once,h.lost⟩
theorem Sound.late(h:Sound K s)(h2:s.phase=2)(hf:s.rd.length=s.src.length):Sound K {s with phase:=3} :=
 ⟨aj,fun _=>h.fd (.inl h2),fun _=>h.src (.inl h2),fun q=>by simp at q,fun q=>by simp at q,fun _=>hf,h.rd,h.th,h.once,h.lost⟩
theorem AD{th:List (af×af)}(h:∀x∈th,x.2.size<=12)(x:af):(dU th x).2.size<=12:=by
 unfold dU;split
 ·rename_i t e;exact h _ (Dm e)
 ·simp[V0]
theorem Sound.work{F:cY}{file:af->V}{v:Value}(h:Sound K s)(hc:jU K s s' F file v):Sound K s':=by
 rcases hc with⟨h2,⟨h3,h4⟩|⟨h3,h4,MG,rfl⟩⟩|⟨h2,h3⟩|⟨h2,h3,h4⟩
 ·exact(h.late h2 h3).checked rfl h4
 ·refine⟨h.ph,h.fd,h.src,fun q=>by have:s.phase<=1:=q;omega,h.early,fun q=>by have:s.phase=3:=q;omega,fun x hx=>?_,h.th,h.once,h.lost⟩;rcases List.mem_append.1 hx with hx|hx
  ·exact h.rd x hx
  ·simp at hx;subst hx;exact AD h.th _
 ·exact h.checked h2 h3
 ·rcases h4 with⟨-,-,rfl⟩|⟨-,-,-,lo,F',MI,rfl⟩|⟨-,-,-,rfl⟩
  ·have q:Sound K {s with qv:=.slice none 0 0,qn:=[],lost:=false}:=⟨h.ph,h.fd,h.src,h.idle,h.early,h.full,h.rd,h.th,aj,aj⟩;exact q.stand aa
  ·exact⟨by simp[gQ.stand],fun _=>⟨lo,F',rfl⟩,fun _=>rfl,fun q=>by simp[gQ.stand] at q,fun _=>rfl,fun q=>by simp[gQ.stand] at q,by simp[gQ.stand],h.th,h.once,h.lost⟩
  ·exact h
theorem jU.kind{F:cY}{file:af->V}{v:Value}(hc:jU K s s' F file v):∃n x,v=did n x/\0<=n/\n<=6/\((n=1/\s'.qn=[]/\s'.lost=false)\/(n≠1/\s'.qn=s.qn/\s'.lost=s.lost))/\s'.th=s.th/\s'.st=s.st/\s'.time=s.time:=by
 have Kl:∀s s':gQ,Checked K s s' F file v->∃n x,v=did n x/\0<=n/\n<=6/\((n=1/\s'.qn=[]/\s'.lost=false)\/(n≠1/\s'.qn=s.qn/\s'.lost=s.lost))/\s'.th=s.th/\s'.st=s.st/\s'.time=s.time:=fun s s' hc=>by
  rcases hc with⟨-,e,ij,Qx,sn,sr,-,rfl⟩|⟨h1,h2,⟨-,e,rfl⟩|⟨-,e,rfl⟩⟩;all_goals exact⟨_,_,e,aa,aa,.inr ⟨aa,rfl,rfl⟩,rfl,rfl,rfl⟩
 rcases hc with⟨h2,⟨h3,h4⟩|⟨h3,e,MG,rfl⟩⟩|⟨h2,h3⟩|⟨h2,h3,h4⟩
 ·exact Kl {s with phase:=3} s' h4
 ·exact⟨_,_,e,aa,aa,.inr ⟨aa,rfl,rfl⟩,rfl,rfl,rfl⟩
 ·exact Kl _ _ h3
 ·rcases h4 with⟨-,e,rfl⟩|⟨-,-,e,lo,F',MI,rfl⟩|⟨-,-,e,rfl⟩
  ·exact⟨_,_,e,aa,aa,.inl ⟨rfl,rfl,rfl⟩,rfl,rfl,rfl⟩
  ·exact⟨_,_,e,aa,aa,.inr ⟨aa,rfl,rfl⟩,rfl,rfl,rfl⟩
  ·exact⟨_,_,e,aa,aa,.inr ⟨aa,rfl,rfl⟩,rfl,rfl,rfl⟩
theorem uM[Payload](h:bm o w K s 0 lab)(hs:Sound K s):
  bz au (XB au Fin 0) 38 #[.pointer (some ⟨K.kb,0,none⟩)] o w fun v o' w'=>∃s' lab' F,((s.phase=2\/s.phase=3)->∃lo,s.fd=some (lo,F))/\jU K s s' F (fileOf s.src (s.rd.map (·.1))) v/\Sound K s'/\bm o' w' K s' 0 lab'/\cN o w lab o' w' lab':=by
 have py:∀x,(fileOf s.src (s.rd.map (·.1)) x).2.size<=100:=fun x=>by
  have:=yL s.src (s.rd.map (·.1)) (fun v hv=>by
   obtain⟨y,hy,rfl⟩:=List.mem_map.1 hv;exact hs.rd y hy) x
  omega
 have aem:s.src=fh K.B.NM K.B.rs->s.rd.length=s.src.length->s.rd.map (·.1)=(fh K.B.NM K.B.rs).map (fileOf s.src (s.rd.map (·.1))):=fun e hl=>by
  have hn:s.src.Nodup:=by rw[e];exact(oO _).1.nodup
  have:=Dl s.src (s.rd.map (·.1)) hn (by simpa using hl);rw[<- e];exact this
 obtain⟨lo,F,hF⟩:∃(lo:Nat) (F:cY),s.phase=2\/s.phase=3->s.fd=some (lo,F):=by
  by_cases hp:s.phase=2\/s.phase=3
  ·obtain⟨lo,F,e⟩:=hs.fd hp;exact⟨lo,F,fun _=>e⟩
  ·exact⟨0,⟨[],0,0,fun _=>0,.slice none 0 0⟩,fun q=>absurd q hp⟩
 refine(aas h lo F _ py hF (fun h2 hl=>aem (hs.src (.inl h2)) hl) (fun h3=>⟨hs.full h3,aem (hs.src (.inr h3)) (hs.full h3)⟩)).mono ?_;rintro v o' w' ⟨s',lab',hw,hk,hS⟩;exact⟨s',lab',F,fun q=>⟨lo,hF q⟩,hw,hs.work hw,hk,hS⟩
end
section
open Go.RowKit (intOf)
theorem Hc(w:ae):Calls au 60 #[] w fun e w'=>e=.returned (.pointer (some ⟨w.heap.size+2,0,none⟩))/\w'=((w.alloc (.map #[] 0)).alloc (.map #[] 0)).alloc (.cells #[.map (some w.heap.size),.map (some (w.heap.size+1))] 164):=by
 have Je:∀(t:TypeId) (w:ae),(Instr.makeMap t none).run au w=.ok (.map (some w.heap.size)) (w.alloc (.map #[] 0)):=fun t w=>rfl;go_enter func60,ntmps60;go_wp2;go_ret;exact⟨rfl,rfl⟩
section
variable {Fin:bK} {o o':aM} {w w':ae}
structure Hand(o:aM)(w:ae)(p:Option Addr)(b c:Nat)(rs:List aI)(NM:aI->List af)(NB:aI->Nat)(RK:af->Nat):Prop where
 gT:rs.length<=8
 ptr:rs≠[]->p=some ⟨b,0,none⟩/\o b
 nil:p=none->rs=[]
 at_:eU w b rs
 cl:Cl au L0 o (.slice p rs.length c)
 cap:rs.length<=c
 nm:∀r∈rs,r.sl=(NM r).length/\(NM r≠[]->r.sa=some ⟨NB r,0,none⟩/\o (NB r))/\fy w (NB r) 0 (NM r)/\(NM r).length<=4
 nmn:∀r∈rs,r.sa=none->NM r=[]
 yes:Dj rs NM RK
 low:∀r∈rs,RK r.out<rs.length
theorem Hand.rin{p:Option Addr}{b c:Nat}{rs:List aI}{NM:aI->List af}{NB:aI->Nat}{RK:af->Nat}{wl:ae}(h:Hand o w p b c rs NM NB RK)(hF:bM au L0 o w)(hz:wl.heap.size=w.heap.size)(aT:∀b,o b->wl.heap[b]?=w.heap[b]?):pR wl p b rs NM NB:=by
 refine⟨h.gT,fun q=>⟨(h.ptr q).1,by rw[hz];exact hF.lt (h.ptr q).2⟩,fun i hi=>?_,fun r hr=>⟨(h.nm r hr).1,fun q=>⟨((h.nm r hr).2.1 q).1,by rw[hz];exact hF.lt ((h.nm r hr).2.1 q).2⟩,fun k hk=>?_,(h.nm r hr).2.2.2⟩⟩
 ·exact gV h.at_ (aT b (h.ptr (fun q=>by rw[q] at hi;simp at hi)).2) i hi
 ·exact dc (h.nm r hr).2.2.1 (aT _ ((h.nm r hr).2.1 (fun q=>by rw[q] at hk;simp at hk)).2) k hk
theorem Oj{p:Option Addr}{b c:Nat}{rs:List aI}{NM:aI->List af}{NB:aI->Nat}{RK:af->Nat}(hF:bM au L0 o w)(h:Hand o w p b c rs NM NB RK):
  bz au (XB au Fin 0) 39 #[.slice p rs.length c] o w fun v o' w'=>v=.tuple #[.int .i64 0,.int .i64 0]/\fT o w v o' w':=by
 refine bz.mono (eD ah hF (fun y hy=>by simp at hy;subst hy;exact h.cl) (Q:=fun wl v w'=>v=.tuple #[.int .i64 0,.int .i64 0]) (fun wl A1 v w1 w2 e1 e2 h=>h) (fun wl hz aT=>?_)) (fun v o' w' hq=>?_)
 ·refine(QD p b c rs NM NB RK wl (h.rin hF hz aT) h.yes h.cap).mono fun e w' hq=>?_;obtain⟨rfl,h1,h2⟩:=hq;exact⟨_,rfl,h2,fun b hb=>h1.block b hb,rfl⟩
 ·obtain⟨hN,wl,aV,-,-,-,h1⟩:=hq;exact⟨h1,hN⟩
theorem yM{w1 w2:ae}{b off:Nat}(e:w2.heap[b]?=w1.heap[b]?):w2.cell? ⟨b,off,none⟩=w1.cell? ⟨b,off,none⟩:=World.cell?_of_block (w:=w1) (w':=w2) (a:=⟨b,off,none⟩) e
theorem TV{p:Option Addr}{b c:Nat}{rs:List aI}{NM:aI->List af}{NB:aI->Nat}{RK:af->Nat}(hF:bM au L0 o w)(h:Hand o w p b c rs NM NB RK):
  bz au (XB au Fin 0) 41 #[.slice p rs.length c] o w fun v o' w'=>fT o w v o' w'/\MQ w.heap.size rs NM v w':=by
 refine bz.mono (eD ah hF (fun y hy=>by simp at hy;subst hy;exact h.cl) (Q:=fun wl v w'=>MQ wl.heap.size rs NM v w') (fun wl A1 v w1 w2 e1 e2 h=>?_) (fun wl hz aT=>?_)) (fun v o' w' hq=>?_)
 ·rw[e1];obtain⟨bb,Rb,Ru,c,p',f,h1,h2,h3,h4,h5,h6,h7,h8⟩:=h.ex;refine⟨bb,Rb,Ru,c,p',f,h1,h2,h3,by rw[e2];exact h4,h5,fun i hi=>?_,by rw[e2];exact h7,h8.of_block (by rw[e2])⟩;obtain⟨k1,k2,k3,k4⟩:=h6 i hi;exact⟨(yM (by rw[e2])).trans k1,(yM (by rw[e2])).trans k2,(yM (by rw[e2])).trans k3,k4.keep (ag _) fun g _ _=>by rw[e2]⟩
 ·refine(TT p b c rs NM NB wl (h.rin hF hz aT) h.nil h.nmn).mono fun e w' hq=>?_;obtain⟨v,rfl,h1,h2,h3⟩:=hq;exact⟨_,rfl,h2,fun b hb=>h1.block b hb,h3⟩
 ·obtain⟨hN,wl,aV,z1,z2,hs,h3⟩:=hq;refine⟨hN,?_⟩;rw[z1] at h3;obtain⟨bb,Rb,Ru,c,p',f,h1,h2,h3,h4,h5,h6,h7,h8⟩:=h3.ex;refine⟨bb,Rb,Ru,c,p',f,h1,h2,h3,aa,h5,fun i hi=>?_,(hs bb aa aa).trans h7,h8.of_block (hs Rb h2 aa)⟩;obtain⟨k1,k2,k3,k4⟩:=h6 i hi;have yT:w.heap.size<=Ru/\Ru<Rb:=by
   rcases h5 with⟨-,e⟩|⟨-,q1,q2⟩
   ·rw[e] at hi;simp at hi
   ·exact⟨q1,q2⟩
  have e:=hs Ru yT.1 aa;exact⟨(yM e).trans k1,(yM e).trans k2,(yM e).trans k3,k4.keep (ag _) fun g g1 g2=>hs g aa aa⟩
theorem MR(hF:bM au L0 o w):
  bz au (XB au Fin 0) 60 #[] o w fun v o' w'=>fT o w v o' w'/\v=.pointer (some ⟨w.heap.size+2,0,none⟩)/\w'.heap.size=w.heap.size+3/\w'.heap[w.heap.size]?=some (.map #[] 0)/\w'.heap[w.heap.size+1]?=some (.map #[] 0)/\w'.heap[w.heap.size+2]?=some (.cells #[.map (some w.heap.size),.map (some (w.heap.size+1))] 164):=by
 refine bz.mono (eD ah hF (fun y hy=>by simp at hy) (Q:=fun wl v w'=>v=.pointer (some ⟨wl.heap.size+2,0,none⟩)/\w'.heap.size=wl.heap.size+3/\w'.heap[wl.heap.size]?=some (.map #[] 0)/\w'.heap[wl.heap.size+1]?=some (.map #[] 0)/\w'.heap[wl.heap.size+2]?=some (.cells #[.map (some wl.heap.size),.map (some (wl.heap.size+1))] 164)) (fun wl A1 v w1 w2 e1 e2 h=>?_) (fun wl hz aT=>?_)) (fun v o' w' hq=>?_)
 ·rw[e1,e2];exact h
 ·refine(Hc wl).mono fun e w' hq=>?_;obtain⟨rfl,rfl⟩:=hq;refine⟨_,rfl,dV,fun b hb=>?_,rfl,aj,?_,?_,?_⟩
  ·rw[alloc_old _ _ _ dV,alloc_old _ _ _ dV,alloc_old _ _ _ hb]
  ·rw[alloc_old _ _ _ dV,alloc_old _ _ _ aj,jR]
  ·rw[alloc_old _ _ _ aj];exact heap_alloc2_new _ _ _
  ·have:=jR ((wl.alloc (.map #[] 0)).alloc (.map #[] 0)) (.cells #[.map (some wl.heap.size),.map (some (wl.heap.size+1))] 164);simpa using this
 ·obtain⟨hN,wl,aV,z1,z2,hs,rfl,h2,h3,h4,h5⟩:=hq;rw[z1] at h2 h3 h4 h5 hN |-;exact⟨hN,rfl,aa,(hs _ aa aa).trans h3,(hs _ aa aa).trans h4,(hs _ aa aa).trans h5⟩
end
end
def slO:Value->Option Addr
 | .slice a _ _=>a
 |_=>none
def slL:Value->Nat
 | .slice _ l _=>l
 |_=>0
def slC:Value->Nat
 | .slice _ _ c=>c
 |_=>0
def Ol(rs:List aI)(f:Nat->Value)(i:Nat):aI:=⟨((rs[i]?).map (·.out)).getD aO,((rs[i]?).map (·.eR)).getD 0,slO (f i),slL (f i),slC (f i)⟩
def jV(rs:List aI)(f:Nat->Value):List aI:=(List.range rs.length).map (Ol rs f)
theorem sV(rs:List aI)(f:Nat->Value):(jV rs f).length=rs.length:=by simp[jV]
theorem pS(rs:List aI)(f:Nat->Value)(i:Nat)(h:i<rs.length)(h':i<(jV rs f).length):(jV rs f)[i]=⟨rs[i].out,rs[i].eR,slO (f i),slL (f i),slC (f i)⟩:=by simp[jV,Ol,h]
theorem rK(rs:List aI)(f:Nat->Value):(jV rs f).map (·.out)=rs.map (·.out):=by
 apply List.ext_getElem
 ·simp[sV]
 ·intro i h1 h2;have hi:i<rs.length:=by simpa using h2
  simp[pS rs f i hi]
theorem pT{rs:List aI}{f:Nat->Value}{r:aI}(h:r∈jV rs f):∃i,∃hi:i<rs.length,r=⟨rs[i].out,rs[i].eR,slO (f i),slL (f i),slC (f i)⟩:=by
 obtain⟨i,hi,rfl⟩:=bc h;have ma:i<rs.length:=by rw[<- sV rs f];exact hi
 exact⟨i,ma,pS rs f i ma hi⟩
def Ew:List aI->(aI->List af)->af->List af
 | [],_,_=>[]
 |r::l,NM,x=>if r.out=x then NM r else Ew l NM x
theorem Om{NM:aI->List af}:∀{rs:List aI},(rs.map (·.out)).Nodup->∀r∈rs,Ew rs NM r.out=NM r
 | [],_,r,h=>by simp at h
 |q::l,hn,r,h=>by
  rw[aA,da] at hn;unfold Ew;rcases List.mem_cons.1 h with rfl|h
  ·rw[if_pos rfl]
  ·rw[if_neg (fun e=>hn.1 (by rw[e];exact List.mem_map.2 ⟨r,h,rfl⟩)),Om hn.2 r h]
structure gx(rs:List aI)(NM:aI->List af)(RK:af->Nat)(B:vk):Prop where
 len:B.rs.length=rs.length
 at_:∀i (h:i<rs.length) (h':i<B.rs.length),B.rs[i].out=rs[i].out/\B.rs[i].eR=rs[i].eR/\B.NM B.rs[i]=NM rs[i]
 outs:B.rs.map (·.out)=rs.map (·.out)
 rk:B.RK=RK
section
variable {Fin:bK} {o o':aM} {w w':ae}
theorem AE{lo:Nat}{rs:List aI}{NM:aI->List af}{RK:af->Nat}{v:Value}(hF:bM au L0 o' w')(vF:4<=lo)(own:∀b,lo<=b->b<w'.heap.size->o' b)(gT:rs.length<=8)(yes:Dj rs NM RK)(low:∀r∈rs,RK r.out<rs.length)(four:∀r∈rs,(NM r).length<=4)(pow:iW w')(N:MQ lo rs NM v w'):
  ∃B:vk,v=.pointer (some ⟨B.bb,0,none⟩)/\fL o' w' B none (fun _=>none)/\gx rs NM RK B/\(∀b,nB B none (fun _=>none) b->b=1\/(lo<=b/\b<=B.bb))/\lo<=B.bb/\B.bb<w'.heap.size:=by
 obtain⟨bb,Rb,Ru0,c,p',f,h1,h2,h3,h4,h5,h6,h7,h8⟩:=N.ex;have o1:o' 1:=hF.kp 1 (by rw[show au.globals.size=4 by kernel_rfl];omega);obtain⟨Ru,hp,yT,h6⟩:∃Ru,((p'=none/\rs=[])\/p'=some ⟨Ru,0,none⟩)/\(Ru=1\/(lo<=Ru/\Ru<Rb))/\∀i (h:i<rs.length),w'.cell? ⟨Ru,i*3,none⟩=some (.string rs[i].out)/\w'.cell? ⟨Ru,i*3+1,none⟩=some (.int .i64 rs[i].eR)/\w'.cell? ⟨Ru,i*3+2,none⟩=some (f i)/\(lo<=Ru/\uL Ru Rb (f i) (NM rs[i]) w'):=by
  rcases h5 with⟨e1,e2⟩|⟨e1,e2,e3⟩
  ·exact⟨1,.inl ⟨e1,e2⟩,.inl rfl,fun i hi=>by rw[e2] at hi;simp at hi⟩
  ·exact⟨Ru0,.inr e1,.inr ⟨e2,e3⟩,fun i hi=>⟨(h6 i hi).1,(h6 i hi).2.1,(h6 i hi).2.2.1,e2,(h6 i hi).2.2.2⟩⟩
 have oRu:o' Ru:=by
  rcases yT with rfl|q
  ·exact o1
  ·exact own Ru q.1 aa
 have hlen:=sV rs f;have zo:∀i (hi:i<rs.length),Ew rs NM rs[i].out=NM rs[i]:=fun i hi=>Om yes.nodup _ (aG hi);have GQ:∀i (hi:i<rs.length),f i=.slice (slO (f i)) (slL (f i)) (slC (f i))/\slL (f i)=(NM rs[i]).length/\((slO (f i)=none/\NM rs[i]=[])\/∃g,slO (f i)=some ⟨g,0,none⟩/\lo<=g/\g<Rb/\fy w' g 0 (NM rs[i])):=fun i hi=>by
  obtain⟨-,-,-,k1,k2⟩:=h6 i hi;rcases k2 with⟨e1,e2⟩|⟨g,cap,e1,e2,e3,e4⟩
  ·rw[e1,e2];exact⟨rfl,rfl,.inl ⟨rfl,rfl⟩⟩
  ·rw[e1];exact⟨rfl,rfl,.inr ⟨g,rfl,aa,e3,e4⟩⟩
 have hR:mq (jV rs f) (fun r=>Ew rs NM r.out) RK:=by
  refine⟨by rw[rK];exact yes.nodup,fun r hr=>?_,fun r hr x hx ho=>?_,fun r hr=>?_,fun r hr=>?_⟩;all_goals obtain⟨i,hi,rfl⟩:=pT hr
  ·rw[hlen];exact low rs[i] (aG hi)
  ·simp only[zo i hi] at hx;rw[rK] at ho;exact yes.Ep _ (aG hi) x hx ho
  ·exact yes.eR rs[i] (aG hi)
  ·simp only[zo i hi];exact four _ (aG hi)
 have Gh:∀r∈jV rs f,Ew rs NM r.out≠[]->lo<=(r.sa.map (·.block)).getD 0/\(r.sa.map (·.block)).getD 0<Rb:=fun r hr dH=>by
  obtain⟨i,hi,rfl⟩:=pT hr;simp only[zo i hi] at dH;obtain⟨-,-,q⟩:=GQ i hi;rcases q with⟨-,q⟩|⟨g,q,q1,q2,-⟩
  ·exact absurd q dH
  ·simp only[q,aJ,bq];exact⟨q1,q2⟩
 have hOK:lE o' w' p' Ru c (jV rs f) (fun r=>Ew rs NM r.out) (fun r=>(r.sa.map (·.block)).getD 0):=by
  refine⟨aa,fun dH=>?_,oRu,fun i hi=>?_,fun r hr=>?_,?_,fun r hr=>?_⟩
  ·rcases hp with⟨-,e⟩|e
   ·exact absurd (by subst e;rfl) dH
   ·exact e
  ·have ma:i<rs.length:=aa;obtain⟨k0,k1,k2,-⟩:=h6 i ma;rw[pS rs f i ma hi];refine⟨k0,k1,?_⟩;rw[k2];exact congrArg some (GQ i ma).1
  ·obtain⟨i,hi,rfl⟩:=pT hr;obtain⟨-,-,q⟩:=GQ i hi;rcases q with⟨q,-⟩|⟨g,q,q1,q2,-⟩
   ·simp only[q];exact iP
   ·simp only[q];exact dY (own g q1 aa)
  ·rcases hp with⟨e,-⟩|e
   ·rw[e];exact iP
   ·rw[e];exact dY oRu
  ·obtain⟨i,hi,rfl⟩:=pT hr;obtain⟨-,q0,q⟩:=GQ i hi;simp only[zo i hi];refine⟨q0,fun dH=>?_,?_,four _ (aG hi)⟩
   ·rcases q with⟨-,q⟩|⟨g,q,q1,q2,-⟩
    ·exact absurd q dH
    ·simp only[q,aJ,bq];exact⟨trivial,own g q1 aa⟩
   ·rcases q with⟨-,q⟩|⟨g,q,q1,q2,q3⟩
    ·rw[q];exact fun k hk=>by simp at hk
    ·simp only[q,aJ,bq];exact q3
 obtain⟨cs,r1,r2,r3⟩:=h8;have cJ:∀s,s<rs.length->∀j,j<4->w'.cell? ⟨Rb,s*4+j,none⟩=some (sU (s*4+j)):=fun s hs j hj=>World.rowIs.cell (b:=Rb) ⟨cs,r1,r2,r3⟩ (show s*4+j<rs.length*4 by omega);refine⟨⟨bb,p',Ru,c,Rb,jV rs f,fun r=>Ew rs NM r.out,fun r=>(r.sa.map (·.block)).getD 0,RK⟩,h1,⟨fun b hb=>?_,hR,hOK,?_,⟨_,_,_,by simp only[hlen];exact h7,(fun lo F e=>by cases e)⟩,(fun lo F e=>by cases e),fun _ _ _=>rfl,⟨cs,r1,by rw[r2,hlen]⟩,fun s hs r _=>?_,(fun s b vs _ e=>by cases e),pow⟩,⟨hlen,fun i h h'=>?_,rK rs f,rfl⟩,fun b hb=>?_,by simp only;omega,h4⟩
 ·rcases hb with rfl|rfl|rfl|rfl|⟨r,hr,q1,rfl⟩|⟨lo,F,q,-⟩|⟨s,vs,-,q⟩
  ·exact own _ aa h4
  ·exact oRu
  ·exact own _ h2 aa
  ·exact o1
  ·obtain⟨k1,k2⟩:=Gh r hr q1;exact own _ k1 (kC k2 aa)
  ·cases q
  ·cases q
 ·show Ru≠bb/\Rb≠bb/\(∀r∈jV rs f,Ew rs NM r.out≠[]->(r.sa.map (·.block)).getD 0≠bb)/\4<=Rb/\4<=bb/\Ru≠Rb/\(∀r∈jV rs f,Ew rs NM r.out≠[]->(r.sa.map (·.block)).getD 0≠Rb);refine⟨aa,aa,fun r hr q=>?_,aa,aa,aa,fun r hr q=>?_⟩
  ·have:=Gh r hr q;omega
  ·have:=Gh r hr q;omega
 ·simp only[hlen] at hs;have e0:s*4%4=0:=aa;have e1:(s*4+1)%4=1:=aa;have e2:(s*4+2)%4=2:=aa;have e3:(s*4+3)%4=3:=aa;refine⟨?_,?_,?_,?_⟩
  ·have:=cJ s hs 0 aa;simpa[sU,e0] using this
  ·have:=cJ s hs 1 aa;simpa[sU,e1] using this
  ·have:=cJ s hs 2 aa;simpa[sU,e2] using this
  ·have:=cJ s hs 3 aa;simpa[sU,e3] using this
 ·simp only[pS rs f i h h',zo i h];exact⟨trivial,trivial,trivial⟩
 ·rcases hb with rfl|rfl|rfl|rfl|⟨r,hr,q1,rfl⟩|⟨lo,F,q,-⟩|⟨s,vs,-,q⟩
  ·exact .inr ⟨kD (Nat.lt_of_le_of_lt h2 h3),ag _⟩
  ·rcases yT with e|q
   ·exact .inl e
   ·exact .inr ⟨q.1,kD (kC q.2 h3)⟩
  ·exact .inr ⟨h2,kD h3⟩
  ·exact .inl rfl
  ·obtain⟨k1,k2⟩:=Gh r hr q1;exact .inr ⟨k1,kD (kC k2 h3)⟩
  ·cases q
  ·cases q
end
def s0(pb:Nat):gQ where
 fd:=none
 old:=fun _=>none
 th:=[]
 st:=[]
 qv:=.slice none 0 0
 qn:=[]
 lost:=false
 time:=0
 phase:=0
 since:=0
 sv:=.slice none 0 0
 src:=[]
 rv:=.slice none 0 0
 rd:=[]
 ck:=0
 pb:=pb
 num:=0
 lu:=.slice none 0 0
 res:=[]
 mH:=.slice none 0 0
 jS:=[]
theorem TW(K:pz)(pb:Nat):Sound K (s0 pb):=⟨by simp[s0],by simp[s0],by simp[s0],fun _=>⟨rfl,rfl,rfl⟩,by simp[s0],by simp[s0],by simp[s0],by simp[s0],by simp[s0],by simp[s0]⟩
section
variable {Fin:bK} {o o':aM} {w w':ae}
theorem MQ.keep{lo:Nat}{rs:List aI}{NM:aI->List af}{v:Value}{w w':ae}(h:MQ lo rs NM v w)(hz:w.heap.size<=w'.heap.size)(e:∀b,lo<=b->b<w.heap.size->w'.heap[b]?=w.heap[b]?):MQ lo rs NM v w':=by
 obtain⟨bb,Rb,Ru,c,p',f,h1,h2,h3,h4,h5,h6,h7,h8⟩:=h.ex;refine⟨bb,Rb,Ru,c,p',f,h1,h2,h3,aa,h5,fun i hi=>?_,(e bb aa h4).trans h7,h8.of_block (e Rb h2 aa)⟩;obtain⟨k1,k2,k3,k4⟩:=h6 i hi;have yT:lo<=Ru/\Ru<Rb:=by
  rcases h5 with⟨-,e⟩|⟨-,q1,q2⟩
  ·rw[e] at hi;simp at hi
  ·exact⟨q1,q2⟩
 have e':=e Ru yT.1 aa;exact⟨(yM e').trans k1,(yM e').trans k2,(yM e').trans k3,k4.keep (ag _) fun g g1 g2=>e g aa aa⟩
def Km(lo bb mT kb pb b:Nat):Nat:=if b=kb then 0 else if b=pb then 6 else if mT<=b/\b<=mT+2 then 2 else if b=1 then 8 else if lo<=b/\b<=bb then 1 else 7
theorem MS{lo mT kb pb:Nat}{B:vk}(hF:bM au L0 o' w')(hB:fL o' w' B none (fun _=>none))(uN:∀b,nB B none (fun _=>none) b->b=1\/(lo<=b/\b<=B.bb))(vF:4<=lo)(h1:B.bb<mT)(hlb:lo<=B.bb)(h2:mT+2<kb)(h3:kb<pb)(own:∀b,lo<=b->b<w'.heap.size->o' b)(hpb:pb<w'.heap.size)(m1:w'.heap[mT]?=some (.map #[] 0))(m2:w'.heap[mT+1]?=some (.map #[] 0))(m3:w'.heap[mT+2]?=some (.cells #[.map (some mT),.map (some (mT+1))] 164))(hk:w'.heap[kb]?=some (.cells #[.int .i32 0,.int .u32 0,.pointer (some ⟨B.bb,0,none⟩),.pointer (some ⟨mT+2,0,none⟩),.slice none 0 0,.bool false,.int .i64 0,.int .i64 0,.int .i64 0,.slice none 0 0,.slice none 0 0,.int .i64 0,.pointer (some ⟨pb,0,none⟩)] 120))(hp:w'.heap[pb]?=some (.cells #[.int .i64 0,.slice none 0 0,.slice none 0 0] 59)):
  bm o' w' ⟨B,kb,mT+2,mT,mT+1⟩ (s0 pb) 0 (Km lo B.bb mT kb pb):=by
 refine⟨hF,⟨_,hk,rfl,fun j hj=>?_⟩,own kb aa aa,hB,⟨m3,⟨#[],0,m1,rfl⟩,⟨#[],0,m2,rfl⟩,⟨own (mT+2) aa aa,own mT aa aa,own (mT+1) aa aa⟩,show mT+2≠mT/\mT+2≠mT+1/\mT≠mT+1 by omega⟩,?_,⟨⟨none,0,0,rfl,fun _=>rfl,fun q=>absurd rfl q,fun k hk=>by simp[s0] at hk⟩,iP,by simp[s0]⟩,⟨⟨0,aU _,rfl,.inl ⟨rfl,rfl⟩⟩,iP,by simp[s0]⟩,⟨hp,own pb aa hpb,⟨none,0,0,rfl,fun _=>rfl,fun q=>absurd rfl q,fun i hi=>by simp[s0] at hi⟩,iP,by simp[s0],⟨⟨none,0,0,rfl,fun _=>rfl,fun q=>absurd rfl q,fun k hk=>by simp[s0] at hk⟩,iP,by simp[s0]⟩⟩,?_,fun b hb=>?_,fun b hb=>?_,(fun b hb=>by cases hb),(fun b hb=>by cases hb),(fun b hb=>by cases hb),fun b hb=>?_,by simp[s0]⟩
 ·rcases ni hj with rfl|rfl|rfl|rfl|rfl|rfl|rfl|rfl|rfl|rfl|rfl|rfl|rfl<;>rfl
 ·exact⟨⟨0,aU _,rfl,.inl ⟨rfl,rfl⟩⟩,iP⟩
 ·simp[Km]
 ·have:=uN b hb;simp only[Km];rw[if_neg aa,if_neg aa,if_neg aa];unfold ME;by_cases e:b=1
  ·rw[if_pos e,if_pos e]
  ·rw[if_neg e,if_neg e,if_pos (this.resolve_left e)]
 ·have:mT<=b/\b<=mT+2:=by simp only at hb;omega
  simp only[Km];rw[if_neg aa,if_neg aa,if_pos this]
 ·rcases hb with hb|hb|hb
  ·have:b=pb:=hb;subst this;simp only[Km];rw[if_neg aa,if_pos trivial]
  ·cases hb
  ·cases hb
theorem Yv{p:Option Addr}{b c:Nat}{rs:List aI}{NM:aI->List af}{NB:aI->Nat}{RK:af->Nat}(hF:bM au L0 o w)(h:Hand o w p b c rs NM NB RK)(pow:iW w):
  bz au (XB au Fin 0) 34 #[.slice p rs.length c] o w fun v o' w'=>∃K pb lab,v=.tuple #[.pointer (some ⟨K.kb,0,none⟩),.int .i64 0]/\bm o' w' K (s0 pb) 0 lab/\bA (fun _=>False) o w o' w'/\gx rs NM RK K.B/\(∀b,b<w.heap.size->7<=lab b/\(b≠1->lab b=7))/\w.heap.size<=K.kb:=by
 have W:=bV (P:=au) (Fin:=Fin) (d:=0);have g4:au.globals.size=4:=ah;refine bC W func34 ar ?_;walk_nrmf Tryz.f34;refine ax ?_;refine cd func39 (Oj hF h) ?_;rintro v1 o1 w1 ⟨rfl,N1⟩;have W1:bA (fun _=>False) o w o1 w1:=bA.eJ N1;have hz:=hF.size;have h1:Hand o1 w1 p b c rs NM NB RK:=by
  refine⟨h.gT,fun q=>⟨(h.ptr q).1,W1.more _ (h.ptr q).2⟩,h.nil,fun i hi=>?_,h.cl.up W1.more,h.cap,fun r hr=>⟨(h.nm r hr).1,fun q=>⟨((h.nm r hr).2.1 q).1,W1.more _ ((h.nm r hr).2.1 q).2⟩,fun k hk=>?_,(h.nm r hr).2.2.2⟩,h.nmn,h.yes,h.low⟩
  ·exact gV h.at_ (N1.old _ (hF.lt (h.ptr (fun q=>by rw[q] at hi;simp at hi)).2)) i hi
  ·exact dc (h.nm r hr).2.2.1 (N1.old _ (hF.lt ((h.nm r hr).2.1 (fun q=>by rw[q] at hk;simp at hk)).2)) k hk
 refine ax ?_;refine cd func41 (TV N1.aF h1) ?_;rintro v2 o2 w2 ⟨N2,B2⟩;have W2:bA (fun _=>False) o1 w1 o2 w2:=bA.eJ N2;obtain⟨bb,uG,UN,KH⟩:∃bb,w1.heap.size<=bb/\bb<w2.heap.size/\v2=.pointer (some ⟨bb,0,none⟩):=by
  obtain⟨bb,Rb,Ru,c,p',f,h1,h2,h3,h4,-⟩:=B2.ex;exact⟨bb,aa,h4,h1⟩
 subst KH;have obb:o2 bb:=by rw[N2.own];exact .inr ⟨uG,UN⟩
 refine ax ?_;refine cd func60 (MR N2.aF) ?_;rintro v3 o3 w3 ⟨N3,rfl,z3,m1,m2,m3⟩;have W3:bA (fun _=>False) o2 w2 o3 w3:=bA.eJ N3;have ofb:o3 (w2.heap.size+2):=by rw[N3.own];exact .inr ⟨aa,aa⟩
 have aiG:∀b,w1.heap.size<=b->b<w3.heap.size->o3 b:=fun b q1 q2=>by
  by_cases q:b<w2.heap.size
  ·exact W3.more _ (by rw[N2.own];exact .inr ⟨q1,q⟩)
  ·rw[N3.own];exact .inr ⟨aa,q2⟩
 have B3:=B2.keep W3.size fun b q1 q2=>N3.old b q2;have apB:bb<w2.heap.size:=UN;generalize w2.heap.size=mT at *;refine ax ?_;refine dt bQ N3.aF rfl ar ar ?_ rfl (R:=fun wl v aV=>v=.pointer (some ⟨wl.heap.size,0,none⟩)/\aV=wl.alloc (Obj.cells #[.int .i32 0,.int .u32 0,.pointer (some ⟨bb,0,none⟩),.pointer (some ⟨mT+2,0,none⟩),.slice none 0 0,.bool false,.int .i64 0,.int .i64 0,.int .i64 0,.slice none 0 0,.slice none 0 0,.int .i64 0,.pointer none] 120)) (fun wl aT=>⟨_,_,by first|(simp[go_sem];done)|(simp[go_sem];rfl),rfl,rfl⟩) fun wl v1 aV w4 aT hR bN=>?_
 ·refine mU ?_;refine fS (vs:=[_,_,_,_,_,_,_,_,_,_,_,_,_]) (fun x hx=>?_);simp at hx;rcases hx with rfl|rfl|rfl|rfl|rfl|rfl|rfl|rfl|rfl|rfl;all_goals first|exact dS|exact iP|exact mR|exact yc|exact bU ofb|exact bU (W3.more _ obb)
 obtain⟨rfl,hR⟩:=hR;obtain⟨z4,k4,yG⟩:=bN.alloc N3.aF aT hR;obtain⟨W4,hK4⟩:=bA.qx bN.aF z4 k4;rw[aT.size];have aiH:∀b,w1.heap.size<=b->b<w4.heap.size->grow o3 w3 w4 b:=fun b q1 q2=>by
  by_cases q:b<w3.heap.size
  ·exact W4.more _ (aiG b q1 q)
  ·exact .inr ⟨aa,q2⟩
 clear hR bN aT wl aV;generalize grow o3 w3 w4=o4 at *;refine ax ?_;refine dt bQ W4.aF rfl ar ar ?_ rfl (R:=fun wl v aV=>v=.pointer (some ⟨wl.heap.size,0,none⟩)/\aV=wl.alloc (Obj.cells #[.int .i64 0,.slice none 0 0,.slice none 0 0] 59)) (fun wl aT=>⟨_,_,by first|(simp[go_sem];done)|(simp[go_sem];rfl),rfl,rfl⟩) fun wl v1 aV w5 aT hR bN=>?_
 ·refine mU ?_;refine fS (vs:=[_,_,_]) (fun x hx=>?_);simp at hx;rcases hx with rfl|rfl;all_goals first|exact dS|exact iP
 obtain⟨rfl,hR⟩:=hR;obtain⟨z5,k5,MC⟩:=bN.alloc W4.aF aT hR;obtain⟨W5,hP5⟩:=bA.qx bN.aF z5 k5;rw[aT.size];have aeo:∀b,w1.heap.size<=b->b<w5.heap.size->grow o4 w4 w5 b:=fun b q1 q2=>by
  by_cases q:b<w4.heap.size
  ·exact W5.more _ (aiH b q1 q)
  ·exact .inr ⟨aa,q2⟩
 clear hR bN aT wl aV;generalize grow o4 w4 w5=o5 at *;have kk5:=(k5 w3.heap.size aa).trans yG;have z45:w3.heap.size<w4.heap.size:=aa;refine ax ?_;refine cd func61 (C2 w3.heap.size 12 w4.heap.size _ _ _ (.pointer none) (by simp[World.cell?,kk5]) (by simp[World.frozen?,kk5]) MC) ?_;rintro v6 o6 w6 ⟨rfl,rfl,rfl⟩;have TP:=iZ w5 w3.heap.size 12 (.pointer (some ⟨w4.heap.size,0,none⟩));have kk6:(w5.setCell ⟨w3.heap.size,12,none⟩ (.pointer (some ⟨w4.heap.size,0,none⟩))).heap[w3.heap.size]?=some (.cells #[.int .i32 0,.int .u32 0,.pointer (some ⟨bb,0,none⟩),.pointer (some ⟨mT+2,0,none⟩),.slice none 0 0,.bool false,.int .i64 0,.int .i64 0,.int .i64 0,.slice none 0 0,.slice none 0 0,.int .i64 0,.pointer (some ⟨w4.heap.size,0,none⟩)] 120):=by
  simp[World.setCell,aR,kk5]
 have Eh:bM au L0 o6 (w5.setCell ⟨w3.heap.size,12,none⟩ (.pointer (some ⟨w4.heap.size,0,none⟩))):=Go.Conc.bM.setCell W5.aF (bU hP5);generalize w5.setCell ⟨w3.heap.size,12,none⟩ (.pointer (some ⟨w4.heap.size,0,none⟩))=w6 at *;have z6:=TP.1;have z12:=W1.size;have z21:=W2.size;have z32:=W3.size;have m16:=((TP.2 mT aa).trans ((k5 mT aa).trans (k4 mT aa))).trans m1;have m26:=((TP.2 (mT+1) aa).trans ((k5 (mT+1) aa).trans (k4 (mT+1) aa))).trans m2;have m36:=((TP.2 (mT+2) aa).trans ((k5 (mT+2) aa).trans (k4 (mT+2) aa))).trans m3;have kp6:=(TP.2 w4.heap.size aa).trans MC;have hold:∀b,b<w3.heap.size->w6.heap[b]?=w3.heap[b]?:=fun b hb=>(TP.2 b aa).trans ((k5 b aa).trans (k4 b hb));have B6:=B3.keep (w':=w6) aa fun b q1 q2=>hold b q2;have o1w:∀b,b<w.heap.size->w6.heap[b]?=w.heap[b]?:=fun b hb=>by rw[hold b aa,N3.old b aa,N2.old b aa,N1.old b hb]
 have aiJ:iW w6:=fun q hq=>(cell_of (o1w 1 aa)).trans (pow q hq);obtain⟨B,e1,hB,hS,uN,Bo,pA⟩:=AE Eh aa (fun b q1 q2=>aeo b q1 aa) h.gT h.yes h.low (fun r hr=>(h.nm r hr).2.2.2) aiJ B6;have e2:B.bb=bb:=by injection e1 with e1;injection e1 with e1;injection e1 with e1 _ _;exact e1.symm
 rw[<- e2] at kk6;have hk:=MS (mT:=mT) (kb:=w3.heap.size) (pb:=w4.heap.size) Eh hB uN aa aa Bo aa aa (fun b q1 q2=>aeo b q1 aa) aa m16 m26 m36 kk6 kp6;clear B6 B3 B2 hB uN;refine ax ?_;refine⟨.inr trivial,trivial,_,resultsC_tmp2 (t:=2) (u:=3) ar _,_,w4.heap.size,_,by first|(simp[Act.eval];done)|(simp[Act.eval];rfl),hk,⟨Eh,fun b hb=>W5.more _ (W4.more _ (W3.more _ (W2.more _ (W1.more _ hb)))),fun b hb=>?_,aa,fun b hb _=>o1w b hb⟩,hS,fun b hb=>?_,by simp only;omega⟩
 ·by_cases q:b<w.heap.size
  ·refine .inl ?_;have a5:=(W5.new b hb).resolve_right aa;have a4:=(W4.new b a5).resolve_right aa;have a3:=(W3.new b a4).resolve_right aa;have a2:=(W2.new b a3).resolve_right aa;exact(W1.new b a2).resolve_right aa
  ·exact .inr aa
 ·simp only[Km];rw[if_neg aa,if_neg aa,if_neg aa];by_cases e:b=1
  ·rw[if_pos e];exact⟨aa,fun q=>absurd e q⟩
  ·rw[if_neg e,if_neg aa];exact⟨ag _,fun _=>rfl⟩
def nT:Array Value:=(kR.map Value.string).toArray
theorem On(hF:bM au L0 o w):
  bz au (XB au Fin 0) 18 #[] o w fun v o' w'=>fT o w v o' w'/\v=.slice (some ⟨w.heap.size,0,none⟩) 6 6/\w'.heap.size=w.heap.size+1/\w'.heap[w.heap.size]?=some (.cells nT 9):=by
 refine bz.mono (eD ah hF (fun y hy=>by simp at hy) (Q:=fun wl v w'=>v=.slice (some ⟨wl.heap.size,0,none⟩) 6 6/\w'.heap.size=wl.heap.size+1/\w'.heap[wl.heap.size]?=some (.cells nT 9)) (fun wl A1 v w1 w2 e1 e2 h=>?_) (fun wl hz aT=>?_)) (fun v o' w' hq=>?_)
 ·rw[e1,e2];exact h
 ·refine(Qz wl).mono fun e w' hq=>?_;obtain⟨rfl,rfl⟩:=hq;exact⟨_,rfl,aj,fun b hb=>alloc_old _ _ _ hb,rfl,aj,jR _ _⟩
 ·obtain⟨hN,wl,aV,z1,z2,hs,rfl,h2,h3⟩:=hq;rw[z1] at h2 h3 hN |-;exact⟨hN,rfl,aa,(hs _ aa aa).trans h3⟩
theorem Dp(hF:bM au L0 o w)(c:Int)(n:Nat)(h1:-9223372036854775808<=c)(h2:c<=9223372036854775807)(hn:0<n)(NG:n<=1000):
  bz au (XB au Fin 0) 19 #[.int .i64 c,.int .i64 n] o w fun v o' w'=>v=.int .i64 (eF c n:Nat)/\fT o w v o' w':=by
 refine bz.mono (eD ah hF (fun y hy=>by simp at hy;rcases hy with rfl|rfl<;>exact dS) (Q:=fun wl v w'=>v=.int .i64 (eF c n:Nat)) (fun wl A1 v w1 w2 e1 e2 h=>h) (fun wl hz aT=>?_)) (fun v o' w' hq=>?_)
 ·refine(J9 c n wl h1 h2 hn NG).mono fun e w' hq=>?_;obtain⟨rfl,rfl⟩:=hq;exact⟨_,rfl,ag _,fun _ _=>rfl,rfl⟩
 ·obtain⟨hN,wl,aV,-,-,-,h1⟩:=hq;exact⟨h1,hN⟩
theorem Yw(hF:bM au L0 o w)(i:Nat)(hi:i<8):
  bz au (XB au Fin 0) 15 #[.int .i64 i] o w fun v o' w'=>v=.string (iR i)/\fT o w v o' w':=by
 refine bz.mono (eD ah hF (fun y hy=>by simp at hy;subst hy;exact dS) (Q:=fun wl v w'=>v=.string (iR i)) (fun wl A1 v w1 w2 e1 e2 h=>h) (fun wl hz aT=>?_)) (fun v o' w' hq=>?_)
 ·refine(WJ i hi wl).mono fun e w' hq=>?_;obtain⟨rfl,h1,h2⟩:=hq;exact⟨_,rfl,h2,fun b hb=>h1.block b hb,rfl⟩
 ·obtain⟨hN,wl,aV,-,-,-,h1⟩:=hq;exact⟨h1,hN⟩
theorem WO(hF:bM au L0 o w)(c:Int)(h1:-9223372036854775808<=c)(h2:c<=9223372036854775807):
  bz au (XB au Fin 0) 20 #[.int .i64 c] o w fun v o' w'=>v=.string (rq c)/\fT o w v o' w':=by
 refine bz.mono (eD ah hF (fun y hy=>by simp at hy;subst hy;exact dS) (Q:=fun wl v w'=>v=.string (rq c)) (fun wl A1 v w1 w2 e1 e2 h=>h) (fun wl hz aT=>?_)) (fun v o' w' hq=>?_)
 ·refine(QA c wl h1 h2).mono fun e w' hq=>?_;obtain⟨rfl,rfl⟩:=hq;exact⟨_,rfl,ag _,fun _ _=>rfl,rfl⟩
 ·obtain⟨hN,wl,aV,-,-,-,h1⟩:=hq;exact⟨h1,hN⟩
structure pr(o:aM)(w:ae)(fv:Value)(fs:List (af×af)):Prop where
 ex:∃p b c,fv=.slice p fs.length c/\(fs≠[]->p=some ⟨b,0,none⟩/\o b)/\lM w b fs
 cl:Cl au L0 o fv
 cap:∀p l c,fv=.slice p l c->l<=c
theorem lG{w w':ae}{b:Nat}{fs:List (af×af)}(h:lM w b fs)(e:w'.heap[b]?=w.heap[b]?):lM w' b fs:=fun i hi=>⟨(cell_of e).trans (h i hi).1,(cell_of e).trans (h i hi).2⟩
theorem pr.keep{fv:Value}{fs:List (af×af)}(h:pr o w fv fs)(nX:∀b,o b->o' b)(e:∀g,fv.ownBlock=some g->w'.heap[g]?=w.heap[g]?):pr o' w' fv fs:=by
 obtain⟨p,b,c,h1,h2,h3⟩:=h.ex;refine⟨⟨p,b,c,h1,fun q=>⟨(h2 q).1,nX _ (h2 q).2⟩,fun i hi=>?_⟩,h.cl.up nX,h.cap⟩;have q:fs≠[]:=fun q=>by rw[q] at hi;simp at hi
 exact lG h3 (e b (by rw[h1,(h2 q).1];rfl)) i hi
theorem aep(hF:bM au L0 o w)(S:Nat)(kv rv fv:Value)(ed:Int)(fs:List (af×af))(x:af)(hS:w.heap[S]?=some (.cells #[kv,rv,fv,.int .i64 ed] 39))(oS:o S)(hf:pr o w fv fs)(hn:fs.length<=1000):
  bz au (XB au Fin 0) 35 #[.pointer (some ⟨S,0,none⟩),.string x] o w fun v o' w'=>v=.bool (Ha fs x)/\fT o w v o' w':=by
 obtain⟨p,b,c,h1,h2,h3⟩:=hf.ex;refine bz.mono (eD ah hF (fun y hy=>by simp at hy;rcases hy with rfl|rfl;exact bU oS;exact bS) (Q:=fun wl v w'=>v=.bool (Ha fs x)) (fun wl A1 v w1 w2 e1 e2 h=>h) (fun wl hz aT=>?_)) (fun v o' w' hq=>?_)
 ·refine(WL S b c kv rv ed p fs x wl (by simp[World.cell?,aT S oS,hS,h1]) hn (fun q=>(h2 q).1) (fun k hk=>lG h3 (aT b (h2 (fun e=>by rw[e] at hk;simp at hk)).2) k hk)).mono fun e w' hq=>?_;obtain⟨rfl,rfl⟩:=hq;exact⟨_,rfl,ag _,fun _ _=>rfl,rfl⟩
 ·obtain⟨hN,wl,aV,-,-,-,h1⟩:=hq;exact⟨h1,hN⟩
theorem TX(hF:bM au L0 o w)(S:Nat)(kv rv fv:Value)(ed:Int)(fs:List (af×af))(x t:af)(there:Bool)(hS:w.heap[S]?=some (.cells #[kv,rv,fv,.int .i64 ed] 39))(oS:o S)(hf:pr o w fv fs)(hn:fs.length<=1000)(dH:fv.ownBlock≠some S):
  bz au (XB au Fin 0) 22 #[.pointer (some ⟨S,0,none⟩),.string x,.string t,.bool there] o w fun v o' w'=>v=.tuple #[]/\bA (fun b=>b=S) o w o' w'/\∃zU,w'.heap[S]?=some (.cells #[kv,rv,zU,.int .i64 ed] 39)/\pr o' w' zU (qy fs x t there)/\∀g,zU.ownBlock=some g->w.heap.size<=g:=by
 obtain⟨p,b,c,h1,h2,h3⟩:=hf.ex;refine sJ bQ ah hF (NU (fun y hy=>by simp at hy;rcases hy with rfl|rfl|rfl|rfl;exact bU oS;exact bS;exact bS;exact mR))
  (R:=fun wl v aV=>v=.tuple #[]/\∃zU w2h,wl.heap.size<=w2h.size/\(∀b,b<wl.heap.size->w2h[b]?=wl.heap[b]?)/\(∃w2:ae,w2.heap=w2h/\w2.ownsRow wl.heap.size 44 2 zU (qy fs x t there).length (fN (qy fs x t there))/\aV.heap=(w2.setCell ⟨S,2,none⟩ zU).heap))
  (fun wl v w1 τ d h=>h) (fun wl τ d v w' h=>h) (fun wl hz aT=>?_) ?_
 ·refine(WM S b c p fs x t there wl (by simp[World.cell?,aT S oS,hS,h1]) (by simp[World.frozen?,aT S oS,hS]) (by rw[hz];exact hF.lt oS) hn (fun q=>⟨(h2 q).1,by rw[hz];exact hF.lt (h2 q).2⟩) (fun k hk=>lG h3 (aT b (h2 (fun e=>by rw[e] at hk;simp at hk)).2) k hk)).mono fun e w' hq=>?_;obtain⟨rfl,zU,w2,q1,q2,q3,rfl⟩:=hq;exact⟨_,rfl,rfl,zU,w2.heap,q2,fun b hb=>q1.block b hb,w2,rfl,q3,rfl⟩
 ·rintro wl v aV w' hz aT ⟨rfl,zU,w2h,q1,q2,w2,rfl,q3,q4⟩ B;have hSl:S<wl.heap.size:=by rw[hz];exact hF.lt oS
  have on:=iZ w2 S 2 zU;have zz:aV.heap.size=w2.heap.size:=by rw[q4];exact on.1
  have eS:w'.heap[S]?=some (.cells #[kv,rv,zU,.int .i64 ed] 39):=by
   rw[B.same S (.inl oS),q4];have e:w2.heap[S]?=some (.cells #[kv,rv,fv,.int .i64 ed] 39):=(q2 S hSl).trans ((aT S oS).trans hS);simp[World.setCell,aR,e]
  have Pf:=zF q3;have hW:bA (fun b=>b=S) o w (grow o w w') w':=by
   refine⟨B.aF,jk,fun b hb=>hb.imp id fun q=>q.1,B.jj,fun b hb hx=>?_⟩;by_cases ho:o b
   ·rw[B.same b (.inl ho),q4,on.2 b hx,q2 b aa,aT b ho]
   ·exact B.rest b hb ho
  have z2:=B.size;have AX:∀p l c,zU=.slice p l c->l<=c:=fun p l c e=>by
   obtain⟨_,hc⟩:=q3;rcases hc with⟨e2,e3⟩|⟨g,cap,cur,e2,k1,k2,k3,-⟩
   ·rw[e2] at e;cases e;exact ag _
   ·rw[e2] at e;cases e;exact k3
  refine⟨rfl,hW,zU,eS,⟨?_,?_,AX⟩,fun g hg=>by rw[<- hz];exact Pf g hg⟩
  ·obtain⟨h0,hc⟩:=q3;rcases hc with⟨rfl,e⟩|⟨g,cap,cur,rfl,k1,k2,k3,k4,k5,k6⟩
   ·have QG:=List.length_eq_zero_iff.1 e;rw[QG];exact⟨none,0,0,rfl,fun q=>absurd rfl q,fun i hi=>by simp at hi⟩
   ·have Tb:g<w2.heap.size:=(Array.getElem?_eq_some_iff.1 k2).1;refine⟨_,g,cap,rfl,fun _=>⟨rfl,.inr ⟨aa,aa⟩⟩,fun i hi=>?_⟩;have eg:w'.heap[g]?=w2.heap[g]?:=by
     rw[B.same g (.inr ⟨aa,aa⟩),q4];exact on.2 g aa
    have own:w2.ownsRow wl.heap.size 44 2 (.slice (some ⟨g,0,none⟩) (qy fs x t there).length cap) (qy fs x t there).length (fN (qy fs x t there)):=⟨h0,.inr ⟨g,cap,cur,rfl,k1,k2,k3,k4,k5,k6⟩⟩;obtain⟨c0,c1⟩:=wq (qy fs x t there) i hi;have lQ:∀j u,(fN (qy fs x t there))[j]?=some u->w2.cell? ⟨g,j,none⟩=some u:=fun j u hu=>by
     have:=own.cells (g:=g) rfl j u hu;have ha:(⟨g,0,none⟩:Addr).add j=⟨g,j,none⟩:=by simp[Addr.add];omega
     rw[ha] at this;exact this
    exact⟨(cell_of eg).trans (lQ _ _ c0),(cell_of eg).trans (lQ _ _ c1)⟩
  ·obtain⟨h0,hc⟩:=q3;rcases hc with⟨rfl,e⟩|⟨g,cap,cur,rfl,k1,k2,k3,k4,k5,k6⟩
   ·exact iP
   ·have Tb:g<w2.heap.size:=(Array.getElem?_eq_some_iff.1 k2).1;exact dY (.inr ⟨aa,aa⟩)
end
section
variable {Fin:bK} {o o' o1 o2:aM} {w w' w1 w2:ae}
structure fZ(o:aM)(w:ae)(o':aM)(w':ae):Prop where
 br:bA (fun _=>False) o w o' w'
 all:∀b,w.heap.size<=b->b<w'.heap.size->o' b
theorem fZ.refl(hF:bM au L0 o w):fZ o w o w:=⟨bA.refl hF,fun b h1 h2=>aa⟩
theorem fZ.trans(h:fZ o w o1 w1)(k:fZ o1 w1 o2 w2):fZ o w o2 w2:=⟨h.br.trans k.br,fun b h1 h2=>by
 by_cases q:b<w1.heap.size
 ·exact k.br.more _ (h.all b h1 q)
 ·exact k.all b aa h2⟩
theorem fZ.eJ{v:Value}(h:fT o w v o' w'):fZ o w o' w':=⟨bA.eJ h,fun b h1 h2=>by rw[h.own];exact .inr ⟨h1,h2⟩⟩
theorem fZ.sW(hF:bM au L0 (grow o w w') w')(z:w.heap.size<=w'.heap.size)(k:∀b,b<w.heap.size->w'.heap[b]?=w.heap[b]?):fZ o w (grow o w w') w' :=
 ⟨⟨hF,jk,fun b hb=>hb.imp id fun q=>q.1,z,fun b hb _=>k b hb⟩,fun b h1 h2=>.inr ⟨h1,h2⟩⟩
theorem fZ.wrote{A:Nat}(h:fZ o w o1 w1)(hA:w.heap.size<=A)(hF:bM au L0 o1 w2)(on:eI A w1 w2):fZ o w o1 w2:=by
 refine⟨⟨hF,h.br.more,h.br.new,by rw[on.1];exact h.br.size,fun b hb hx=>?_⟩,fun b h1 h2=>h.all b h1 (by rw[<- on.1];exact h2)⟩;rw[on.2 b aa];exact h.br.same b hb hx
theorem fZ.row{v:Value}(h:fZ o w o1 w1)(hv:∀b,v.ownBlock=some b->w.heap.size<=b)(k:bA (fun b=>v.ownBlock=some b) o1 w1 (grow o1 w1 w2) w2):fZ o w (grow o1 w1 w2) w2:=by
 have z1:=h.br.size;have z2:=k.size;refine⟨⟨k.aF,fun b hb=>k.more b (h.br.more b hb),fun b hb=>(k.new b hb).elim (fun q=>h.br.new b q) fun q=>.inr aa,aa,fun b hb hx=>?_⟩,fun b h1 h2=>?_⟩
 ·rw[k.same b aa (fun e=>by have:=hv b e;omega)];exact h.br.same b hb hx
 ·by_cases q:b<w1.heap.size
  ·exact k.more _ (h.all b h1 q)
  ·exact .inr ⟨aa,h2⟩
structure ny(o:aM)(w:ae)(lo e sz:Nat)(v:Value)(n:Nat)(xs:List Value):Prop where
 row:w.ownsRow lo e sz v n xs
 cl:Cl au L0 o v
 low:lo<=w.heap.size
theorem ny.nil(o:aM)(w:ae)(lo e sz:Nat)(h:lo<=w.heap.size):ny o w lo e sz (.slice none 0 0) 0 []:=⟨⟨aj,.inl ⟨rfl,rfl⟩⟩,iP,h⟩
theorem ny.keep{lo e sz n:Nat}{v:Value}{xs:List Value}(h:ny o w lo e sz v n xs)(nX:∀b,o b->o' b)(hz:w.heap.size<=w'.heap.size)(k:∀g,v.ownBlock=some g->w'.heap[g]?=w.heap[g]?):ny o' w' lo e sz v n xs :=
 ⟨dD h.row fun g hg _=>k g hg.symm,h.cl.up nX,aW h.low hz⟩
theorem ny.lt{lo e sz n:Nat}{v:Value}{xs:List Value}(h:ny o w lo e sz v n xs):∀g,v.ownBlock=some g->lo<=g/\g<w.heap.size:=fun g hg=>by
 refine⟨zF h.row g hg,?_⟩;obtain⟨_,hc⟩:=h.row;rcases hc with⟨rfl,_⟩|⟨g',cap,cur,rfl,h1,h2,_⟩
 ·cases hg
 ·cases hg;exact(Array.getElem?_eq_some_iff.1 h2).1
theorem ny.jj{lo e sz n:Nat}{v:Value}{xs:List Value}(h:ny o w lo e sz v n xs)(G:fZ o w o' w'):ny o' w' lo e sz v n xs:=h.keep G.br.more G.br.size fun g hg=>G.br.same g (h.lt g hg).2 id
theorem ny.add{lo e sz n n':Nat}{v v':Value}{xs xs':List Value}{wl aV:ae}(hF:bM au L0 o w)(h:ny o w lo e sz v n xs)(aT:iA o w wl)(bN:lH au L0 o w w' aV v')(cj:aV.ownsRow lo e sz v' n' xs')(D9:wl.grownBy aV v.ownBlock)(Yl:v'.ownBlock=v.ownBlock\/v'.ownBlock=some wl.heap.size):
  ny (grow o w w') w' lo e sz v' n' xs'/\bA (fun b=>v.ownBlock=some b) o w (grow o w w') w'/\∀b,v'.ownBlock=some b->v.ownBlock=some b\/w.heap.size<=b:=by
 rw[aT.size] at Yl;have Eh:=bN.aF;have fu:Cl au L0 (grow o w w') v':=bN.val;have z6:=bN.jj;have JY:∀b,v'.ownBlock=some b->grow o w w' b:=gG Eh fu;refine⟨⟨dD cj fun b hb _=>bN.same b (JY b hb.symm),fu,by have:=h.low;omega⟩,⟨Eh,jk,fun b hb=>hb.imp id fun q=>q.1,z6,fun b hb UO=>?_⟩,fun b hb=>?_⟩
 ·by_cases ho:o b
  ·rw[bN.same b (.inl ho),D9.block b (by rw[aT.size];exact hb) (fun e=>UO e.symm),aT.heap b ho]
  ·exact bN.rest b hb ho
 ·rcases Yl with e|e
  ·rw[hb] at e;exact .inl e.symm
  ·rw[hb] at e;exact .inr (bG (aQ e).symm)
theorem Kn(W:ae)(lo:Nat)(v:Value)(xs:List af)(x:af)(A:Nat)(h:W.ownsRow lo 9 1 v xs.length (xs.map .string))(hn:(xs.length+1)*16<=140737488355328)(vF:lo<=W.heap.size)(ha:W.heap[A]?=some (.cells #[.string x] 9)):
  ∃v' W',(Builtin.append_ #[40,40] 40 #[v,.slice (some ⟨A,0,none⟩) 1 1]).run au W=.ok v' W'/\W'.ownsRow lo 9 1 v' (xs++[x]).length ((xs++[x]).map .string)/\W.grownBy W' v.ownBlock/\(v'.ownBlock=v.ownBlock\/v'.ownBlock=some W.heap.size):=by
 obtain⟨i,hi,od⟩:=Option.map_eq_some_iff.1 qo;simp only[bt] at od;obtain⟨v',W',e1,e2,e3,_,e4⟩:=run_append_own_at (P:=au) W lo 40 40 9 i _ 1 16 underlying40 hi od.1 od.2.1 od.2.2 rfl aa v xs.length (xs.map .string) h ⟨A,0,none⟩ 1 1 [.string x] rfl (fun j u hj=>by
  cases j with
  |zero=>simp at hj;subst hj;simp[Addr.add,World.cell?,ha]
  |succ j=>simp at hj) (by simp;rfl) (by simp[maxLen];omega) aa vF
 exact⟨v',W',e1,by simpa using e2,e3,e4⟩
theorem TY(W:ae)(lo:Nat)(v:Value)(rs:List aI)(r:aI)(A:Nat)(h:W.ownsRow lo 42 3 v rs.length (eM rs))(hn:rs.length<=1000)(vF:lo<=W.heap.size)(ha:W.heap[A]?=some (.cells #[.string r.out,.int .i64 r.eR,.slice r.sa r.sl r.sc] 42)):
  ∃v' W',(Builtin.append_ #[35,35] 35 #[v,.slice (some ⟨A,0,none⟩) 1 1]).run au W=.ok v' W'/\W'.ownsRow lo 42 3 v' (rs++[r]).length (eM (rs++[r]))/\W.grownBy W' v.ownBlock/\(v'.ownBlock=v.ownBlock\/v'.ownBlock=some W.heap.size):=by
 obtain⟨i,hi,od⟩:=Option.map_eq_some_iff.1 CP;simp only[bt] at od;obtain⟨v',W',e1,e2,e3,_,e4⟩:=run_append_own_at (P:=au) W lo 35 35 42 i _ 3 48 underlying35 hi od.1 od.2.1 od.2.2 rfl aa v rs.length (eM rs) h ⟨A,0,none⟩ 1 1 [.string r.out,.int .i64 r.eR,.slice r.sa r.sl r.sc] rfl (fun j u hj=>by
  match j,hj with
  |0,hj=>simp at hj;subst hj;simp[Addr.add,World.cell?,ha]
  |1,hj=>simp at hj;subst hj;simp[Addr.add,World.cell?,ha]
  |2,hj=>simp at hj;subst hj;simp[Addr.add,World.cell?,ha]) (by simp;exact⟨rfl,rfl,rfl⟩) (by simp[maxLen];omega) aa vF
 have e:eM (rs++[r])=eM rs++[.string r.out,.int .i64 r.eR,.slice r.sa r.sl r.sc]:=by simp[eM,aI.cells]
 exact⟨v',W',e1,by rw[e];simpa using e2,e3,e4⟩
end
end Go.Proofs.Kz
namespace Go.Ren
open Go.Conc Go.ConcN
structure FD(w wl:ae):Prop where
 heap:wl.heap=w.heap
theorem FD.cell{w wl:ae}(h:FD w wl){ad:Addr}:wl.cell? ad=w.cell? ad:=by simp[World.cell?,h.heap]
section
variable {P:Program} {Fin:bK} {d:Nat} {o:aM} {w:ae} {fn:FuncId} {Q:Exit->Act->aM->ae->Prop} {a:Act} {ops:Array Oper} {i:Nat} {rest:List Nat} {op:Oper}
theorem TZ{ad:Addr}{wt sy:Bool}(h:x7 Fin ad.block):Zt Fin o ⟨.cell ad,wt,sy⟩:=Bh (o:=fun b=>o b\/x7 Fin b) (.inr h)
theorem p5{B:Nat}(hB:x7 Fin B)(ho:ops[i]?=some op)(hw:Region.wanted op (yielded ops a.tmps)=true){v:Value}{dd:Option Tmp}(hd:op.dst=dd)(hr:∀wl,FD w wl->(execOp a.eval op).run P wl=.ok (.value v) wl)(jg:∀wl,FD w wl->∀x∈(execOp a.eval op).events P wl #[],∃ad wt sy,x=⟨.cell ad,wt,sy⟩/\ad.block=B)(h:eX (XB P Fin d) fn ops rest Q (a.put dd v) o w):eX (XB P Fin d) fn ops (i::rest) Q a o w :=
 Ms ho hw hd (fun n=>hr _ ⟨rfl⟩) (fun n x hx=>by
  obtain⟨ad,wt,sy,rfl,e⟩:=jg (w.at n) ⟨rfl⟩ x hx;subst e;exact⟨TZ hB,aj,aj⟩) h
end
section
variable {P:Program} {L:Nat->Bool} {Fin:bK} {d:Nat} {fn:FuncId} {Q:Exit->Act->aM->ae->Prop} {a:Act} {ops:Array Oper} {S:(Nat->Option Value)->aM->ae->Prop} {kds:List Kd} {v:Nat->Value} {K:Act->Prop} {j:Nat} {l:List Nat} {xs:List Kd} {op:Oper} {dd:Option Tmp}
theorem WQ{B:Nat}(hB:x7 Fin B)(ho:ops[j]?=some op)(hd:op.dst=dd)(hn:CC op.op=true)(hw:Region.wanted op (yielded ops a.tmps)=true){y:Value}(cJ:∀σ o w,zw ops kds v j σ->S σ o w->(∀wl,FD w wl->(execOp a.eval op).run P wl=.ok (.value y) wl)/\∀wl,FD w wl->∀x∈(execOp a.eval op).events P wl #[],∃ad wt sy,x=⟨.cell ad,wt,sy⟩/\ad.block=B)(h:dJ P (Bl P (XB P Fin d) fn ops Q S kds v) ops K v l xs (a.put dd y)):dJ P (Bl P (XB P Fin d) fn ops Q S kds v) ops K v (j::l) (some (some y)::xs) a:=by
 refine gh ho hd (fun A rest σ o w h1 h2 h3 h4 hS hc=>?_) rfl h;obtain⟨hr,jg⟩:=cJ σ o w h3 hS;have hex:=execOp_congr op (rY hn) h1;exact p5 hB ho (h2.trans hw) rfl (fun wl aT=>by rw[hex];exact hr wl aT) (fun wl aT x hx=>by rw[hex] at hx;exact jg wl aT x hx) (hc y o w ⟨rfl,hS⟩)
end
end Go.Ren
namespace Go.Proofs.Kz
open Go.Proofs.Tryz
open Go.Proofs.Tryz renaming prog → au
open _root_.ByteArray renaming empty → aO
open Go.Ren Go.Conc Go.Proofs Go.ConcN
structure Ex where
 eR:Int
 ins:List Int
 sa:Option Addr
 ib:Nat
 T1:Nat
 sc:Nat
structure uO(Fin:bK)(w:ae)(p:Option Addr)(b off:Nat)(rw:List Ex):Prop where
 ptr:rw≠[]->p=some ⟨b,off,none⟩/\x7 Fin b/\b<w.heap.size
 at_:∀i (h:i<rw.length),w.cell? ⟨b,off+i*2,none⟩=some (.int .i64 rw[i].eR)/\w.cell? ⟨b,off+i*2+1,none⟩=some (.slice rw[i].sa rw[i].ins.length rw[i].sc)
 ins:∀r∈rw,(r.ins≠[]->r.sa=some ⟨r.ib,r.T1,none⟩/\x7 Fin r.ib/\r.ib<w.heap.size)/\∀j (h:j<r.ins.length),w.cell? ⟨r.ib,r.T1+j,none⟩=some (.int .i64 r.ins[j])
 WS:∀r∈rw,(-9223372036854775808<=r.eR/\r.eR<=9223372036854775807)/\∀x∈r.ins,-9223372036854775808<=x/\x<=9223372036854775807
 EI:rw.length<=9223372036854775807/\∀r∈rw,r.ins.length<=9223372036854775807
def Dq(k:Nat)(x:af):Prop:=x∈kR\/∃q,q<k/\x=iR q
section
variable {Fin:bK} {o o' o1 o2:aM} {w w' w1 w2:ae}
structure RB(o:aM)(w:ae)(v:Value)(rs:List aI)(uP:Nat->List af)(o':aM)(w':ae):Prop where
 jj:fZ o w o' w'
 nb:w'.heap[w.heap.size]?=some (.cells nT 9)
 WU:w.heap.size<w'.heap.size/\v.ownBlock≠some w.heap.size
 row:ny o' w' w.heap.size 42 3 v rs.length (eM rs)
 each:∀j (h:j<rs.length),rs[j].out=iR j/\(1<=rs[j].eR/\rs[j].eR<=5)/\(uP j).length<=4/\(∀x∈uP j,Dq j x)/\rs[j].sl=(uP j).length/\((rs[j].sa=none/\uP j=[])\/∃g,rs[j].sa=some ⟨g,0,none⟩/\w.heap.size<=g/\g<w'.heap.size/\v.ownBlock≠some g/\fy w' g 0 (uP j))
theorem RB.keep{v:Value}{rs:List aI}{uP:Nat->List af}(h:RB o w v rs uP o1 w1)(G:fZ o1 w1 o' w'):RB o w v rs uP o' w':=by
 have z:=G.br.size;refine⟨h.jj.trans G,(G.br.same _ h.WU.1 id).trans h.nb,⟨by have:=h.WU.1;omega,h.WU.2⟩,h.row.jj G,fun j hj=>?_⟩;obtain⟨e1,e2,e3,e4,e5,e6⟩:=h.each j hj;refine⟨e1,e2,e3,e4,e5,e6.imp id fun⟨g,q1,q2,q3,q4,q5⟩=>⟨g,q1,q2,aa,q4,dc q5 (G.br.same g q3 id)⟩⟩
structure RI(o1:aM)(w1:ae)(A:Nat)(hd:af)(rc:Int)(u:Value)(ts:List af)(o':aM)(w':ae):Prop where
 jj:fZ o1 w1 o' w'
 blk:w'.heap[A]?=some (.cells #[.string hd,.int .i64 rc,u] 42)
 al:w1.heap.size<=A/\A<w'.heap.size/\u.ownBlock≠some A
 row:ny o' w' w1.heap.size 9 1 u ts.length (ts.map .string)
theorem RI.keep{A:Nat}{hd:af}{rc:Int}{u:Value}{ts:List af}(h:RI o1 w1 A hd rc u ts o2 w2)(G:fZ o2 w2 o' w'):RI o1 w1 A hd rc u ts o' w' :=
 ⟨h.jj.trans G,(G.br.same _ h.al.2.1 id).trans h.blk,⟨h.al.1,by have:=G.br.size;have:=h.al.2.1;omega,h.al.2.2⟩,h.row.jj G⟩
structure aiK(o1:aM)(w1:ae)(A:Nat)(hd:af)(rc:Int)(u u':Value)(ts:List af)(o':aM)(w':ae):Prop where
 jj:fZ o1 w1 o' w'
 blk:w'.heap[A]?=some (.cells #[.string hd,.int .i64 rc,u] 42)
 al:w1.heap.size<=A/\A<w'.heap.size/\u'.ownBlock≠some A
 row:ny o' w' w1.heap.size 9 1 u' ts.length (ts.map .string)
def Yx(o1:aM)(w1:ae)(o2:aM)(w2:ae)(A:Nat)(hd:af)(rc:Int)(u:Value)(ts:List af)(x:af)(ib ia is:Nat)(σ:Nat->Option Value)(o':aM)(w':ae):Prop :=
 (σ ia=none/\σ is=none/\fZ o2 w2 o' w'/\∀y,σ ib=some y->∃Nb,y=.slice (some ⟨Nb,0,none⟩) 1 1/\w2.heap.size<=Nb/\o' Nb/\w'.heap[Nb]?=some (.cells #[.string x] 9)) \/
 (∃u',σ ia=some u'/\σ is=none/\aiK o1 w1 A hd rc u u' (ts++[x]) o' w') \/
 (∃u',σ ia=some u'/\σ is≠none/\RI o1 w1 A hd rc u' (ts++[x]) o' w')
theorem RB.step{v y:Value}{rs:List aI}{uP:Nat->List af}{A:Nat}{rc:Int}{up:Option Addr}{uc:Nat}{ts:List af}{o3:aM}{w3 w4:ae}(h0:RB o w v rs uP o1 w1)(h:RB o w v rs uP o3 w3)(hI:RI o1 w1 A (iR rs.length) rc (.slice up ts.length uc) ts o3 w3)(Gq:1<=rc/\rc<=5)(YR:ts.length<=4)(Z7:∀x∈ts,Dq rs.length x)(q1:ny (grow o3 w3 w4) w4 w.heap.size 42 3 y (rs++[(⟨iR rs.length,rc,up,ts.length,uc⟩:aI)]).length (eM (rs++[(⟨iR rs.length,rc,up,ts.length,uc⟩:aI)])))(q2:bA (fun b=>v.ownBlock=some b) o3 w3 (grow o3 w3 w4) w4)(q3:∀b,y.ownBlock=some b->v.ownBlock=some b\/w3.heap.size<=b):
  RB o w y (rs++[(⟨iR rs.length,rc,up,ts.length,uc⟩:aI)]) (fun i=>if i=rs.length then ts else uP i) (grow o3 w3 w4) w4:=by
 have z4:=q2.size;have z1:=h0.jj.br.size;have hyn:∀g,g<w3.heap.size->v.ownBlock≠some g->y.ownBlock≠some g:=fun g hg hv e=>(q3 g e).elim hv fun q=>aa;refine⟨h.jj.row (fun b hb=>(h.row.lt b hb).1) q2,(q2.same _ h.WU.1 h.WU.2).trans h.nb,⟨by have:=h.WU.1;omega,hyn _ h.WU.1 h.WU.2⟩,q1,fun j hj=>?_⟩;by_cases e:j=rs.length
 ·subst e;simp only[List.getElem_append_right (Nat.le_refl _),Nat.sub_self,List.getElem_cons_zero,if_true];refine⟨trivial,Gq,YR,Z7,trivial,?_⟩;obtain⟨OZ,hc⟩:=hI.row.row;rcases hc with⟨e1,e2⟩|⟨g,cap,cur,e1,k1,k2,k3,k4,k5,k6⟩
  ·injection e1 with e1;exact .inl ⟨e1,List.length_eq_zero_iff.1 e2⟩
  ·have hg:g<w3.heap.size:=(Array.getElem?_eq_some_iff.1 k2).1;have hv:v.ownBlock≠some g:=fun e=>by have:=(h0.row.lt g e).2;omega
   have lQ:=hI.row.row.cells (g:=g) (by rw[e1];rfl);injection e1 with e1;refine .inr ⟨g,e1,aa,aa,hyn g hg hv,fun i hi=>?_⟩;refine(cell_of (q2.same g hg hv)).trans ?_;have:=lQ i (.string ts[i]) (by simp[hi]);have ha:(⟨g,0,none⟩:Addr).add i=⟨g,i,none⟩:=by simp[Addr.add];omega
   rw[ha] at this;rw[bB];exact this
 ·have r8:j<rs.length:=by simp at hj;omega
  simp only[List.getElem_append_left r8,if_neg e];obtain⟨e1,e2,e3,e4,e5,e6⟩:=h.each j r8;exact⟨e1,e2,e3,e4,e5,e6.imp id fun⟨g,k1,k2,k3,k4,k5⟩=>⟨g,k1,k2,aa,hyn g k3 k4,dc k5 (q2.same g k3 k4)⟩⟩
theorem Ua(hF:bM au L0 o w)(p:Option Addr)(b off c:Nat)(rw:List Ex)(hR:uO Fin w p b off rw):
  bz au (XB au Fin 0) 33 #[.slice p rw.length c] o w fun v o' w'=>∃rs uP,RB o w v rs uP o' w'/\rs.length<=8:=by
 have W:=bV (P:=au) (Fin:=Fin) (d:=0);have AY:=hR.EI.1;refine bC W func33 ar ?_;walk_nrmf Tryz.f33;refine ax ?_;refine cd func18 (On hF) ?_;rintro v1 o1 w1 ⟨N1,rfl,z1,k1⟩;have Hz:RB o w (.slice none 0 0) [] (fun _=>[]) o1 w1:=⟨fZ.eJ N1,k1,⟨aa,(fun e=>by cases e)⟩,ny.nil _ _ _ _ _ aa,fun j hj=>by simp at hj⟩;clear z1 k1 N1;refine ax ?_;refine iL W (fun m a o' w'=>∃k,m+k=min rw.length 8/\a.tmps.size=84/\a.defers=[]/\a.eval (.tmp 0)=.slice p rw.length c/\a.eval (.tmp 3)=.slice (some ⟨w.heap.size,0,none⟩) 6 6/\a.eval (.tmp 5)=.int .i64 k/\∃v rs uP,a.eval (.tmp 4)=v/\rs.length=k/\RB o w v rs uP o' w') (N:=min rw.length 8) ⟨0,aj,rfl,rfl,aH,aH,aH,_,_,_,aH,rfl,Hz⟩ ?_;clear Hz o1 w1;rintro m a o1 w1 ⟨k,Je,fE,kT,i0,i3,i5,v,rs,uP,i4,hlen,Hz⟩;obtain⟨gs,rfl⟩:=iE fE kT;clear fE kT;simp only[List.range,List.range.loop,aA,aP] at i0 i3 i4 i5 |-;simp[Act.eval] at i0 i3 i4 i5;simp only[i0,i3,i4,i5];clear i0 i3 i4 i5;have lv:=Hz.jj.br.aF;have z1:=Hz.jj.br.size;by_cases hk:k<min rw.length 8;rotate_left
 ·by_cases LI:k<rw.length
  ·have aeq:(k:Int)<(rw.length:Int):=aa;have hk8:¬(k:Int)<8:=aa;refine ax ?_;exact⟨.inr trivial,trivial,_,resultsC_tmp (t:=2) ar _,rs,uP,by simpa[Act.eval] using Hz,aa⟩
  ·have aeq:¬(k:Int)<(rw.length:Int):=aa;refine ax ?_;exact⟨.inr trivial,trivial,_,resultsC_tmp (t:=2) ar _,rs,uP,by simpa[Act.eval] using Hz,aa⟩
 have LI:k<rw.length:=aa;have hk8:k<8:=aa;have aeq:(k:Int)<(rw.length:Int):=aa;have apF:(k:Int)<8:=aa;obtain⟨ep,ob,UN⟩:=hR.ptr (fun e=>by rw[e] at LI;simp at LI);subst ep;have Ub:=Hz.jj.br.same b UN id;obtain⟨c0,c1⟩:=hR.at_ k LI;have Yy:=(cell_of Ub).trans c0;have AM:=(cell_of Ub).trans c1;obtain⟨⟨WV,WW⟩,WX⟩:=hR.WS rw[k] (aG LI);obtain⟨in1,in2⟩:=hR.ins rw[k] (aG LI);have apI:=hR.EI.2 rw[k] (aG LI);clear c0 c1;generalize rw[k]=r at *;have hpk:=oU r.eR (n:=5) aa;have uW:IntKind.i64.wrap (1+(eF r.eR 5:Int))=1+(eF r.eR 5:Int):=by rw[IntKind.wrap_i64]<;>omega
 refine ax ?_;refine dQ mixed ah [some none,some (some (.string (iR k))),some none,some none,some none,some none,some (some (.int .i64 r.eR)),some (some (.int .i64 (eF r.eR 5:Nat))),some none,some none,none,none]
  (S:=fun σ o' w'=>fZ o1 w1 o' w'/\∀y,σ 10=some y->∃A,y=.pointer (some ⟨A,0,none⟩)/\w1.heap.size<=A/\A<w'.heap.size/\w'.heap[A]?=some (.cells (if (σ 11).isSome then #[.string (iR k),.int .i64 (1+(eF r.eR 5:Int)),.slice none 0 0] else #[.string aO,.int .i64 0,.slice none 0 0]) 42)) ⟨fZ.refl lv,(fun y hy=>by cases hy)⟩ fun v9=>?_
 refine dP ?_;refine cC ?_;refine jP rfl rfl ar rfl func15 ah rfl (av:=#[.int .i64 k]) aH (fun σ o' w' H hS=>?_) ?_
 ·refine(Yw hS.1.br.aF k hk8).mono ?_;rintro y o3 w3 ⟨rfl,N3⟩;refine⟨rfl,hS.1.trans (fZ.eJ N3),fun y hy=>?_⟩;obtain⟨A,q1,q2,q3,q4⟩:=hS.2 y hy;exact⟨A,q1,q2,bw q3 N3.size,(N3.old A q3).trans q4⟩
 refine cC ?_;refine WQ ob rfl rfl rfl ar (fun σ o' w' H hS=>?_) ?_
 ·have cc:=(cell_of (hS.1.br.same b aa id)).trans Yy;refine⟨fun wl aT=>by simp[go_sem,aT.cell.trans cc],fun wl aT x hx=>?_⟩;simp[go_sem,aT.cell.trans cc] at hx;subst hx;exact⟨_,_,_,rfl,rfl⟩
 refine cC ?_;refine jP rfl rfl ar rfl func19 ah rfl (av:=#[.int .i64 r.eR,.int .i64 5]) aH (fun σ o' w' H hS=>?_) ?_
 ·refine(Dp hS.1.br.aF r.eR 5 WV WW aa aa).mono ?_;rintro y o3 w3 ⟨rfl,N3⟩;refine⟨rfl,hS.1.trans (fZ.eJ N3),fun y hy=>?_⟩;obtain⟨A,q1,q2,q3,q4⟩:=hS.2 y hy;exact⟨A,q1,q2,bw q3 N3.size,(N3.old A q3).trans q4⟩
 refine cC ?_;refine ql bQ rfl rfl rfl ar ar (fun σ o' w' H nA hS=>?_) ?_
 ·refine⟨hS.1.br.aF,mW,fun wl v aV=>v=.pointer (some ⟨wl.heap.size,0,none⟩)/\aV=wl.alloc (.cells #[.string aO,.int .i64 0,.slice none 0 0] 42),fun wl aT=>⟨_,_,by first|(simp[go_sem];done)|(simp[go_sem];rfl),rfl,rfl⟩,fun wl y aV w3 aT nD bN=>?_⟩;obtain⟨rfl,nD⟩:=nD;obtain⟨z3,k3,sB⟩:=bN.alloc hS.1.br.aF aT nD;refine⟨hS.1.trans (fZ.sW bN.aF aa k3),fun y hy=>?_⟩;simp only[fM,if_true,ay] at hy;have Rv:=H.xm 11 ah;refine⟨w'.heap.size,by rw[<- hy,aT.size],hS.1.br.size,aa,?_⟩;simp[fM,Rv,sB]
 walk_nrm;refine pL bQ rfl rfl rfl ar ar (fun σ o' w' H h11 hS=>?_) ?_
 ·obtain⟨A,q1,q2,q3,q4⟩:=hS.2 _ (H.done 10 ah rfl);have oA:=hS.1.all A q2 q3;simp only[h11,Option.isSome_none,aL,if_false] at q4;refine⟨hS.1.br.aF,fun x hx=>?_,fun wl aV=>aV=((wl.setCell ⟨A,0,none⟩ (.string (iR k))).setCell ⟨A,1,none⟩ (.int .i64 (1+(eF r.eR 5:Int)))).setCell ⟨A,2,none⟩ (.slice none 0 0),fun wl aT=>⟨_,?_,rfl⟩,fun wl aV w3 aT nD bN=>?_⟩
  ·simp[Op.operands] at hx;rcases hx with rfl|rfl
   ·simp[Act.eval];rw[q1];exact bU oA
   ·simp[Act.eval];refine fS (vs:=[_,_,_]) (fun x hx=>?_);simp at hx;rcases hx with rfl|rfl|rfl
    ·exact bS
    ·exact dS
    ·exact iP
  ·obtain⟨e0,e1,e2,f0,f1,f2⟩:=eO ((aT.heap _ oA).trans q4);simp[go_sem,Act.eval,q1,e0,e1,e2,f0,f1,f2,uW]
  ·have hO:eI A wl aV:=by rw[nD];exact uE _ _ _ _ _ _ _ _
   obtain⟨on,oe,e9⟩:=bN.only aT oA hO;have ml:=bN.aF;rw[e9] at ml |-;rw[nD,JK ((aT.heap _ oA).trans q4)] at oe;refine⟨hS.1.wrote q2 ml on,fun y hy=>?_⟩;have hy':y=v9 10:=by
    simp[fM] at hy;exact(aQ ((H.done 10 ah rfl).symm.trans hy)).symm
   exact⟨A,hy'.trans q1,q2,by rw[on.1];exact q3,by simp[fM,oe]⟩
 walk_nrm;refine cB fun σ o2 w2 mn hS=>?_;obtain⟨G2,SP⟩:=hS;obtain⟨A,q1,q2,q3,q4⟩:=SP _ (mn 10 eu rfl);simp only[mn 11 eu rfl,Option.isSome_some,if_true] at q4;have vr:RI o1 w1 A (iR k) (1+(eF r.eR 5:Int)) (.slice none 0 0) [] o2 w2:=⟨G2,q4,⟨q2,q3,(fun e=>by cases e)⟩,ny.nil _ _ _ _ _ (by have:=G2.br.size;omega)⟩;simp only[q1];clear mn SP q1 q2 q3 q4 G2;have Gq:1<=1+(eF r.eR 5:Int)/\1+(eF r.eR 5:Int)<=5:=aa;clear uW;generalize (1+(eF r.eR 5:Int))=rc at *;simp only[iH,dI,if_true,if_false,reduceIte,Nat.reduceEqDiff];refine ax ?_;refine iL W (fun m a o' w'=>∃j,m+j=min r.ins.length 4/\a.tmps.size=84/\a.defers=[]/\a.eval (.tmp 0)=.slice (some ⟨b,off,none⟩) rw.length c/\a.eval (.tmp 3)=.slice (some ⟨w.heap.size,0,none⟩) 6 6/\a.eval (.tmp 4)=v/\a.eval (.tmp 5)=.int .i64 k/\a.eval (.tmp 6)=.pointer (some ⟨A,0,none⟩)/\a.eval (.tmp 7)=.int .i64 j/\∃u ts,ts.length=j/\(∀x∈ts,Dq k x)/\RI o1 w1 A (iR k) rc u ts o' w') (N:=min r.ins.length 4) ⟨0,aj,rfl,rfl,aH,aH,aH,aH,aH,aH,_,_,rfl,aj,vr⟩ ?_;clear vr o2 w2;rintro m2 a o2 w2 ⟨j,hmj,fE,kT,i0,i3,i4,i5,i6,i7,u,ts,htl,Z7,vr⟩;subst htl;obtain⟨gs2,rfl⟩:=iE fE kT;clear fE kT;simp only[List.range,List.range.loop,aA,aP] at i0 i3 i4 i5 i6 i7 |-;simp[Act.eval] at i0 i3 i4 i5 i6 i7;simp only[i0,i3,i4,i5,i6,i7];clear i0 i3 i4 i5 i6 i7;have rO:=vr.jj.br.aF;have eb2:=vr.jj.br.same b aa id;have Uc:=(cell_of eb2).trans AM;have oA:=vr.jj.all A vr.al.1 vr.al.2.1;have WY:=Hz.keep vr.jj;refine ax ?_;refine p5 ob rfl ar rfl (v:=.slice r.sa r.ins.length r.sc) (fun wl aT=>by simp[go_sem,aT.cell.trans Uc]) (fun wl aT x hx=>?_) ?_
 ·simp[go_sem,aT.cell.trans Uc] at hx;subst hx;exact⟨_,_,_,rfl,rfl⟩
 walk_nrm;by_cases hj:ts.length<min r.ins.length 4;rotate_left
 ·obtain⟨up,ul,uc,UW⟩:=mE vr.row.row;have hul:=Hb vr.row.row UW;subst hul;subst UW;have Hu:IntKind.i64.wrap ((k:Int)+1)=((k+1:Nat):Int):=by rw[IntKind.wrap_i64]<;>omega
  obtain⟨d0,d1,d2,-⟩:=eO vr.blk;by_cases UD:ts.length<r.ins.length;have aer:(ts.length:Int)<(r.ins.length:Int):=aa;have hj4:¬(ts.length:Int)<4:=aa;refine ax ?_;rotate_left;have aer:¬(ts.length:Int)<(r.ins.length:Int):=aa;refine ax ?_;all_goals
   refine dB bQ rO rfl ar ar ?_ rfl (v:=.agg #[.string (iR k),.int .i64 rc,.slice up ts.length uc]) (fun wl aT=>by simp[go_sem,(aT.cell oA).trans d0,(aT.cell oA).trans d1,(aT.cell oA).trans d2]) fun _=>?_
   ·exact mU (bU oA)
   refine ax ?_;refine dt bQ rO rfl ar ar ?_ rfl (R:=fun wl v aV=>v=.slice (some ⟨wl.heap.size,0,none⟩) 1 1/\aV=wl.alloc (.cells #[.string (iR k),.int .i64 rc,.slice up ts.length uc] 42)) (fun wl aT=>⟨_,_,by simp[go_sem,Act.eval],rfl,rfl⟩) fun wl y aV w3 aT nD bN=>?_
   ·refine mU ?_;refine fS (vs:=[_,_,_]) (fun x hx=>?_);simp at hx;rcases hx with rfl|rfl|rfl
    ·exact bS
    ·exact dS
    ·exact vr.row.cl
   obtain⟨rfl,nD⟩:=nD;obtain⟨z3,k3,sB⟩:=bN.alloc rO aT nD;rw[aT.size];have G3:=fZ.sW bN.aF aa k3;have hN3:grow o2 w2 w3 w2.heap.size:=G3.all _ (ag _) aa;clear nD bN aT wl aV z3;generalize grow o2 w2 w3=o3 at *;have QH:=WY.keep G3;have aiN:=vr.keep G3;refine ax ?_;subst hlen;refine dt bQ G3.br.aF rfl ar ar ?_ rfl (R:=fun wl y aV=>aV.ownsRow w.heap.size 42 3 y (rs++[(⟨iR rs.length,rc,up,ts.length,uc⟩:aI)]).length (eM (rs++[(⟨iR rs.length,rc,up,ts.length,uc⟩:aI)]))/\wl.grownBy aV v.ownBlock/\(y.ownBlock=v.ownBlock\/y.ownBlock=some wl.heap.size)) (fun wl aT=>?_) fun wl y aV w4 aT Bq bN=>?_
   ·intro y hy;simp[Op.operands,Call.operands] at hy;rcases hy with rfl|rfl
    ·simp[Act.eval];exact QH.row.cl
    ·simp[Act.eval];exact dY hN3
   ·obtain⟨v',W',e1,e2,e3,e4⟩:=TY wl w.heap.size v rs ⟨iR rs.length,rc,up,ts.length,uc⟩ w2.heap.size (dD QH.row.row fun g hg _=>aT.heap g (gG G3.br.aF QH.row.cl g hg.symm)) aa (by rw[aT.size];exact QH.row.low) ((aT.heap _ hN3).trans sB);exact⟨v',W',jA (.tmp 79) (.tmp 81) 35 rfl aH aH e1,e2,e3,e4⟩
   obtain⟨r1,r2,r3⟩:=Bq;obtain⟨q1,q2,q3⟩:=ny.add G3.br.aF QH.row aT bN r1 r2 r3;have aiO:=RB.step Hz QH aiN Gq aa Z7 q1 q2 q3;clear r1 r2 r3 q1 q2 q3 bN aT wl aV;refine ax ?_;exact⟨m-1,aa,rs.length+1,aa,dj,dj,aH,aH,by simp[Act.eval,Hu],y,_,_,aH,aj,aiO⟩
 have UD:ts.length<r.ins.length:=aa;have hj4:ts.length<4:=aa;have aer:(ts.length:Int)<(r.ins.length:Int):=aa;have apL:(ts.length:Int)<4:=aa;obtain⟨es,oi,X0⟩:=in1 (fun e=>by rw[e] at UD;simp at UD);rw[es];rw[es] at Uc;have ei2:=(vr.jj.br.same r.ib aa id).trans (Hz.jj.br.same r.ib X0 id);have ci:=(cell_of ei2).trans (in2 ts.length UD);obtain⟨xr1,xr2⟩:=WX r.ins[ts.length] (aG UD);generalize r.ins[ts.length]=x at *;refine ax ?_;refine p5 ob rfl ar rfl (v:=.slice (some ⟨r.ib,r.T1,none⟩) r.ins.length r.sc) (fun wl aT=>by simp[go_sem,aT.cell.trans Uc]) (fun wl aT x hx=>?_) ?_
 ·simp[go_sem,aT.cell.trans Uc] at hx;subst hx;exact⟨_,_,_,rfl,rfl⟩
 refine ax ?_;refine p5 oi rfl ar rfl (v:=.int .i64 x) (fun wl aT=>by simp[go_sem,aT.cell.trans ci]) (fun wl aT x hx=>?_) ?_
 ·simp[go_sem,aT.cell.trans ci] at hx;subst hx;exact⟨_,_,_,rfl,rfl⟩
 walk_nrm;obtain⟨up,ul,uc,UW⟩:=mE vr.row.row;have hul:=Hb vr.row.row UW;subst hul;have c2:=(eO vr.blk).2.2.1;have hwj:IntKind.i64.wrap ((ts.length:Int)+1)=((ts.length+1:Nat):Int):=by rw[IntKind.wrap_i64]<;>omega
 by_cases Ud:x<0/\0<k;rotate_left
 ·by_cases Hr:x<0;have apN:¬0<k:=aa;clear Ud;refine ax ?_;rotate_left;have apO:¬x<0:=Hr;clear Ud;refine ax ?_;all_goals
   have hp:=oU x (n:=6) aa;have aax:Dq k (kR[eF x 6]'hp):=.inl (aG _);have vL:w2.cell? ⟨w.heap.size,eF x 6,none⟩=some (.string (kR[eF x 6]'hp)):=by
    have e:=WY.nb;have hc6:nT[eF x 6]?=some (.string (kR[eF x 6]'hp)):=by
     rw[nT,kS,eE,bo hp];rfl
    simp[World.cell?,e,hc6]
   have hpI:((eF x 6:Nat):Int)<6:=aa;have aes:w.heap.size<w2.heap.size:=WY.WU.1;have onb:o2 w.heap.size:=WY.jj.all _ (ag _) aes;generalize kR[eF x 6]'hp=nm at *;rw[UW] at c2;refine dQ mixed ah [some none,some (some (.slice up ts.length uc)),some none,some none,some none,some none,some (some (.int .i64 (eF x 6:Nat))),some none,some (some (.string nm)),none,none,some none,none]
    (S:=Yx o1 w1 o2 w2 A (iR k) rc u ts nm 9 10 12) (.inl ⟨rfl,rfl,fZ.refl rO,(fun y hy=>by cases hy)⟩) fun v9=>?_
   refine dP ?_;refine cC ?_;refine cm bQ rfl rfl rfl ar ar (fun σ o' w' H hS=>?_) ?_
   ·rcases hS with⟨-,-,G,-⟩|⟨u',q,-⟩|⟨u',q,-⟩
    ·have hx:=G.br.more _ oA;exact tE G.br.aF hx ((cell_of (G.br.same A vr.al.2.1 id)).trans c2)
    ·rw[H.xm 10 ah] at q;cases q
    ·rw[H.xm 10 ah] at q;cases q
   refine cC ?_;refine jP rfl rfl ar rfl func19 ah rfl (av:=#[.int .i64 x,.int .i64 6]) aH (fun σ o' w' H hS=>?_) ?_
   ·rcases hS with⟨h7,h9,G,-⟩|⟨u',q,-⟩|⟨u',q,-⟩
    ·refine(Dp G.br.aF x 6 xr1 xr2 aa aa).mono ?_;rintro y o3 w3 ⟨rfl,N3⟩;exact⟨rfl,.inl ⟨h7,h9,G.trans (fZ.eJ N3),fun y hy=>by rw[H.qE [8,7] 9 ah] at hy;cases hy⟩⟩
    ·rw[H.xm 10 ah] at q;cases q
    ·rw[H.xm 10 ah] at q;cases q
   refine cC ?_;refine cm bQ rfl rfl rfl ar ar (fun σ o' w' H hS=>?_) ?_
   ·rcases hS with⟨-,-,G,-⟩|⟨u',q,-⟩|⟨u',q,-⟩
    ·have hx:=G.br.more _ onb;exact tE G.br.aF hx ((cell_of (G.br.same _ aes id)).trans vL)
    ·rw[H.qE [9] 10 ah] at q;cases q
    ·rw[H.qE [9] 10 ah] at q;cases q
   walk_nrm;refine ql bQ rfl rfl rfl ar ar (fun σ o' w' H hib hS=>?_) ?_
   ·rcases hS with⟨h7,h9,G,-⟩|⟨u',q,-⟩|⟨u',q,-⟩
    ·refine⟨G.br.aF,fun y hy=>?_,fun wl v aV=>v=.slice (some ⟨wl.heap.size,0,none⟩) 1 1/\aV=wl.alloc (.cells #[.string nm] 9),fun wl aT=>⟨_,_,by simp[go_sem,Act.eval],rfl,rfl⟩,fun wl y aV w3 aT nD bN=>?_⟩
     ·simp[Op.operands] at hy;subst hy;simp[Act.eval];exact bS
     ·obtain⟨rfl,nD⟩:=nD;obtain⟨z3,k3,sB⟩:=bN.alloc G.br.aF aT nD;refine .inl ⟨by simpa[fM] using h7,by simpa[fM] using h9,G.trans (fZ.sW bN.aF aa k3),fun y hy=>?_⟩;simp only[fM,if_true,ay] at hy;exact⟨w'.heap.size,by rw[<- hy,aT.size],G.br.size,.inr ⟨ag _,aa⟩,sB⟩
    ·rw[H.xm 10 ah] at q;cases q
    ·rw[H.xm 10 ah] at q;cases q
   walk_nrm;refine ql bQ rfl rfl rfl ar ar (fun σ o' w' H Z6 hS=>?_) ?_
   ·rcases hS with⟨-,h9,G,hN⟩|⟨u',q,-⟩|⟨u',q,-⟩
    ·obtain⟨Nb,hy,hNz,Yr,Wq⟩:=hN _ (H.done 9 ah rfl);have hq:=vr.row.jj G;have hqo:=gG G.br.aF hq.cl;refine⟨G.br.aF,fun y NV=>?_,fun wl v aV=>aV.ownsRow w1.heap.size 9 1 v (ts++[nm]).length ((ts++[nm]).map .string)/\wl.grownBy aV u.ownBlock/\(v.ownBlock=u.ownBlock\/v.ownBlock=some wl.heap.size),fun wl aT=>?_,fun wl y aV w3 aT nD bN=>?_⟩
     ·simp[Op.operands,Call.operands] at NV;rcases NV with rfl|rfl
      ·simp[Act.eval];rw[<- UW];exact hq.cl
      ·simp[Act.eval];rw[hy];exact dY Yr
     ·obtain⟨v',W',e1,e2,e3,e4⟩:=Kn wl w1.heap.size u ts (nm) Nb (dD hq.row fun g hg _=>aT.heap g (hqo g hg.symm)) aa (by rw[aT.size];exact hq.low) ((aT.heap _ Yr).trans Wq);refine⟨v',W',jA (v:=u) (.tmp 68) (.tmp 76) 40 rfl ?_ (by simp[Act.eval];exact hy) e1,e2,e3,e4⟩;simp[Act.eval];exact UW.symm
     ·obtain⟨r1,r2,r3⟩:=nD;obtain⟨q1,q2,q3⟩:=ny.add G.br.aF hq aT bN r1 r2 r3;have zg:=G.br.size;have z3:=q2.size;have O3:=vr.al.2.1;refine .inr (.inl ⟨y,by simp[fM],by simpa[fM] using h9,(vr.jj.trans G).row (fun b hb=>(hq.lt b hb).1) q2,(q2.same A aa vr.al.2.2).trans ((G.br.same A O3 id).trans vr.blk),⟨vr.al.1,aa,fun e=>?_⟩,q1⟩);rcases q3 A e with q|q
      ·exact vr.al.2.2 q
      ·omega
    ·rw[Z6] at q;cases q
    ·rw[Z6] at q;cases q
   refine cC ?_;refine pL bQ rfl rfl rfl ar ar (fun σ o' w' H his hS=>?_) ?_
   ·rcases hS with⟨q,-⟩|⟨u',q,-,P⟩|⟨u',-,q,-⟩
    ·rw[H.done 10 ah rfl] at q;cases q
    ·have hv:v9 10=u':=aQ ((H.done 10 ah rfl).symm.trans q);have WZ:=P.jj.all A P.al.1 P.al.2.1;obtain⟨p',l',c',hu'⟩:=mE P.row.row;refine⟨P.jj.br.aF,fun y hy=>?_,fun wl aV=>aV=wl.setCell ⟨A,2,none⟩ u',fun wl aT=>⟨_,?_,rfl⟩,fun wl aV w3 aT nD bN=>?_⟩
     ·simp[Op.operands] at hy;rcases hy with rfl|rfl
      ·simp[Act.eval];exact bU WZ
      ·simp[Act.eval];rw[hv];exact P.row.cl
     ·obtain⟨e0,e1,e2,f0,f1,f2⟩:=eO ((aT.heap _ WZ).trans P.blk);simp[go_sem,Act.eval,hv,hu',e2,f2]
     ·have hO:eI A wl aV:=by rw[nD];exact iZ _ _ _ _
      obtain⟨on,oe,e9⟩:=bN.only aT WZ hO;have ml:=bN.aF;rw[e9] at ml |-;have kA:w3.heap[A]?=some (.cells #[.string (iR k),.int .i64 rc,u'] 42):=by
       rw[oe,nD];have e:=(aT.heap _ WZ).trans P.blk;simp[World.setCell,aR,e]
      exact .inr (.inr ⟨u',by simpa[fM] using q,by simp[fM],P.jj.wrote P.al.1 ml on,kA,⟨P.al.1,by rw[on.1];exact P.al.2.1,P.al.2.2⟩,P.row.keep (fun _ q=>q) (bG on.1.symm) fun g hg=>on.2 g fun e=>P.al.2.2 (e▸hg)⟩)
    ·exact absurd his q
   walk_nrm;refine cB fun σ o3 w3 mn hS=>?_;rcases hS with⟨q,-⟩|⟨u',-,q,-⟩|⟨u',-,-,P⟩
   ·rw[mn 10 eu rfl] at q;cases q
   ·rw[mn 12 eu rfl] at q;cases q
   clear mn;simp only[iH,dI,if_true,if_false,reduceIte,Nat.reduceEqDiff];refine ax ?_;exact⟨m2-1,aa,ts.length+1,aa,dj,dj,aH,aH,aH,aH,aH,by simp[Act.eval,hwj],u',ts++[nm],aj,(fun z hz=>by
    rcases List.mem_append.1 hz with hz|hz
    ·exact Z7 z hz
    ·simp at hz;subst hz;exact aax),P⟩
 ·have Hr:=Ud.1;have HH:(0:Int)<(k:Int):=aa;have hp:=oU x (n:=k) Ud.2;have aax:Dq k (iR (eF x k)):=.inr ⟨_,hp,rfl⟩;refine ax ?_;rw[UW] at c2;refine dQ mixed ah [some none,some (some (.slice up ts.length uc)),some none,some none,some (some (.int .i64 (eF x k:Nat))),some (some (.string (iR (eF x k)))),none,none,some none,none]
   (S:=Yx o1 w1 o2 w2 A (iR k) rc u ts (iR (eF x k)) 6 7 9) (.inl ⟨rfl,rfl,fZ.refl rO,(fun y hy=>by cases hy)⟩) fun v9=>?_
  refine dP ?_;refine cC ?_;refine cm bQ rfl rfl rfl ar ar (fun σ o' w' H hS=>?_) ?_
  ·rcases hS with⟨-,-,G,-⟩|⟨u',q,-⟩|⟨u',q,-⟩
   ·have hx:=G.br.more _ oA;exact tE G.br.aF hx ((cell_of (G.br.same A vr.al.2.1 id)).trans c2)
   ·rw[H.xm 7 ah] at q;cases q
   ·rw[H.xm 7 ah] at q;cases q
  refine cC ?_;refine jP rfl rfl ar rfl func19 ah rfl (av:=#[.int .i64 x,.int .i64 k]) aH (fun σ o' w' H hS=>?_) ?_
  ·rcases hS with⟨h7,h9,G,-⟩|⟨u',q,-⟩|⟨u',q,-⟩
   ·refine(Dp G.br.aF x k xr1 xr2 Ud.2 aa).mono ?_;rintro y o3 w3 ⟨rfl,N3⟩;exact⟨rfl,.inl ⟨h7,h9,G.trans (fZ.eJ N3),fun y hy=>by rw[H.qE [5] 6 ah] at hy;cases hy⟩⟩
   ·rw[H.qE [5] 7 ah] at q;cases q
   ·rw[H.qE [5] 7 ah] at q;cases q
  walk_nrm;refine jP rfl rfl ar rfl func15 ah rfl (av:=#[.int .i64 (eF x k:Nat)]) aH (fun σ o' w' H hS=>?_) ?_
  ·rcases hS with⟨h7,h9,G,-⟩|⟨u',q,-⟩|⟨u',q,-⟩
   ·refine(Yw G.br.aF (eF x k) aa).mono ?_;rintro y o3 w3 ⟨rfl,N3⟩;exact⟨rfl,.inl ⟨h7,h9,G.trans (fZ.eJ N3),fun y hy=>by rw[H.xm 6 ah] at hy;cases hy⟩⟩
   ·rw[H.xm 7 ah] at q;cases q
   ·rw[H.xm 7 ah] at q;cases q
  walk_nrm;refine ql bQ rfl rfl rfl ar ar (fun σ o' w' H hib hS=>?_) ?_
  ·rcases hS with⟨h7,h9,G,-⟩|⟨u',q,-⟩|⟨u',q,-⟩
   ·refine⟨G.br.aF,fun y hy=>?_,fun wl v aV=>v=.slice (some ⟨wl.heap.size,0,none⟩) 1 1/\aV=wl.alloc (.cells #[.string (iR (eF x k))] 9),fun wl aT=>⟨_,_,by simp[go_sem,Act.eval],rfl,rfl⟩,fun wl y aV w3 aT nD bN=>?_⟩
    ·simp[Op.operands] at hy;subst hy;simp[Act.eval];exact bS
    ·obtain⟨rfl,nD⟩:=nD;obtain⟨z3,k3,sB⟩:=bN.alloc G.br.aF aT nD;refine .inl ⟨by simpa[fM] using h7,by simpa[fM] using h9,G.trans (fZ.sW bN.aF aa k3),fun y hy=>?_⟩;simp only[fM,if_true,ay] at hy;exact⟨w'.heap.size,by rw[<- hy,aT.size],G.br.size,.inr ⟨ag _,aa⟩,sB⟩
   ·rw[H.xm 7 ah] at q;cases q
   ·rw[H.xm 7 ah] at q;cases q
  walk_nrm;refine ql bQ rfl rfl rfl ar ar (fun σ o' w' H Z6 hS=>?_) ?_
  ·rcases hS with⟨-,h9,G,hN⟩|⟨u',q,-⟩|⟨u',q,-⟩
   ·obtain⟨Nb,hy,hNz,Yr,Wq⟩:=hN _ (H.done 6 ah rfl);have hq:=vr.row.jj G;have hqo:=gG G.br.aF hq.cl;refine⟨G.br.aF,fun y NV=>?_,fun wl v aV=>aV.ownsRow w1.heap.size 9 1 v (ts++[(iR (eF x k))]).length ((ts++[(iR (eF x k))]).map .string)/\wl.grownBy aV u.ownBlock/\(v.ownBlock=u.ownBlock\/v.ownBlock=some wl.heap.size),fun wl aT=>?_,fun wl y aV w3 aT nD bN=>?_⟩
    ·simp[Op.operands,Call.operands] at NV;rcases NV with rfl|rfl
     ·simp[Act.eval];rw[<- UW];exact hq.cl
     ·simp[Act.eval];rw[hy];exact dY Yr
    ·obtain⟨v',W',e1,e2,e3,e4⟩:=Kn wl w1.heap.size u ts ((iR (eF x k))) Nb (dD hq.row fun g hg _=>aT.heap g (hqo g hg.symm)) aa (by rw[aT.size];exact hq.low) ((aT.heap _ Yr).trans Wq);refine⟨v',W',jA (v:=u) (.tmp 59) (.tmp 64) 40 rfl ?_ (by simp[Act.eval];exact hy) e1,e2,e3,e4⟩;simp[Act.eval];exact UW.symm
    ·obtain⟨r1,r2,r3⟩:=nD;obtain⟨q1,q2,q3⟩:=ny.add G.br.aF hq aT bN r1 r2 r3;have zg:=G.br.size;have z3:=q2.size;have O3:=vr.al.2.1;refine .inr (.inl ⟨y,by simp[fM],by simpa[fM] using h9,(vr.jj.trans G).row (fun b hb=>(hq.lt b hb).1) q2,(q2.same A aa vr.al.2.2).trans ((G.br.same A O3 id).trans vr.blk),⟨vr.al.1,aa,fun e=>?_⟩,q1⟩);rcases q3 A e with q|q
     ·exact vr.al.2.2 q
     ·omega
   ·rw[Z6] at q;cases q
   ·rw[Z6] at q;cases q
  refine cC ?_;refine pL bQ rfl rfl rfl ar ar (fun σ o' w' H his hS=>?_) ?_
  ·rcases hS with⟨q,-⟩|⟨u',q,-,P⟩|⟨u',-,q,-⟩
   ·rw[H.done 7 ah rfl] at q;cases q
   ·have hv:v9 7=u':=aQ ((H.done 7 ah rfl).symm.trans q);have WZ:=P.jj.all A P.al.1 P.al.2.1;obtain⟨p',l',c',hu'⟩:=mE P.row.row;refine⟨P.jj.br.aF,fun y hy=>?_,fun wl aV=>aV=wl.setCell ⟨A,2,none⟩ u',fun wl aT=>⟨_,?_,rfl⟩,fun wl aV w3 aT nD bN=>?_⟩
    ·simp[Op.operands] at hy;rcases hy with rfl|rfl
     ·simp[Act.eval];exact bU WZ
     ·simp[Act.eval];rw[hv];exact P.row.cl
    ·obtain⟨e0,e1,e2,f0,f1,f2⟩:=eO ((aT.heap _ WZ).trans P.blk);simp[go_sem,Act.eval,hv,hu',e2,f2]
    ·have hO:eI A wl aV:=by rw[nD];exact iZ _ _ _ _
     obtain⟨on,oe,e9⟩:=bN.only aT WZ hO;have ml:=bN.aF;rw[e9] at ml |-;have kA:w3.heap[A]?=some (.cells #[.string (iR k),.int .i64 rc,u'] 42):=by
      rw[oe,nD];have e:=(aT.heap _ WZ).trans P.blk;simp[World.setCell,aR,e]
     exact .inr (.inr ⟨u',by simpa[fM] using q,by simp[fM],P.jj.wrote P.al.1 ml on,kA,⟨P.al.1,by rw[on.1];exact P.al.2.1,P.al.2.2⟩,P.row.keep (fun _ q=>q) (bG on.1.symm) fun g hg=>on.2 g fun e=>P.al.2.2 (e▸hg)⟩)
   ·exact absurd his q
  walk_nrm;refine cB fun σ o3 w3 mn hS=>?_;rcases hS with⟨q,-⟩|⟨u',-,q,-⟩|⟨u',-,-,P⟩
  ·rw[mn 7 eu rfl] at q;cases q
  ·rw[mn 9 eu rfl] at q;cases q
  clear mn;simp only[iH,dI,if_true,if_false,reduceIte,Nat.reduceEqDiff];refine ax ?_;exact⟨m2-1,aa,ts.length+1,aa,dj,dj,aH,aH,aH,aH,aH,by simp[Act.eval,hwj],u',ts++[(iR (eF x k))],aj,(fun z hz=>by
   rcases List.mem_append.1 hz with hz|hz
   ·exact Z7 z hz
   ·simp at hz;subst hz;exact aax),P⟩
end
end Go.Proofs.Kz
