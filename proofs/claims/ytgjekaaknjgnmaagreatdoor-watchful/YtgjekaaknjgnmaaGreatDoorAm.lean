import Derived.Test.YtgjekaaknjgnmaaGreatDoorAl
import Derived.BigQuiet
set_option linter.all false
set_option maxHeartbeats 40000000
set_option maxRecDepth 200000
namespace Go.Proofs.Kz
open Go.Proofs.Tryz
open Go.Proofs.Tryz renaming prog → ar
open _root_.ByteArray renaming empty → aN
open Go.Ren Go.Conc Go.Proofs Go.ConcN
open Go.ConcR (Payload)
section
variable {Fin:bH} {o o' o1:aM} {w w' w1:ae} {K:sj} {s:kT} {lk:Int} {lab eN:Nat->Nat}
theorem Oy:(ar.info? 194).map (fun i=>(i.zero,i.size,i.bytes))=some (some (.agg #[.bool false,.string aN,.int .i64 0]),3,32):=af
theorem B5(ss:List (V×Int))(q:V×Int):ef (ss++[q])=ef ss++[.bool q.1.1,.string q.1.2,.int .i64 q.2]:=by simp[ef]
theorem yy(W:ae)(lo:Nat)(v:Value)(ss:List (V×Int))(q:V×Int)(A:Nat)(h:W.ownsRow lo 194 3 v ss.length (ef ss))(hn:ss.length<=100000)(uL:lo<=W.heap.size)(ha:W.heap[A]?=some (.cells #[.bool q.1.1,.string q.1.2,.int .i64 q.2] 194)):
  ∃v' W',(Builtin.append_ #[110,110] 110 #[v,.slice (some ⟨A,0,none⟩) 1 1]).run ar W=.ok v' W'/\W'.ownsRow lo 194 3 v' (ss++[q]).length (ef (ss++[q]))/\W.grownBy W' v.ownBlock/\(v'.ownBlock=v.ownBlock\/v'.ownBlock=some W.heap.size):=by
 obtain⟨i,hi,oF⟩:=Option.map_eq_some_iff.1 Oy;simp only[Prod.mk.injEq] at oF;obtain⟨c0,c1,c2,-⟩:=eE ha;have hc:∀j u,[Value.bool q.1.1,.string q.1.2,.int .i64 q.2][j]?=some u->W.cell? ((⟨A,0,none⟩:Addr).add j)=some u:=fun j u hj=>by
  match j with
  |0=>simp at hj;subst hj;simpa[Addr.add] using c0
  |1=>simp at hj;subst hj;simpa[Addr.add] using c1
  |2=>simp at hj;subst hj;simpa[Addr.add] using c2
  |j+3=>simp at hj
 obtain⟨v',W',e1,e2,e3,_⟩:=run_append_own (P:=ar) W lo 110 110 194 i _ 3 32 underlying110 hi oF.1 oF.2.1 oF.2.2 rfl aa v ss.length (ef ss) h ⟨A,0,none⟩ 1 1 _ rfl hc (by simp;exact⟨rfl,rfl,rfl⟩) (by simp[maxLen];omega) aa uL;exact⟨v',W',e1,by rw[B5];simpa using e2,e3,xj W lo 110 110 194 i _ 3 32 underlying110 hi oF.1 oF.2.1 oF.2.2 v ss.length (ef ss) h ⟨A,0,none⟩ 1 _ rfl hc (by simp;exact⟨rfl,rfl,rfl⟩) aa aa e1⟩
theorem Jk.add{v v':Value}{ss:List (V×Int)}{q:V×Int}{wl aI:ae}{lo:Nat}(hF:bE ar L0 o w)(h:Jk o w v ss)(hl:ss.length<1000)(aE:im o w wl)(ba:kS ar L0 o w w' aI v')(uL:lo<=w.heap.size)(b6:aI.ownsRow lo 194 3 v' (ss++[q]).length (ef (ss++[q])))(CS:wl.grownBy aI v.ownBlock)(Wc:v'.ownBlock=v.ownBlock\/v'.ownBlock=some wl.heap.size):
  Jk (grow o w w') w' v' (ss++[q])/\bu (fun b=>v.ownBlock=some b) o w (grow o w w') w'/\∀b,v'.ownBlock=some b->v.ownBlock=some b\/w.heap.size<=b:=by
 rw[aE.size] at Wc;have C3:=ba.ay;have eY:Cl ar L0 (grow o w w') v':=ba.val;have z6:=ba.gO;have Is:∀b,v'.ownBlock=some b->grow o w w' b:=fun b hb=>by
  obtain⟨-,fy⟩:=b6;rcases fy with⟨rfl,-⟩|⟨g',cap,cur,rfl,-⟩
  ·cases hb
  ·cases hb;exact Fu C3 eY
 refine⟨⟨⟨lo,aa,cQ b6 fun b hb _=>ba.same b (Is b hb.symm)⟩,eY,eR⟩,⟨C3,iK,fun b hb=>hb.imp id fun q=>q.1,z6,fun b hb X3=>?_⟩,fun b hb=>?_⟩
 ·by_cases ho:o b
  ·rw[ba.same b (.inl ho),CS.block b (by rw[aE.size];exact hb) (fun e=>X3 e.symm),aE.heap b ho]
  ·exact ba.rest b hb ho
 ·rcases Wc with e|e
  ·rw[hb] at e;exact .inl e.symm
  ·rw[hb] at e;exact .inr (bq (aK e).symm)
theorem Checked.shape{s':kT}{F:dm}{file:ah->V}{v:Value}(h:Checked K s s' F file v):∃n x,v=did n x:=by
 rcases h with⟨-,e,-⟩|⟨_,_,⟨-,e,-⟩|⟨-,e,-⟩⟩
 ·exact⟨_,_,e⟩
 ·exact⟨_,_,e⟩
 ·exact⟨_,_,e⟩
theorem bg.Yt(h:bg o w K s lk lab){SW:Value}{rd':List (V×Int)}(hW:bu (fun b=>b=K.kb\/s.rv.ownBlock=some b) o w o' w')(hq:Jk o' w' SW rd')(hb:∀b,SW.ownBlock=some b->s.rv.ownBlock=some b\/w.heap.size<=b)(hr:w'.rowIs K.kb 120 13 (qG K {s with rv:=SW,rd:=rd'} lk))(hl:rd'.length<=s.src.length):
  ∃lab',bg o' w' K {s with rv:=SW,rd:=rd'} lk lab'/\cK o w lab o' w' lab':=by
 have hx:∀b,b=K.kb\/s.rv.ownBlock=some b->lab b=0\/lab b=5:=fun b hb=>hb.imp (fun e=>by rw[e];exact h.l0) fun e=>h.l5 b e;have P:=h.parts hW 0 5 hx;obtain⟨a1,a2,a3,a4⟩:=h.all;have lt:∀b,o b->b<w.heap.size:=fun b hb=>h.ay.lt hb;have lb:∀b,o b->(if w.heap.size<=b then 5 else lab b)=lab b:=fun b hb=>if_neg (by have:=lt b hb;omega);obtain⟨f1,f2,f3,f4,f5,f6⟩:=h.gT;refine⟨fun b=>if w.heap.size<=b then 5 else lab b,⟨hW.ay,hr,hW.more _ h.own,P.build aa aa,P.files aa aa,P.queue aa aa,P.ju aa aa,hq,⟨(P.set aa aa).blk,(P.set aa aa).own,(P.set aa aa).res,(P.set aa aa).cl,(P.set aa aa).gT,(P.set aa aa).ku⟩,(lb _ h.own).trans h.l0,fun b hb=>(lb b (h.build.own b hb)).trans (h.l1 b hb),fun b hb=>(lb b ?_).trans (h.l2 b hb),fun b hb=>(lb b (a1 b hb)).trans (h.l3 b hb),fun b hb=>(lb b (a2 b hb)).trans (h.l4 b hb),fun b hq=>?_,fun b hb=>(lb b (a4 b hb)).trans (h.l6 b hb),f1,f2,f3,f4,f5,hl⟩,⟨hW.mono fun b hb=>by rcases hx b hb with e|e<;>omega,fun b hb=>if_neg aa⟩⟩
 ·rcases hb with rfl|rfl|rfl
  ·exact h.files.own.1
  ·exact h.files.own.2.1
  ·exact h.files.own.2.2
 ·rcases hb b hq with e|e
  ·exact(lb b (a3 b e)).trans (h.l5 b e)
  ·exact if_pos e
def Fw(K:sj)(s s':kT)(F:dm)(file:ah->V)(v:Value):Prop :=
 (s.rd.length=s.src.length/\Checked K {s with phase:=3} s' F file v) \/
 ∃h:s.rd.length<s.src.length,v=did 3 s.src[s.rd.length]/\∃SW,s'={s with rv:=SW,rd:=s.rd++[(jE s.th s.src[s.rd.length],dC s.st s.src[s.rd.length])]}
theorem K2[Payload](h:bg o w K s lk lab)(lo:Nat)(F:dm)(KZ:s.fd=some (lo,F))(file:ah->V)(pU:∀x,(file x).2.size<=100)(UE:s.rd.length=s.src.length->s.rd.map (·.1)=(iq K.B.NM K.B.rs).map file):
  bp ar (XB ar Fin 0) 63 #[.pointer (some ⟨K.kb,0,none⟩)] o w fun v o' w'=>∃s' lab',Fw K s s' F file v/\bg o' w' K s' lk lab'/\cK o w lab o' w' lab':=by
 have W:=bJ (P:=ar) (Fin:=Fin) (d:=0);refine dJ W func63 ai ?_;walk_nrmf Tryz.f63;refine aA ?_;refine cq aX h.ay rfl ai ai kp rfl (R:=fun wl v aI=>v=.pointer (some ⟨wl.heap.size,0,none⟩)/\aI=wl.alloc (Obj.cells #[.int .i64 0,.string aN] 32)) (fun wl aE=>⟨_,_,by simp[go_sem];rfl,rfl,rfl⟩) fun wl v1 aI w1 aE hR ba=>?_;obtain⟨rfl,hR⟩:=hR;obtain⟨z1,k1,qK⟩:=ba.alloc h.ay aE hR;have mw:=ba.ay;rw[aE.size];clear hR ba aE wl aI;obtain⟨eN,h1,uW,od,pH,qX⟩:=h.opened mw z1 k1;generalize grow o w w1=o1 at *;obtain⟨sp,sb,sc,Ou,V2,xB,dW⟩:=h1.ju.row;obtain⟨rp,rb,rc,Jl,Wi,xU⟩:=h1.reads.view h1.ay;have c9:w1.cell? ⟨K.kb,9,none⟩=some (.slice sp s.src.length sc):=by rw[h1.row.cell aa];exact congrArg some Ou
 have Ys:w1.cell? ⟨K.kb,10,none⟩=some (.slice rp s.rd.length rc):=by rw[h1.row.cell aa];exact congrArg some Jl
 have c3:w1.cell? ⟨K.kb,3,none⟩=some (.pointer (some ⟨K.fb,0,none⟩)):=by rw[h1.row.cell aa];rfl
 have RD:=h1.ay.lt h1.own;have hsf:=h1.ju.gT;have hrf:=h1.gT.2.2.2.2.2;have hW0:bu (fun _=>False) o1 w1 o1 w1:=bu.refl h1.ay;refine aA ?_;refine dq mixed af [some none,some none,some none,some (some (.slice rp s.rd.length rc)),some none,some none,some none,some none,some (some (.slice sp s.src.length sc)),some none,some none]
  (S:=fun σ o' w'=>o1=o'/\w1=w') ⟨rfl,rfl⟩ fun v=>?_
 refine dp ?_;refine bO ?_;refine bK aX rfl rfl rfl ai ai (fun σ o' w' H hS=>?_) ?_
 ·obtain⟨rfl,rfl⟩:=hS;exact⟨h1.ay,cj (aH h1.own),gG h1.own Ys⟩
 refine bO ?_;refine bK aX rfl rfl rfl ai ai (fun σ o' w' H hS=>?_) ?_
 ·obtain⟨rfl,rfl⟩:=hS;exact⟨h1.ay,cj (aH h1.own),gG h1.own c9⟩
 refine bO ?_;refine cd fun σ o3 w3 kP hS=>?_;obtain⟨rfl,rfl⟩:=hS;clear kP;simp only[gN,cZ,if_true,if_false,reduceIte,Nat.reduceEqDiff];refine hZ W (t:=decide (s.rd.length=s.src.length)) (by simp[Act.eval];rw[dD];simp;omega) ?_;by_cases hc:s.rd.length=s.src.length
 ·rw[if_pos (dv hc)];refine aA ?_;refine bD aX h1.ay rfl ai ai ?_ rfl (R:=fun wl aI=>aI=wl.setCell ⟨K.kb,7,none⟩ (.int .i64 3)) (fun wl aE=>⟨_,?_,rfl⟩) fun wl aI w9 aE hR ba=>?_
  ·exact dU (aH h1.own) bN
  ·have rl:=World.rowIs.of_block h1.row (aE.heap _ h1.own);have e1:=rl.cell (i:=7) aa;have f:=rl.frozen;simp[go_sem,e1,f]
  have hO:cN K.kb wl aI:=by rw[hR];exact fW _ _ _ _
  obtain⟨kK,kr,e9⟩:=ba.only aE h1.own hO;have gw:=ba.ay;rw[e9] at gw |-;rw[hR] at kr;have h9:=h1.put (s':={s with phase:=3}) (lk':=lk) gw kK ((World.rowIs.of_block ((World.rowIs.of_block h1.row (aE.heap _ h1.own)).set 7 _) kr).congr fun j hj=>by
   rcases mm hj with rfl|rfl|rfl|rfl|rfl|rfl|rfl|rfl|rfl|rfl|rfl|rfl|rfl<;>rfl) rfl rfl ⟨h1.gT.2.2.1,h1.gT.2.2.2.1,h1.gT.2.2.2.2.1⟩
  have S9:cK o1 w1 eN o1 w9 eN:=.of (bu.db (ex:=(·=K.kb)) gw kK rfl) fun b hb=>by rw[hb,h1.l0];omega
  have cV:w.heap.size≠K.kb:=fun e=>by have:=h1.l0;rw[<- e,od] at this;omega
  have Jj:=(kK.2 _ cV).trans qK;clear hR ba aE hO kr wl aI e9;refine aA ?_;refine aF W rfl ai rfl func64 af rfl aC rfl ((zn h9 hc lo F KZ file pU (UE hc)).mono ?_);rintro v0 o4 w4 ⟨s',uu,uh,h4,S4⟩;have FX:uu w.heap.size=7:=(S4.lab _ (by rw[kK.1];omega)).trans od;have si:=(S4.aU.same w.heap.size (by rw[kK.1];omega) (by rw[od];omega)).trans Jj;have mq:=S4.aU.more _ pH;have Yu:=S9.trans S4;obtain⟨dn,dx,rfl⟩:=uh.shape;unfold did at uh |-;walk_nrm;refine bD aX h4.ay rfl ai ai ?_ rfl (R:=fun wl aI=>aI=(wl.setCell ⟨w.heap.size,0,none⟩ (.int .i64 dn)).setCell ⟨w.heap.size,1,none⟩ (.string dx)) (fun wl aE=>⟨_,?_,rfl⟩) fun wl aI wA aE hR ba=>?_
  ·refine dU ?_ ?_
   ·exact aH mq
   ·exact cJ (vs:=[_,_]) (fun x hx=>by
     simp at hx;rcases hx with rfl|rfl
     ·exact bN
     ·exact bf)
  ·obtain⟨e0,e1,f0,f1⟩:=bT ((aE.heap _ mq).trans si)
   first
   | (simp[go_sem,e0,e1,f0,f1];done)
   | (simp[go_sem,e0,e1,f0,f1];rfl)
  have hO:cN w.heap.size wl aI:=by rw[hR];exact iB _ _ _ _ _ _
  obtain⟨yx,nL,eA⟩:=ba.only aE mq hO;have rF:=ba.ay;rw[eA] at rF |-;rw[hR,nG ((aE.heap _ mq).trans si)] at nL;obtain⟨hA,SA⟩:=h4.did qX uW Yu FX rF yx;clear hR ba aE hO wl aI eA;refine aA ?_;have c9:∀n,(wA.at n).cell? ⟨w.heap.size,0,none⟩=some (.int .i64 dn)/\(wA.at n).cell? ⟨w.heap.size,1,none⟩=some (.string dx):=fun n=>⟨(bT nL).1,(bT nL).2.1⟩;refine⟨.inr trivial,trivial,.agg #[.int .i64 dn,.string dx],p7 (fun n=>?_) (fun n e he=>?_),s',uu,.inl ⟨hc,uh⟩,hA,SA⟩
  ·obtain⟨c0,c1⟩:=c9 n;simp[results,results63,go_sem,c0,c1]
  ·obtain⟨c0,c1⟩:=c9 n;simp[results,results63,go_sem,c0,c1] at he;rcases he with rfl|rfl;all_goals exact⟨_,_,_,rfl,mq⟩
 rw[if_neg (by simpa using hc)];have bZ:s.rd.length<s.src.length:=aa;obtain⟨rfl,JY⟩:=xB fun q=>by rw[q] at bZ;simp at bZ
 have hT:=dW s.rd.length bZ;rw[bh] at hT;have xD:(s.rd.length:Int)<s.src.length:=aa;generalize hx:s.src[s.rd.length]=x at hT;refine aA ?_;refine dq mixed af [some none,some none,some none,some (some (.slice (some ⟨sb,0,none⟩) s.src.length sc)),some none,some none,some none,some (some (.slice rp s.rd.length rc)),some none,some none,some (some (.string x)),some none]
  (S:=fun σ o' w'=>o1=o'/\w1=w') ⟨rfl,rfl⟩ fun v=>?_
 refine dp ?_;refine bO ?_;refine bK aX rfl rfl rfl ai ai (fun σ o' w' H hS=>?_) ?_
 ·obtain⟨rfl,rfl⟩:=hS;exact⟨h1.ay,cj (aH h1.own),gG h1.own c9⟩
 refine bO ?_;refine bK aX rfl rfl rfl ai ai (fun σ o' w' H hS=>?_) ?_
 ·obtain⟨rfl,rfl⟩:=hS;exact⟨h1.ay,cj (aH h1.own),gG h1.own Ys⟩
 refine bO ?_;refine bK aX rfl rfl rfl ai ai (fun σ o' w' H hS=>?_) ?_
 ·obtain⟨rfl,rfl⟩:=hS;exact⟨h1.ay,cj (aH JY),gG JY hT⟩
 refine bO ?_;refine cd fun σ o3 w3 kP hS=>?_;obtain⟨rfl,rfl⟩:=hS;clear kP;simp only[gN,cZ,if_true,if_false,reduceIte,Nat.reduceEqDiff];generalize hz:dC s.st x=rz;generalize I8:(jE s.th x).1=s1;generalize A4:(jE s.th x).2=s2;have Te:=h1.reads.cl;rw[Jl] at Te;refine aA ?_;refine dq mixed af [some none,some none,some none,some none,some (some (.slice rp s.rd.length rc)),some none,some none,some none,some (some (.pointer (some ⟨K.fb,0,none⟩))),some none,some (some (.agg #[.bool s1,.string s2,.int .i64 rz])),none,none,some none,some none,none]
  (S:=fun σ o' w'=>(σ 12=none/\σ 15=none/\bu (fun _=>False) o1 w1 o' w'/\∀y,σ 11=some y->∃Nb,y=.slice (some ⟨Nb,0,none⟩) 1 1/\w1.heap.size<=Nb/\o' Nb/\w'.heap[Nb]?=some (.cells #[.bool s1,.string s2,.int .i64 rz] 194)) \/
   (∃y,σ 12=some y/\σ 15=none/\(∃p l c,y=.slice p l c)/\Jk o' w' y (s.rd++[((s1,s2),rz)])/\bu (fun b=>s.rv.ownBlock=some b) o1 w1 o' w'/\∀b,y.ownBlock=some b->s.rv.ownBlock=some b\/w1.heap.size<=b) \/
   (∃y,σ 12=some y/\σ 15≠none/\Jk o' w' y (s.rd++[((s1,s2),rz)])/\bu (fun b=>b=K.kb\/s.rv.ownBlock=some b) o1 w1 o' w'/\(∀b,y.ownBlock=some b->s.rv.ownBlock=some b\/w1.heap.size<=b)/\w'.rowIs K.kb 120 13 (qG K {s with rv:=y,rd:=s.rd++[((s1,s2),rz)]} lk))) (.inl ⟨rfl,rfl,hW0,fun y hy=>by cases hy⟩) fun v=>?_
 refine dp ?_;refine bO ?_;refine bK aX rfl rfl rfl ai ai (fun σ o' w' H hS=>?_) ?_
 ·rcases hS with⟨-,-,hW,-⟩|⟨y,oa,-⟩|⟨y,oa,-⟩
  ·have kB:=hW.more _ h1.own;exact⟨hW.ay,cj (aH kB),gG kB ((cell_of (hW.same _ RD id)).trans Ys)⟩
  ·rw[H.kF [] 12 af] at oa;cases oa
  ·rw[H.kF [] 12 af] at oa;cases oa
 refine bO ?_;refine bK aX rfl rfl rfl ai ai (fun σ o' w' H hS=>?_) ?_
 ·rcases hS with⟨-,-,hW,-⟩|⟨y,oa,-⟩|⟨y,oa,-⟩
  ·have kB:=hW.more _ h1.own;exact⟨hW.ay,cj (aH kB),gG kB ((cell_of (hW.same _ RD id)).trans c3)⟩
  ·rw[H.kF [11,10] 12 af] at oa;cases oa
  ·rw[H.kF [11,10] 12 af] at oa;cases oa
 refine bO ?_;refine iL rfl rfl ai rfl func100 af rfl (av:=#[.pointer (some ⟨K.fb,0,none⟩),.string x]) aC (fun σ o' w' H hS=>?_) ?_
 ·rcases hS with⟨oa,O5,hW,-⟩|⟨y,oa,-⟩|⟨y,oa,-⟩
  ·refine(We hW.ay ((h1.xl hW).1).files x).mono ?_;rintro y o2 w2 ⟨rfl,N⟩;exact⟨by rw[I8,A4,hz],.inl ⟨oa,O5,hW.trans (bu.dL N),fun y hy=>by rw[H.sg 11 af] at hy;cases hy⟩⟩
  ·rw[H.kF [11] 12 af] at oa;cases oa
  ·rw[H.kF [11] 12 af] at oa;cases oa
 walk_nrm;refine mJ aX rfl rfl rfl ai ai (fun σ o' w' H h11 hS=>?_) ?_
 ·rcases hS with⟨oa,O5,hW,-⟩|⟨y,oa,-⟩|⟨y,oa,-⟩
  ·refine⟨hW.ay,fun y hy=>?_,fun wl v aI=>v=.slice (some ⟨wl.heap.size,0,none⟩) 1 1/\aI=wl.alloc (.cells #[.bool s1,.string s2,.int .i64 rz] 194),fun wl aE=>⟨_,_,by simp[go_sem,Act.eval],rfl,rfl⟩,fun wl y aI w2 aE hR ba=>?_⟩
   ·simp[Op.operands] at hy;subst hy;simp[Act.eval];exact cJ (vs:=[_,_,_]) (fun x hx=>by
     simp at hx;rcases hx with rfl|rfl|rfl
     ·exact kn
     ·exact bf
     ·exact bN)
   ·obtain⟨rfl,hR⟩:=hR;obtain⟨z2,k2,O6⟩:=ba.alloc hW.ay aE hR;refine .inl ⟨by simpa[dB] using oa,by simpa[dB] using O5,hW.trans ⟨ba.ay,iK,fun b hb=>hb.imp id fun q=>q.1,aa,fun b hb _=>k2 b hb⟩,fun y hy=>?_⟩;simp only[dB,if_true,Option.some.injEq] at hy;exact⟨w'.heap.size,by rw[<- hy,aE.size],hW.size,.inr ⟨ag _,aa⟩,O6⟩
  ·rw[H.sg 12 af] at oa;cases oa
  ·rw[H.sg 12 af] at oa;cases oa
 walk_nrm;refine mJ aX rfl rfl rfl ai ai (fun σ o' w' H oa hS=>?_) ?_
 ·rcases hS with⟨-,O5,hW,h9⟩|⟨y,q,-⟩|⟨y,q,-⟩
  ·obtain⟨Nb,hy,hNz,RE,Ri⟩:=h9 _ (H.done 11 af rfl);have hq:=((h1.xl hW).1).reads;rw[Jl] at hq;obtain⟨Ra,abZ,b6⟩:=hq.row;have Yv:=fO hW.ay hq.cl;refine⟨hW.ay,fun y Fo=>?_,fun wl v aI=>aI.ownsRow Ra 194 3 v (s.rd++[((s1,s2),rz)]).length (ef (s.rd++[((s1,s2),rz)]))/\wl.grownBy aI (Value.slice rp s.rd.length rc).ownBlock/\(v.ownBlock=(Value.slice rp s.rd.length rc).ownBlock\/v.ownBlock=some wl.heap.size),fun wl aE=>?_,fun wl y aI w2 aE hR ba=>?_⟩
   ·simp[Op.operands,Call.operands] at Fo;rcases Fo with rfl|rfl
    ·simp[Act.eval];exact hq.cl
    ·simp[Act.eval];rw[hy];exact di RE
   ·obtain⟨v',W',e1,e2,e3,e4⟩:=yy wl Ra (.slice rp s.rd.length rc) s.rd ((s1,s2),rz) Nb (cQ b6 fun g hg _=>aE.heap g (Yv g hg.symm)) aa (by rw[aE.size];exact abZ) ((aE.heap _ RE).trans Ri);exact⟨v',W',gm (.tmp 39) (.tmp 46) 110 rfl aC (by simp[Act.eval];exact hy) e1,e2,e3,e4⟩
   ·obtain⟨r1,r2,r3⟩:=hR;obtain⟨q1,q2,q3⟩:=Jk.add hW.ay hq aa aE ba abZ r1 r2 r3;refine .inr (.inl ⟨y,by simp[dB],by simpa[dB] using O5,?_,q1,?_,fun b hb=>?_⟩)
    ·obtain⟨-,fy⟩:=r1;rcases fy with⟨rfl,-⟩|⟨g',cap,cur,rfl,-⟩
     ·exact⟨_,_,_,rfl⟩
     ·exact⟨_,_,_,rfl⟩
    ·rw[Jl];exact(hW.mono fun b hb=>hb.elim).trans q2
    ·rw[Jl];exact(q3 b hb).imp id fun q=>aR hW.size q
  ·rw[oa] at q;cases q
  ·rw[oa] at q;cases q
 refine bO ?_;refine jg aX rfl rfl rfl ai ai (fun σ o' w' H O5 hS=>?_) ?_
 ·rcases hS with⟨oa,-⟩|⟨y,oa,-,⟨p,l,c,rfl⟩,q1,q2,q3⟩|⟨y,oa,q,-⟩
  ·rw[H.done 12 af rfl] at oa;cases oa
  ·have hv:v 12=.slice p l c:=aK ((H.done 12 af rfl).symm.trans oa);have hk:=q2.more _ h1.own;have cV:s.rv.ownBlock≠some K.kb:=fun e=>by have:=h1.l5 _ e;rw[h1.l0] at this;omega
   have ab0:=World.rowIs.of_block h1.row (q2.same _ RD cV);refine⟨q2.ay,fun y hy=>?_,fun wl aI=>aI=wl.setCell ⟨K.kb,10,none⟩ (.slice p l c),fun wl aE=>⟨_,?_,rfl⟩,fun wl aI w2 aE hR ba=>?_⟩
   ·simp[Op.operands] at hy;rcases hy with rfl|rfl
    ·simp[Act.eval];exact aH hk
    ·simp[Act.eval];rw[hv];exact q1.cl
   ·have rl:=World.rowIs.of_block ab0 (aE.heap _ hk);have e1:=rl.cell (i:=10) aa;have f:=rl.frozen;simp[go_sem,Act.eval,hv,e1,f]
   ·have hO:cN K.kb wl aI:=by rw[hR];exact fW _ _ _ _
    obtain⟨on,kr,e9⟩:=ba.only aE hk hO;have gw:=ba.ay;rw[e9] at gw |-;rw[hR] at kr;refine .inr (.inr ⟨.slice p l c,by simpa[dB] using oa,by simp[dB],q1.keep (fun _ q=>q) (bq on.1.symm) (fun g hg=>on.2 g fun e=>?_),(q2.mono fun b hb=>.inr hb).trans (bu.db gw on (.inl rfl)),q3,(World.rowIs.of_block ((World.rowIs.of_block ab0 (aE.heap _ hk)).set 10 _) kr).congr fun j hj=>?_⟩)
    ·rcases q3 g hg with q|q
     ·exact cV (by rw[q,e])
     ·omega
    ·rcases mm hj with rfl|rfl|rfl|rfl|rfl|rfl|rfl|rfl|rfl|rfl|rfl|rfl|rfl<;>rfl
  ·exact absurd O5 q
 walk_nrm;refine cd fun σ o5 w5 kP hS=>?_;rcases hS with⟨oa,-⟩|⟨y,oa,O5,-⟩|⟨y,-,-,q1,q2,q3,q4⟩
 ·rw[kP 12 dh rfl] at oa;cases oa
 ·rw[kP 15 dh rfl] at O5;cases O5
 clear kP;simp only[gN,cZ,if_true,if_false,reduceIte,Nat.reduceEqDiff];obtain⟨nJ,h5,S5⟩:=h1.Yt q2 q1 q3 q4 eR;have O7:nJ w.heap.size=7:=(S5.lab _ aa).trans od;have Jj:=(S5.aU.same w.heap.size aa (by rw[od];omega)).trans qK;have qi:=S5.aU.more _ pH;clear q1 q2 q3 q4;refine aA ?_;refine bD aX h5.ay rfl ai ai ?_ rfl (R:=fun wl aI=>aI=(wl.setCell ⟨w.heap.size,0,none⟩ (.int .i64 3)).setCell ⟨w.heap.size,1,none⟩ (.string x)) (fun wl aE=>⟨_,?_,rfl⟩) fun wl aI wA aE hR ba=>?_
 ·refine dU ?_ ?_
  ·exact aH qi
  ·exact cJ (vs:=[_,_]) (fun x hx=>by
    simp at hx;rcases hx with rfl|rfl
    ·exact bN
    ·exact bf)
 ·obtain⟨e0,e1,f0,f1⟩:=bT ((aE.heap _ qi).trans Jj)
  first
  | (simp[go_sem,e0,e1,f0,f1];done)
  | (simp[go_sem,e0,e1,f0,f1];rfl)
 have hO:cN w.heap.size wl aI:=by rw[hR];exact iB _ _ _ _ _ _
 obtain⟨yx,nL,eA⟩:=ba.only aE qi hO;have rF:=ba.ay;rw[eA] at rF |-;rw[hR,nG ((aE.heap _ qi).trans Jj)] at nL;obtain⟨hA,SA⟩:=h5.did qX uW S5 O7 rF yx;clear hR ba aE hO wl aI eA;refine aA ?_;have c9:∀n,(wA.at n).cell? ⟨w.heap.size,0,none⟩=some (.int .i64 3)/\(wA.at n).cell? ⟨w.heap.size,1,none⟩=some (.string x):=fun n=>⟨(bT nL).1,(bT nL).2.1⟩;refine⟨.inr trivial,trivial,.agg #[.int .i64 3,.string x],p7 (fun n=>?_) (fun n e he=>?_),_,nJ,.inr ⟨bZ,by rw[hx];rfl,y,by rw[hx,hz,<- I8,<- A4]⟩,hA,SA⟩
 ·obtain⟨c0,c1⟩:=c9 n;simp[results,results63,go_sem,c0,c1]
 ·obtain⟨c0,c1⟩:=c9 n;simp[results,results63,go_sem,c0,c1] at he;rcases he with rfl|rfl;all_goals exact⟨_,_,_,rfl,qi⟩
theorem bg.UN(h:bg o w K s lk lab)(hF:bE ar L0 o w')(hO:cN K.kb w w')(hr:w'.rowIs K.kb 120 13 (fun j=>if j=4+1 then .bool false else if j=4 then .slice none 0 0 else qG K s lk j)):
  bg o w' K {s with qv:=.slice none 0 0,qn:=[],lost:=false} lk lab:=by
 have hW:bu (·=K.kb) o w o w':=bu.db hF hO rfl;have P:=h.parts hW 0 0 fun b hb=>.inl (by rw[hb];exact h.l0);have q6:=P.set aa aa;obtain⟨f1,f2,f3⟩:=h.gT;refine⟨hF,hr.congr fun j hj=>?_,h.own,P.build aa aa,P.files aa aa,⟨⟨0,aQ _,an,.inl ⟨rfl,rfl⟩⟩,gS⟩,P.ju aa aa,P.reads aa aa,⟨q6.blk,q6.own,q6.res,q6.cl,q6.gT,q6.ku⟩,h.l0,h.l1,h.l2,(fun b hb=>by cases hb),h.l4,h.l5,h.l6,an,f2,f3⟩;rcases mm hj with rfl|rfl|rfl|rfl|rfl|rfl|rfl|rfl|rfl|rfl|rfl|rfl|rfl<;>rfl
theorem bg.UO(h:bg o w K s lk lab)(hW:bu (·=K.B.bb) o w o' w'){fd':Option (Nat×dm)}(hB:fq o' w' K.B fd' s.old){mid:Nat}(hm:∀b,mB K.B fd' s.old b->b<mid)(tt:K.B.bb<w.heap.size)(hx:∀b,mB K.B fd' s.old b->mB K.B s.fd s.old b\/w.heap.size<=b):
  ∃lab',bg o' w' K {s with fd:=fd'} lk lab'/\cK o w lab o' w' lab'/\∀b,w.heap.size<=b->mid<=b->lab' b=4:=by
 have ui:∀b,b=K.B.bb->lab b=1:=fun b hb=>(h.l1 b (.inl hb)).trans (if_neg (by have:=h.build.apart.2.2.2.2.1;omega));have P:=h.parts hW 1 1 fun b hb=>.inl (ui b hb);obtain⟨a1,a2,a3,a4⟩:=h.all;have lb:∀b,o b->(if w.heap.size<=b then(if mid<=b then 4 else 1) else lab b)=lab b:=fun b hb=>if_neg (by have:=h.ay.lt hb;omega);have q6:=P.set aa aa;refine⟨fun b=>if w.heap.size<=b then(if mid<=b then 4 else 1) else lab b,⟨hW.ay,P.row aa aa,hW.more _ h.own,hB,P.files aa aa,P.queue aa aa,P.ju aa aa,P.reads aa aa,⟨q6.blk,q6.own,q6.res,q6.cl,q6.gT,q6.ku⟩,(lb _ h.own).trans h.l0,fun b hb=>?_,fun b hb=>(lb b ?_).trans (h.l2 b hb),fun b hb=>(lb b (a1 b hb)).trans (h.l3 b hb),fun b hb=>(lb b (a2 b hb)).trans (h.l4 b hb),fun b hb=>(lb b (a3 b hb)).trans (h.l5 b hb),fun b hb=>(lb b (a4 b hb)).trans (h.l6 b hb),h.gT⟩,⟨hW.mono fun b hb=>by rw[ui b hb];omega,fun b hb=>if_neg aa⟩,fun b h1 h2=>by simp[h1,h2]⟩
 ·have:=hm b hb;rcases hx b hb with q|q
  ·exact(lb b (h.build.own b q)).trans (h.l1 b q)
  ·have h4:=h.build.apart.2.2.2.2.1;rw[if_pos q,if_neg aa];exact(if_neg aa).symm
 ·rcases hb with rfl|rfl|rfl
  ·exact h.files.own.1
  ·exact h.files.own.2.1
  ·exact h.files.own.2.2
theorem bg.started(h:bg o w K s lk lab){SX:Value}{Yw:List ah}(hF:bE ar L0 o w')(hO:cN K.kb w w')(hr:w'.rowIs K.kb 120 13 (qG K {s.stand 2 0 with sv:=SX,src:=Yw} lk))(ht:Mh o w SX Yw)(hl:∀b,SX.ownBlock=some b->lab b=4):bg o w' K {s.stand 2 0 with sv:=SX,src:=Yw} lk lab:=by
 have hW:bu (·=K.kb) o w o w':=bu.db hF hO rfl;have P:=h.parts hW 0 0 fun b hb=>.inl (by rw[hb];exact h.l0);have q6:=P.set aa aa;obtain⟨f1,f2,f3,f4,f5,f6⟩:=h.gT;exact⟨hF,hr,h.own,P.build aa aa,P.files aa aa,P.queue aa aa,ht.keep (fun _ q=>q) (fun g hg=>hO.2 g fun e=>by have:=hl g hg;rw[e,h.l0] at this;omega),Ml,⟨q6.blk,q6.own,q6.res,q6.cl,q6.gT,q6.ku⟩,h.l0,h.l1,h.l2,h.l3,hl,(fun b hb=>by cases hb),h.l6,f1,f2,f3,aQ _,aQ _,aQ _⟩
theorem RF{B:zf}{fd:Option (Nat×dm)}{old:Nat->Option (Nat×List V)}(h:fq o w B fd old):(iq B.NM B.rs).length<=1000:=by
 have q1:=xa (ll (B.rs.map (·.out)) (Fh B.NM B.rs) B.rs.length);have q2:=py (B.rs.map (·.out)) (Fh B.NM B.rs) B.rs.length (fun i hi=>by rw[mR hi];exact h.right.four _ (aD hi)) B.rs.length (ag _);have q3:=h.rules.gT;have:(iq B.NM B.rs).length<=(ll (B.rs.map (·.out)) (Fh B.NM B.rs) B.rs.length).length:=q1;omega
theorem K3{B:zf}{fd:Option (Nat×dm)}{old:Nat->Option (Nat×List V)}{lo n:Nat}{F:dm}(h:fq o w B (some (lo,F)) old)(hf:fd=some (lo,F)\/fd=none/\lo=n):∀b,mB B (some (lo,F)) old b->mB B fd old b\/n<=b:=fun b hb=>by
 rcases hf with rfl|⟨rfl,rfl⟩
 ·exact .inl hb
 ·rcases hb with q|q|q|q|q|⟨Ra,F',e,q⟩|q
  ·exact .inl (.inl q)
  ·exact .inl (.inr (.inl q))
  ·exact .inl (.inr (.inr (.inl q)))
  ·exact .inl (.inr (.inr (.inr (.inl q))))
  ·exact .inl (.inr (.inr (.inr (.inr (.inl q)))))
  ·cases e;obtain⟨y0,y1,y2,-,hp⟩:=h.blk;exact .inr ((hp _ _ rfl).ge q)
  ·exact .inl (.inr (.inr (.inr (.inr (.inr (.inr q))))))
theorem ga.Jm{lo:Nat}{ts:List ah}{v:Value}(h:ga lo ts v w)(hc:Cl ar L0 o v)(hg:∀g l c,v=.slice (some ⟨g,0,none⟩) l c->o g)(hl:ts.length<=1000):Mh o w v ts:=by
 refine⟨?_,hc,hl⟩;rcases h.own with⟨e,e2⟩|⟨g,cap,e,g1,g2,g3⟩
 ·exact⟨none,0,0,by rw[e2];exact e,fun _=>e2,fun q=>absurd e2 q,fun i hi=>by rw[e2] at hi;simp at hi⟩
 ·exact⟨_,g,cap,e,(fun q=>by cases q),fun _=>⟨rfl,hg g _ _ e⟩,g3⟩
def Fx(K:sj)(s s':kT)(v:Value):Prop :=
 ((0<s.qn.length\/s.lost=true)/\v=did 1 aN/\s'=kT.stand {s with qv:=.slice none 0 0,qn:=[],lost:=false} 1 s.time) \/
 (¬(0<s.qn.length\/s.lost=true)/\(s.phase=1/\s.since+5<=s.time)/\v=did 2 aN/\∃lo F SX,s'={s.stand 2 0 with fd:=some (lo,F),sv:=SX,src:=iq K.B.NM K.B.rs}) \/
 (¬(0<s.qn.length\/s.lost=true)/\¬(s.phase=1/\s.since+5<=s.time)/\v=did 0 aN/\s'=s)
theorem Yx(h:bg o w K s lk lab):
  bp ar (XB ar Fin 0) 65 #[.pointer (some ⟨K.kb,0,none⟩)] o w fun v o' w'=>∃s' lab',Fx K s s' v/\bg o' w' K s' lk lab'/\cK o w lab o' w' lab':=by
 have W:=bJ (P:=ar) (Fin:=Fin) (d:=0);refine dJ W func65 ai ?_;walk_nrmf Tryz.f65;refine aA ?_;refine cq aX h.ay rfl ai ai kp rfl (R:=fun wl v aI=>v=.pointer (some ⟨wl.heap.size,0,none⟩)/\aI=wl.alloc (Obj.cells #[.int .i64 0,.string aN] 32)) (fun wl aE=>⟨_,_,by simp[go_sem];rfl,rfl,rfl⟩) fun wl v1 aI w1 aE hR ba=>?_;obtain⟨rfl,hR⟩:=hR;obtain⟨z1,k1,qK⟩:=ba.alloc h.ay aE hR;have mw:=ba.ay;rw[aE.size];clear hR ba aE wl aI;obtain⟨eN,h1,uW,od,pH,qX⟩:=h.opened mw z1 k1;generalize grow o w w1=o1 at *;obtain⟨p,b,c,hqv,-,-,-,-⟩:=h1.queue.view h1.ay;have c4:w1.cell? ⟨K.kb,4,none⟩=some (.slice p s.qn.length c):=by rw[h1.row.cell aa];exact congrArg some hqv
 have c5:w1.cell? ⟨K.kb,5,none⟩=some (.bool s.lost):=by rw[h1.row.cell aa];rfl
 have c6:w1.cell? ⟨K.kb,6,none⟩=some (.int .i64 s.time):=by rw[h1.row.cell aa];rfl
 have c7:w1.cell? ⟨K.kb,7,none⟩=some (.int .i64 s.phase):=by rw[h1.row.cell aa];rfl
 have c8:w1.cell? ⟨K.kb,8,none⟩=some (.int .i64 s.since):=by rw[h1.row.cell aa];rfl
 have RD:=h1.ay.lt h1.own;have S11:cK o1 w1 eN o1 w1 eN:=.of (ex:=fun _=>False) (bu.refl h1.ay) fun b hb=>hb.elim;have cV:w.heap.size≠K.kb:=fun e=>by have:=h1.l0;rw[<- e,od] at this;omega
 refine aA ?_;refine aF W rfl ai rfl func103 af rfl aC rfl ((UH h1.ay K.kb 4 s.qn.length c p s.lost h1.own c4 c5).mono ?_);rintro v0 o2 w2 ⟨rfl,rfl,rfl⟩;refine aA ?_;refine hZ W (t:=decide (0<s.qn.length)||s.lost) aC ?_;by_cases hq:0<s.qn.length\/s.lost=true
 ·rw[if_pos (by simpa using hq)];refine aA ?_;refine aF W rfl ai rfl func104 af rfl aC rfl ((UI h1.ay K.kb 4 120 13 _ h1.own h1.row aa).mono ?_);rintro v0 o2' w3 ⟨rfl,rfl,qu,Iu,agf⟩;have h3:=h1.UN qu Iu agf;have S3:cK o2' w2 eN o2' w3 eN:=.of (bu.db (ex:=(·=K.kb)) qu Iu rfl) fun b hb=>by rw[hb,h1.l0];omega
  refine aA ?_;refine aF W rfl ai rfl func102 af rfl aC rfl ((Rz h3).mono ?_);rintro v0 o4 w4 ⟨rfl,S4,h4⟩;have S34:=S3.trans S4;have si:=(S34.aU.same w.heap.size aa (by rw[od];omega)).trans qK;have mq:=S34.aU.more _ pH;refine aA ?_;refine bD aX h4.ay rfl ai ai ?_ rfl (R:=fun wl aI=>aI=(wl.setCell ⟨w.heap.size,0,none⟩ (.int .i64 1)).setCell ⟨w.heap.size,1,none⟩ (.string aN)) (fun wl aE=>⟨_,?_,rfl⟩) fun wl aI wA aE hR ba=>?_
  ·refine dU ?_ ?_
   ·exact aH mq
   ·exact cJ (vs:=[_,_]) (fun x hx=>by
     simp at hx;rcases hx with rfl|rfl
     ·exact bN
     ·exact bf)
  ·obtain⟨e0,e1,f0,f1⟩:=bT ((aE.heap _ mq).trans si)
   first
   | (simp[go_sem,e0,e1,f0,f1];done)
   | (simp[go_sem,e0,e1,f0,f1];rfl)
  have hO:cN w.heap.size wl aI:=by rw[hR];exact iB _ _ _ _ _ _
  obtain⟨yx,nL,eA⟩:=ba.only aE mq hO;have rF:=ba.ay;rw[eA] at rF |-;rw[hR,nG ((aE.heap _ mq).trans si)] at nL;obtain⟨hA,SA⟩:=h4.did qX uW S34 od rF yx;clear hR ba aE hO wl aI eA;refine aA ?_;have c9:∀n,(wA.at n).cell? ⟨w.heap.size,0,none⟩=some (.int .i64 1)/\(wA.at n).cell? ⟨w.heap.size,1,none⟩=some (.string aN):=fun n=>⟨(bT nL).1,(bT nL).2.1⟩;refine⟨.inr trivial,trivial,.agg #[.int .i64 1,.string aN],p7 (fun n=>?_) (fun n e he=>?_),_,eN,.inl ⟨hq,rfl,rfl⟩,hA,SA⟩
  ·obtain⟨c0,c1⟩:=c9 n;simp[results,results65,go_sem,c0,c1]
  ·obtain⟨c0,c1⟩:=c9 n;simp[results,results65,go_sem,c0,c1] at he;rcases he with rfl|rfl;all_goals exact⟨_,_,_,rfl,mq⟩
 rw[if_neg (by simpa using hq)];refine aA ?_;obtain⟨-,-,f3,f4,-⟩:=h1.gT;by_cases hp:s.phase=1
 ·have hpi:((s.phase:Int)==1)=true:=by simp[hp]
  have CP:IntKind.i64.wrap ((s.time:Int)-s.since)=(s.time:Int)-s.since:=by rw[IntKind.wrap_i64]<;>omega
  refine dq mixed af [some none,some none,some none,some none,some (some (.int .i64 s.phase)),some none,some none,some none,some none,some none,some (some (.int .i64 s.time)),some none,some none,some none,some none,some (some (.int .i64 s.since)),some none,some none,some none]
   (S:=fun σ o' w'=>o2=o'/\w2=w') ⟨rfl,rfl⟩ fun v=>?_
  refine dp ?_;refine bO ?_;refine bK aX rfl rfl rfl ai ai (fun σ o' w' H hS=>?_) ?_
  ·obtain⟨rfl,rfl⟩:=hS;exact⟨h1.ay,cj (aH h1.own),gG h1.own c7⟩
  walk_nrm;refine tM (y:=.bool true) rfl rfl rfl ai (fun w1=>by simp[go_sem,Act.eval,hpi]) (fun w1=>by simp[go_sem,Act.eval]) ?_;refine bO ?_;refine bK aX rfl rfl rfl ai ai (fun σ o' w' H hS=>?_) ?_
  ·obtain⟨rfl,rfl⟩:=hS;exact⟨h1.ay,cj (aH h1.own),gG h1.own c6⟩
  refine bO ?_;refine bK aX rfl rfl rfl ai ai (fun σ o' w' H hS=>?_) ?_
  ·obtain⟨rfl,rfl⟩:=hS;exact⟨h1.ay,cj (aH h1.own),gG h1.own c8⟩
  refine bO ?_;refine cd fun σ o3 w3 kP hS=>?_;obtain⟨rfl,rfl⟩:=hS;clear kP;simp only[gN,cZ,if_true,if_false,reduceIte,Nat.reduceEqDiff];refine hZ W (t:=decide (s.since+5<=s.time)) (by simp[Act.eval,CP];omega) ?_;by_cases ht:s.since+5<=s.time
  ·rw[if_pos (dv ht)];have c2:w2.cell? ⟨K.kb,2,none⟩=some (.pointer (some ⟨K.B.bb,0,none⟩)):=by rw[h1.row.cell aa];rfl
   refine aA ?_;refine aP aX h1.ay rfl ai ai ?_ rfl (v:=.pointer (some ⟨K.B.bb,0,none⟩)) (gG h1.own c2) fun _=>?_
   ·exact cj (aH h1.own)
   refine aA ?_;refine aF W rfl ai rfl func44 af rfl aC rfl ((Oo h1.ay K.B s.fd s.old h1.build).mono ?_);rintro v3 o3 w3 ⟨W3,⟨lo,F,mid,hB,KZ,LJ,hm,hmv⟩,ab4,ht3,hg3⟩;obtain⟨oI,h3,S3,L3⟩:=h1.UO W3 hB hm (h1.ay.lt (h1.build.own _ (.inl rfl))) (K3 hB KZ);obtain⟨p3,l3,c3,rfl⟩:=tx ht3;have Jm:=ht3.Jm ab4 hg3 (RF hB);have Cy:oI w.heap.size=7:=(S3.lab _ aa).trans od;have vz:=(S3.aU.same w.heap.size aa (by rw[od];omega)).trans qK;have rZ:=S3.aU.more _ pH;refine aA ?_;refine bD aX h3.ay rfl ai ai ?_ rfl (R:=fun wl aI=>aI=((((wl.setCell ⟨K.kb,7,none⟩ (.int .i64 (2:Nat))).setCell ⟨K.kb,8,none⟩ (.int .i64 (0:Nat))).setCell ⟨K.kb,9,none⟩ (.slice p3 l3 c3)).setCell ⟨K.kb,10,none⟩ (.slice none 0 0)).setCell ⟨K.kb,11,none⟩ (.int .i64 0)) (fun wl aE=>⟨_,?_,rfl⟩) fun wl aI w9 aE hR ba=>?_
   ·refine dU ?_ ?_
    ·exact aH h3.own
    ·exact cJ (vs:=[_,_,_,_,_]) (fun x hx=>by
      simp at hx;rcases hx with rfl|rfl|rfl|rfl|rfl
      ·exact bN
      ·exact bN
      ·exact ab4
      ·exact gS
      ·exact bN)
   ·have rl:=World.rowIs.of_block h3.row (aE.heap _ h3.own);have e7:=rl.cell (i:=7) aa;have e8:=rl.cell (i:=8) aa;have e9:=rl.cell (i:=9) aa;have Vu:=rl.cell (i:=10) aa;have Pr:=rl.cell (i:=11) aa;have f:=rl.frozen;simp[go_sem,e7,e8,e9,Vu,Pr,f]
   have hO:cN K.kb wl aI:=by rw[hR];exact Ry _ _ _ _ _ _ _ _ _ _ _ _
   obtain⟨kK,kr,e9⟩:=ba.only aE h3.own hO;have gw:=ba.ay;rw[e9] at gw |-;rw[hR] at kr;have h9:=h3.started gw kK ((World.rowIs.of_block ((((((World.rowIs.of_block h3.row (aE.heap _ h3.own)).set 7 _).set 8 _).set 9 _).set 10 _).set 11 _) kr).congr fun j hj=>by
    rcases mm hj with rfl|rfl|rfl|rfl|rfl|rfl|rfl|rfl|rfl|rfl|rfl|rfl|rfl<;>rfl) Jm (fun b hb=>L3 b (by have:=hmv b hb;omega) (hmv b hb))
   have S9:=S3.trans (.of (bu.db (ex:=(·=K.kb)) gw kK rfl) fun b hb=>by rw[hb,h3.l0];omega);have Wj:=(kK.2 _ cV).trans vz;clear hR ba aE hO kr wl aI e9;refine aA ?_;refine bD aX h9.ay rfl ai ai ?_ rfl (R:=fun wl aI=>aI=(wl.setCell ⟨w.heap.size,0,none⟩ (.int .i64 2)).setCell ⟨w.heap.size,1,none⟩ (.string aN)) (fun wl aE=>⟨_,?_,rfl⟩) fun wl aI wA aE hR ba=>?_
   ·refine dU ?_ ?_
    ·exact aH rZ
    ·exact cJ (vs:=[_,_]) (fun x hx=>by
      simp at hx;rcases hx with rfl|rfl
      ·exact bN
      ·exact bf)
   ·obtain⟨e0,e1,f0,f1⟩:=bT ((aE.heap _ rZ).trans Wj)
    first
    | (simp[go_sem,e0,e1,f0,f1];done)
    | (simp[go_sem,e0,e1,f0,f1];rfl)
   have hO:cN w.heap.size wl aI:=by rw[hR];exact iB _ _ _ _ _ _
   obtain⟨yx,nL,eA⟩:=ba.only aE rZ hO;have rF:=ba.ay;rw[eA] at rF |-;rw[hR,nG ((aE.heap _ rZ).trans Wj)] at nL;obtain⟨hA,SA⟩:=h9.did qX uW S9 Cy rF yx;clear hR ba aE hO wl aI eA;refine aA ?_;have c9:∀n,(wA.at n).cell? ⟨w.heap.size,0,none⟩=some (.int .i64 2)/\(wA.at n).cell? ⟨w.heap.size,1,none⟩=some (.string aN):=fun n=>⟨(bT nL).1,(bT nL).2.1⟩;refine⟨.inr trivial,trivial,.agg #[.int .i64 2,.string aN],p7 (fun n=>?_) (fun n e he=>?_),_,oI,.inr (.inl ⟨hq,⟨hp,ht⟩,rfl,lo,F,_,rfl⟩),hA,SA⟩
   ·obtain⟨c0,c1⟩:=c9 n;simp[results,results65,go_sem,c0,c1]
   ·obtain⟨c0,c1⟩:=c9 n;simp[results,results65,go_sem,c0,c1] at he;rcases he with rfl|rfl;all_goals exact⟨_,_,_,rfl,rZ⟩
  ·rw[if_neg (by simpa using ht)];refine aA ?_;refine bD aX h1.ay rfl ai ai ?_ rfl (R:=fun wl aI=>aI=(wl.setCell ⟨w.heap.size,0,none⟩ (.int .i64 0)).setCell ⟨w.heap.size,1,none⟩ (.string aN)) (fun wl aE=>⟨_,?_,rfl⟩) fun wl aI wA aE hR ba=>?_
   ·refine dU ?_ ?_
    ·exact aH pH
    ·exact cJ (vs:=[_,_]) (fun x hx=>by
      simp at hx;rcases hx with rfl|rfl
      ·exact bN
      ·exact bf)
   ·obtain⟨e0,e1,f0,f1⟩:=bT ((aE.heap _ pH).trans qK)
    first
    | (simp[go_sem,e0,e1,f0,f1];done)
    | (simp[go_sem,e0,e1,f0,f1];rfl)
   have hO:cN w.heap.size wl aI:=by rw[hR];exact iB _ _ _ _ _ _
   obtain⟨yx,nL,eA⟩:=ba.only aE pH hO;have rF:=ba.ay;rw[eA] at rF |-;rw[hR,nG ((aE.heap _ pH).trans qK)] at nL;obtain⟨hA,SA⟩:=h1.did qX uW S11 od rF yx;clear hR ba aE hO wl aI eA;refine aA ?_;have c9:∀n,(wA.at n).cell? ⟨w.heap.size,0,none⟩=some (.int .i64 0)/\(wA.at n).cell? ⟨w.heap.size,1,none⟩=some (.string aN):=fun n=>⟨(bT nL).1,(bT nL).2.1⟩;refine⟨.inr trivial,trivial,.agg #[.int .i64 0,.string aN],p7 (fun n=>?_) (fun n e he=>?_),_,eN,.inr (.inr ⟨hq,fun q=>ht q.2,rfl,rfl⟩),hA,SA⟩
   ·obtain⟨c0,c1⟩:=c9 n;simp[results,results65,go_sem,c0,c1]
   ·obtain⟨c0,c1⟩:=c9 n;simp[results,results65,go_sem,c0,c1] at he;rcases he with rfl|rfl;all_goals exact⟨_,_,_,rfl,pH⟩
 ·have hpi:((s.phase:Int)==1)=false:=eR;refine dq mixed af [some none,some none,some none,some none,some (some (.int .i64 s.phase)),some none,some none,some (some undef),some (some undef),some (some undef),some (some undef),some (some undef),some (some undef),some (some undef),some (some undef),some (some undef),some (some undef),some (some undef),some none]
   (S:=fun σ o' w'=>o2=o'/\w2=w') ⟨rfl,rfl⟩ fun v=>?_
  refine dp ?_;refine bO ?_;refine bK aX rfl rfl rfl ai ai (fun σ o' w' H hS=>?_) ?_
  ·obtain⟨rfl,rfl⟩:=hS;exact⟨h1.ay,cj (aH h1.own),gG h1.own c7⟩
  walk_nrm;refine tM (y:=.bool false) rfl rfl rfl ai (fun w1=>by simp[go_sem,Act.eval,hpi]) (fun w1=>by simp[go_sem,Act.eval]) ?_;refine bO ?_
  iterate 11 (refine Xz rfl rfl ai ?_;walk_nrm)
  refine bO ?_;refine cd fun σ o3 w3 kP hS=>?_;obtain⟨rfl,rfl⟩:=hS;clear kP;simp only[gN,cZ,if_true,if_false,reduceIte,Nat.reduceEqDiff];refine hZ W (t:=false) aC ?_;refine aA ?_;refine bD aX h1.ay rfl ai ai ?_ rfl (R:=fun wl aI=>aI=(wl.setCell ⟨w.heap.size,0,none⟩ (.int .i64 0)).setCell ⟨w.heap.size,1,none⟩ (.string aN)) (fun wl aE=>⟨_,?_,rfl⟩) fun wl aI wA aE hR ba=>?_
  ·refine dU ?_ ?_
   ·exact aH pH
   ·exact cJ (vs:=[_,_]) (fun x hx=>by
     simp at hx;rcases hx with rfl|rfl
     ·exact bN
     ·exact bf)
  ·obtain⟨e0,e1,f0,f1⟩:=bT ((aE.heap _ pH).trans qK)
   first
   | (simp[go_sem,e0,e1,f0,f1];done)
   | (simp[go_sem,e0,e1,f0,f1];rfl)
  have hO:cN w.heap.size wl aI:=by rw[hR];exact iB _ _ _ _ _ _
  obtain⟨yx,nL,eA⟩:=ba.only aE pH hO;have rF:=ba.ay;rw[eA] at rF |-;rw[hR,nG ((aE.heap _ pH).trans qK)] at nL;obtain⟨hA,SA⟩:=h1.did qX uW S11 od rF yx;clear hR ba aE hO wl aI eA;refine aA ?_;have c9:∀n,(wA.at n).cell? ⟨w.heap.size,0,none⟩=some (.int .i64 0)/\(wA.at n).cell? ⟨w.heap.size,1,none⟩=some (.string aN):=fun n=>⟨(bT nL).1,(bT nL).2.1⟩;refine⟨.inr trivial,trivial,.agg #[.int .i64 0,.string aN],p7 (fun n=>?_) (fun n e he=>?_),_,eN,.inr (.inr ⟨hq,fun q=>hp q.1,rfl,rfl⟩),hA,SA⟩
  ·obtain⟨c0,c1⟩:=c9 n;simp[results,results65,go_sem,c0,c1]
  ·obtain⟨c0,c1⟩:=c9 n;simp[results,results65,go_sem,c0,c1] at he;rcases he with rfl|rfl;all_goals exact⟨_,_,_,rfl,pH⟩
theorem vA{Post:Value->aM->ae->Prop}{A:Nat}{n:Int}{x:ah}(h:bg o w K s 1 lab)(hb:w.heap[A]?=some (.cells #[.int .i64 n,.string x] 32))(cV:A≠K.kb)(hA:o A)(tm:Array Value)(ht:tm.getD 2 undef=.pointer (some ⟨A,0,none⟩))(hp:∀w',bg o w' K s 0 lab->cN K.kb w w'->Post (did n x) o w'):
  jf (XB ar Fin 0) 38 Post ⟨tm,[{target:=.fn (.func 46) #[],args:=#[.pointer (some ⟨K.kb,0,none⟩)]}]⟩ o w:=by
 have W:=bJ (P:=ar) (Fin:=Fin) (d:=0);refine h.unlock tm fun w' hk hz hs=>Bq W func38 rfl (p7 (fun n=>?_) (fun n e he=>?_)) (hp w' hk ⟨hz,hs⟩)
 ·have kb:=(hs A cV).trans hb;have c0:(w'.at n).cell? ⟨A,0,none⟩=_:=(bT kb).1;have c1:(w'.at n).cell? ⟨A,1,none⟩=_:=(bT kb).2.1;simp at ht;simp[results,results38,go_sem,ht,c0,c1,did]
 ·have kb:=(hs A cV).trans hb;have c0:(w'.at n).cell? ⟨A,0,none⟩=_:=(bT kb).1;have c1:(w'.at n).cell? ⟨A,1,none⟩=_:=(bT kb).2.1;simp at ht;simp[results,results38,go_sem,ht,c0,c1] at he;rcases he with rfl|rfl;all_goals exact⟨_,_,_,rfl,hA⟩
theorem Fx.shape{s':kT}{v:Value}(h:Fx K s s' v):∃n x,v=did n x:=by
 rcases h with⟨-,e,-⟩|⟨-,-,e,-⟩|⟨-,-,e,-⟩
 ·exact⟨_,_,e⟩
 ·exact⟨_,_,e⟩
 ·exact⟨_,_,e⟩
theorem Fw.shape{s':kT}{F:dm}{file:ah->V}{v:Value}(h:Fw K s s' F file v):∃n x,v=did n x:=by
 rcases h with⟨-,e⟩|⟨_,e,-⟩
 ·exact e.shape
 ·exact⟨_,_,e⟩
def kX(K:sj)(s s':kT)(F:dm)(file:ah->V)(v:Value):Prop :=
 (s.phase=2/\Fw K s s' F file v)\/(s.phase=3/\Checked K s s' F file v)\/(s.phase≠2/\s.phase≠3/\Fx K s s' v)
theorem Yy[Payload](h:bg o w K s 0 lab)(lo:Nat)(F:dm)(file:ah->V)(pU:∀x,(file x).2.size<=100)(KZ:s.phase=2\/s.phase=3->s.fd=some (lo,F))(h2r:s.phase=2->s.rd.length=s.src.length->s.rd.map (·.1)=(iq K.B.NM K.B.rs).map file)(h3r:s.phase=3->s.rd.length=s.src.length/\s.rd.map (·.1)=(iq K.B.NM K.B.rs).map file):
  bp ar (XB ar Fin 0) 38 #[.pointer (some ⟨K.kb,0,none⟩)] o w fun v o' w'=>∃s' lab',kX K s s' F file v/\bg o' w' K s' 0 lab'/\cK o w lab o' w' lab':=by
 have W:=bJ (P:=ar) (Fin:=Fin) (d:=0);refine lO W func38 ai ?_;walk_nrmf Tryz.f38;refine aA ?_;refine cq aX h.ay rfl ai ai kp rfl (R:=fun wl v aI=>v=.pointer (some ⟨wl.heap.size,0,none⟩)/\aI=wl.alloc (Obj.cells #[.int .i64 0,.string aN] 32)) (fun wl aE=>⟨_,_,by simp[go_sem];rfl,rfl,rfl⟩) fun wl v1 aI w1 aE hR ba=>?_;obtain⟨rfl,hR⟩:=hR;obtain⟨z1,k1,qK⟩:=ba.alloc h.ay aE hR;have mw:=ba.ay;rw[aE.size];clear hR ba aE wl aI;obtain⟨eN,h1,uW,od,pH,qX⟩:=h.opened mw z1 k1;generalize grow o w w1=o1 at *;have cV:w.heap.size≠K.kb:=fun e=>by have:=h1.l0;rw[<- e,od] at this;omega
 refine aA ?_;refine aF W rfl ai rfl func45 af rfl aC rfl ((yf K.kb 0 h1.own (by rw[h1.row.cell aa];rfl) (h1.row.frozen 0)).mono ?_);rintro v0 o0 w0 ⟨rfl,rfl,rfl⟩;have h2:=h1.lock (lk':=1);have S2:=cK.lock h1 (lk':=1);have O8:=fW w1 K.kb 0 (.int .i32 1);generalize w1.setCell ⟨K.kb,0,none⟩ (.int .i32 1)=w2 at h2 O8 S2 |-;have O6:=(O8.2 _ cV).trans qK;refine aA ?_;refine kH W (d:={target:=.fn (.func 46) #[],args:=#[.pointer (some ⟨K.kb,0,none⟩)]}) rfl ai (fun w1=>fa) (fun w1=>fa) rfl ?_;walk_nrm;have c7:w2.cell? ⟨K.kb,7,none⟩=some (.int .i64 s.phase):=by rw[h2.row.cell aa];rfl
 refine aA ?_;refine aP aX h2.ay rfl ai ai ?_ rfl (v:=.int .i64 s.phase) (gG h2.own c7) fun _=>?_
 ·exact cj (aH h2.own)
 refine aA ?_;refine hZ W (t:=decide (s.phase=2)) (by simp[Act.eval];rw[dD];simp;omega) ?_;by_cases p2:s.phase=2
 ·rw[if_pos (dv p2)];refine aA ?_;refine aF W rfl ai rfl func63 af rfl aC rfl ((K2 h2 lo F (KZ (.inl p2)) file pU (h2r p2)).mono ?_);rintro v0 o4 w4 ⟨s',uu,uh,h4,S4⟩;have FX:uu w.heap.size=7:=(S4.lab _ (by rw[O8.1];omega)).trans od;have si:=(S4.aU.same w.heap.size (by rw[O8.1];omega) (by rw[od];omega)).trans O6;have mq:=S4.aU.more _ pH;have Yu:=S2.trans S4;obtain⟨dn,dx,rfl⟩:=uh.shape;unfold did at uh |-;walk_nrm;refine bD aX h4.ay rfl ai ai ?_ rfl (R:=fun wl aI=>aI=(wl.setCell ⟨w.heap.size,0,none⟩ (.int .i64 dn)).setCell ⟨w.heap.size,1,none⟩ (.string dx)) (fun wl aE=>⟨_,?_,rfl⟩) fun wl aI wA aE hR ba=>?_
  ·refine dU ?_ ?_
   ·exact aH mq
   ·exact cJ (vs:=[_,_]) (fun x hx=>by
     simp at hx;rcases hx with rfl|rfl
     ·exact bN
     ·exact bf)
  ·obtain⟨e0,e1,f0,f1⟩:=bT ((aE.heap _ mq).trans si);simp[go_sem,e0,e1,f0,f1]
  have hO:cN w.heap.size wl aI:=by rw[hR];exact iB _ _ _ _ _ _
  obtain⟨yx,nL,eA⟩:=ba.only aE mq hO;have rF:=ba.ay;rw[eA] at rF |-;rw[hR,nG ((aE.heap _ mq).trans si)] at nL;obtain⟨hA,SA⟩:=h4.did qX uW Yu FX rF yx;clear hR ba aE hO wl aI eA;refine aA ?_;exact⟨.inr trivial,vA hA nL cV mq _ rfl fun w' hk on=>⟨s',_,.inl ⟨p2,uh⟩,hk,SA.trans (.of (bu.db (ex:=(·=K.kb)) hk.ay on rfl) fun b hb=>by rw[hb,hA.l0];omega)⟩⟩
 rw[if_neg (by simpa using p2)];refine aA ?_;refine hZ W (t:=decide (s.phase=3)) (by simp[Act.eval];rw[dD];simp;omega) ?_;by_cases p3:s.phase=3
 ·rw[if_pos (dv p3)];refine aA ?_;refine aF W rfl ai rfl func64 af rfl aC rfl ((zn h2 (h3r p3).1 lo F (KZ (.inr p3)) file pU (h3r p3).2).mono ?_);rintro v0 o4 w4 ⟨s',uu,uh,h4,S4⟩;have FX:uu w.heap.size=7:=(S4.lab _ (by rw[O8.1];omega)).trans od;have si:=(S4.aU.same w.heap.size (by rw[O8.1];omega) (by rw[od];omega)).trans O6;have mq:=S4.aU.more _ pH;have Yu:=S2.trans S4;obtain⟨dn,dx,rfl⟩:=uh.shape;unfold did at uh |-;walk_nrm;refine bD aX h4.ay rfl ai ai ?_ rfl (R:=fun wl aI=>aI=(wl.setCell ⟨w.heap.size,0,none⟩ (.int .i64 dn)).setCell ⟨w.heap.size,1,none⟩ (.string dx)) (fun wl aE=>⟨_,?_,rfl⟩) fun wl aI wA aE hR ba=>?_
  ·refine dU ?_ ?_
   ·exact aH mq
   ·exact cJ (vs:=[_,_]) (fun x hx=>by
     simp at hx;rcases hx with rfl|rfl
     ·exact bN
     ·exact bf)
  ·obtain⟨e0,e1,f0,f1⟩:=bT ((aE.heap _ mq).trans si);simp[go_sem,e0,e1,f0,f1]
  have hO:cN w.heap.size wl aI:=by rw[hR];exact iB _ _ _ _ _ _
  obtain⟨yx,nL,eA⟩:=ba.only aE mq hO;have rF:=ba.ay;rw[eA] at rF |-;rw[hR,nG ((aE.heap _ mq).trans si)] at nL;obtain⟨hA,SA⟩:=h4.did qX uW Yu FX rF yx;clear hR ba aE hO wl aI eA;refine aA ?_;exact⟨.inr trivial,vA hA nL cV mq _ rfl fun w' hk on=>⟨s',_,.inr (.inl ⟨p3,uh⟩),hk,SA.trans (.of (bu.db (ex:=(·=K.kb)) hk.ay on rfl) fun b hb=>by rw[hb,hA.l0];omega)⟩⟩
 rw[if_neg (by simpa using p3)];refine aA ?_;refine aF W rfl ai rfl func65 af rfl aC rfl ((Yx h2).mono ?_);rintro v0 o4 w4 ⟨s',uu,uh,h4,S4⟩;have FX:uu w.heap.size=7:=(S4.lab _ (by rw[O8.1];omega)).trans od;have si:=(S4.aU.same w.heap.size (by rw[O8.1];omega) (by rw[od];omega)).trans O6;have mq:=S4.aU.more _ pH;have Yu:=S2.trans S4;obtain⟨dn,dx,rfl⟩:=uh.shape;unfold did at uh |-;walk_nrm;refine bD aX h4.ay rfl ai ai ?_ rfl (R:=fun wl aI=>aI=(wl.setCell ⟨w.heap.size,0,none⟩ (.int .i64 dn)).setCell ⟨w.heap.size,1,none⟩ (.string dx)) (fun wl aE=>⟨_,?_,rfl⟩) fun wl aI wA aE hR ba=>?_
 ·refine dU ?_ ?_
  ·exact aH mq
  ·exact cJ (vs:=[_,_]) (fun x hx=>by
    simp at hx;rcases hx with rfl|rfl
    ·exact bN
    ·exact bf)
 ·obtain⟨e0,e1,f0,f1⟩:=bT ((aE.heap _ mq).trans si);simp[go_sem,e0,e1,f0,f1]
 have hO:cN w.heap.size wl aI:=by rw[hR];exact iB _ _ _ _ _ _
 obtain⟨yx,nL,eA⟩:=ba.only aE mq hO;have rF:=ba.ay;rw[eA] at rF |-;rw[hR,nG ((aE.heap _ mq).trans si)] at nL;obtain⟨hA,SA⟩:=h4.did qX uW Yu FX rF yx;clear hR ba aE hO wl aI eA;refine aA ?_;exact⟨.inr trivial,vA hA nL cV mq _ rfl fun w' hk on=>⟨s',_,.inr (.inr ⟨p2,p3,uh⟩),hk,SA.trans (.of (bu.db (ex:=(·=K.kb)) hk.ay on rfl) fun b hb=>by rw[hb,hA.l0];omega)⟩⟩
end
section
variable {Fin:bH} {o o' o1 o2:aM} {w w' w1 w2:ae} {K:sj} {s:kT} {lk:Int} {lab gP:Nat->Nat}
theorem cK.beside{A:Nat}(S:cK o w lab o2 w2 gP)(hW:bu (fun b=>b=A) o2 w2 o' w')(hA:w.heap.size<=A):cK o w lab o' w' gP:=by
 have hz:=S.aU.size;have Ya:=hW.size;exact⟨⟨hW.ay,fun b hb=>hW.more b (S.aU.more b hb),fun b hb=>(hW.new b hb).elim (fun q=>S.aU.new b q) fun q=>.inr aa,aa,fun b hb hx=>(hW.same b aa aa).trans (S.aU.same b hb hx)⟩,S.lab⟩
def Oz(x:Option Value)(v z:Value):Value:=if x.isSome then v else z
def lu(s:kT)(y:Value)(σ:Nat->Option Value):Nat->Value
 |0=>Oz (σ 24) (.int .i64 s.phase) (.int .i64 0)
 |1=>Oz (σ 26) (.int .i64 s.time) (.int .i64 0)
 |2=>Oz (σ 28) (.int .i64 s.since) (.int .i64 0)
 |3=>Oz (σ 30) y (.slice none 0 0)
 |_=>Oz (σ 32) (.bool s.lost) (.bool false)
theorem rG{j:Nat}(h:j<5):j=0\/j=1\/j=2\/j=3\/j=4:=aa
structure Mm(o2:aM)(w2:ae)(A:Nat)(s:kT)(f:Nat->Value)(y:Value)(o':aM)(w':ae):Prop where
 aU:bu (fun b=>b=A) o2 w2 o' w'
 Jm:Mh o' w' y s.qn
 Wl:∀g,y.ownBlock=some g->w2.heap.size<=g
 cap:∃p c,y=.slice p s.qn.length c/\s.qn.length<=c
 row:w'.rowIs A 70 5 f
theorem Mm.put{A:Nat}{f f':Nat->Value}{y:Value}{w9:ae}(L:Mm o2 w2 A s f y o' w')(hA:A<w2.heap.size)(hF:bE ar L0 o' w9)(on:cN A w' w9)(hr:w9.rowIs A 70 5 f'):Mm o2 w2 A s f' y o' w9 :=
 ⟨L.aU.trans (bu.db hF on rfl),L.Jm.keep (fun _ q=>q) (fun g hg=>on.2 g (by have:=L.Wl g hg;omega)),L.Wl,L.cap,hr⟩
def K4(o2:aM)(w2:ae)(A:Nat)(s:kT)(σ:Nat->Option Value)(o':aM)(w':ae):Prop:=(σ 17=none/\o2=o'/\w2=w')\/∃y,σ 17=some y/\Mm o2 w2 A s (lu s y σ) y o' w'
theorem K4.std{A b:Nat}{σ:Nat->Option Value}(h:K4 o2 w2 A s σ o' w')(hF:bE ar L0 o2 w2)(hb:o2 b)(cV:A≠b):bE ar L0 o' w'/\o' b/\w'.heap[b]?=w2.heap[b]?:=by
 rcases h with⟨-,rfl,rfl⟩|⟨y,-,L⟩
 ·exact⟨hF,hb,rfl⟩
 ·exact⟨L.aU.ay,L.aU.more _ hb,L.aU.same b (hF.lt hb) fun q=>cV q.symm⟩
theorem Yz(h:bg o w K s 0 lab):
  bp ar (XB ar Fin 0) 28 #[.pointer (some ⟨K.kb,0,none⟩)] o w fun v o' w'=>∃y lab',v=.agg #[.int .i64 s.phase,.int .i64 s.time,.int .i64 s.since,y,.bool s.lost]/\Mh o' w' y s.qn/\(∀g,y.ownBlock=some g->w.heap.size<=g)/\(∃p c,y=.slice p s.qn.length c/\s.qn.length<=c)/\bg o' w' K s 0 lab'/\cK o w lab o' w' lab':=by
 have W:=bJ (P:=ar) (Fin:=Fin) (d:=0);refine lO W func28 ai ?_;walk_nrmf Tryz.f28;refine aA ?_;refine cq aX h.ay rfl ai ai kp rfl (R:=fun wl v aI=>v=.pointer (some ⟨wl.heap.size,0,none⟩)/\aI=wl.alloc (Obj.cells #[.int .i64 0,.int .i64 0,.int .i64 0,.slice none 0 0,.bool false] 70)) (fun wl aE=>⟨_,_,by first|(simp[go_sem];done)|(simp[go_sem];rfl),rfl,rfl⟩) fun wl v1 aI w1 aE hR ba=>?_;obtain⟨rfl,hR⟩:=hR;obtain⟨z1,k1,qK⟩:=ba.alloc h.ay aE hR;have mw:=ba.ay;rw[aE.size];clear hR ba aE wl aI;obtain⟨eN,h1,uW,od,pH,qX⟩:=h.opened mw z1 k1;generalize grow o w w1=o1 at *;have cV:w.heap.size≠K.kb:=fun e=>by have:=h1.l0;rw[<- e,od] at this;omega
 refine aA ?_;refine aF W rfl ai rfl func45 af rfl aC rfl ((yf K.kb 0 h1.own (by rw[h1.row.cell aa];rfl) (h1.row.frozen 0)).mono ?_);rintro v0 o2 w0 ⟨rfl,rfl,rfl⟩;have h2:=h1.lock (lk':=1);have S2:=cK.lock h1 (lk':=1);have O8:=fW w1 K.kb 0 (.int .i32 1);generalize w1.setCell ⟨K.kb,0,none⟩ (.int .i32 1)=w2 at h2 O8 S2 |-;have O6:=(O8.2 _ cV).trans qK;have S12:cK o w lab o2 w2 eN:=cK.trans ⟨qX.mono (fun b hb=>hb.elim),uW⟩ S2;have K5:w.heap.size<w2.heap.size:=by rw[O8.1];omega
 generalize hAe:w.heap.size=A at *;refine aA ?_;refine kH W (d:={target:=.fn (.func 46) #[],args:=#[.pointer (some ⟨K.kb,0,none⟩)]}) rfl ai (fun w1=>fa) (fun w1=>fa) rfl ?_;walk_nrm;have c5:w2.cell? ⟨K.kb,5,none⟩=some (.bool s.lost):=by rw[h2.row.cell aa];rfl
 have c6:w2.cell? ⟨K.kb,6,none⟩=some (.int .i64 s.time):=by rw[h2.row.cell aa];rfl
 have c7:w2.cell? ⟨K.kb,7,none⟩=some (.int .i64 s.phase):=by rw[h2.row.cell aa];rfl
 have c8:w2.cell? ⟨K.kb,8,none⟩=some (.int .i64 s.since):=by rw[h2.row.cell aa];rfl
 have agi:w2.rowIs A 70 5 (lu s undef fun _=>none):=⟨_,O6,rfl,fun j hj=>by rcases rG hj with rfl|rfl|rfl|rfl|rfl<;>rfl⟩;refine aA ?_;refine dq mixed af [some none,some none,some none,some none,some (some (.int .i64 s.phase)),some none,some none,some none,some (some (.int .i64 s.time)),some none,some none,some none,some none,some (some (.int .i64 s.since)),some none,some none,some none,none,some none,some none,some none,some (some (.bool s.lost)),none,some none,none,some none,none,some none,none,some none,none,some none,none]
  (S:=K4 o2 w2 A s) (.inl ⟨rfl,rfl,rfl⟩) fun v=>?_
 refine dp ?_;refine bO ?_;refine bK aX rfl rfl rfl ai ai (fun σ o' w' H hS=>?_) ?_
 ·obtain⟨hf,hk,hb⟩:=hS.std h2.ay h2.own cV;exact⟨hf,cj (aH hk),gG hk ((cell_of hb).trans c7)⟩
 refine bO ?_;refine bK aX rfl rfl rfl ai ai (fun σ o' w' H hS=>?_) ?_
 ·obtain⟨hf,hk,hb⟩:=hS.std h2.ay h2.own cV;exact⟨hf,cj (aH hk),gG hk ((cell_of hb).trans c6)⟩
 refine bO ?_;refine bK aX rfl rfl rfl ai ai (fun σ o' w' H hS=>?_) ?_
 ·obtain⟨hf,hk,hb⟩:=hS.std h2.ay h2.own cV;exact⟨hf,cj (aH hk),gG hk ((cell_of hb).trans c8)⟩
 refine bO ?_;refine rj rfl rfl ai rfl func52 af rfl (av:=#[.pointer (some ⟨K.kb,4,none⟩)]) aC (fun σ o' w' H O9 hS=>?_) ?_
 ·rcases hS with⟨-,rfl,rfl⟩|⟨y,q,-⟩
  ·obtain⟨p,b,c,hqv,hp,hq,ht,-⟩:=h2.queue.view h2.ay;refine(Rm h2.ay K.kb 4 b c p s.qn h2.own (by rw[h2.row.cell aa];exact congrArg some hqv) (by have:=h.gT.1;omega) hp hq ht (hqv▸h2.queue.cl)).mono ?_;rintro y o3 w3 ⟨N3,t3⟩;have e24:=H.kF [22,21] 24 af;have e26:=H.kF [24,22,21] 26 af;have e28:=H.kF [26,24,22,21] 28 af;have e30:=H.kF [28,26,24,22,21] 30 af;have Zz:=H.kF [30,28,26,24,22,21] 32 af;refine .inr ⟨y,by simp[dB],bu.dL N3,t3.Jm N3.cl (fun g l c e=>fO N3.ay N3.cl g (by rw[e];rfl)) (by have:=h.gT.1;omega),fun g hg=>?_,?_,(agi.of_block (N3.old A K5)).congr fun j hj=>?_⟩
   ·rcases t3 with⟨e,-⟩|⟨g',cap,e,-,e2,-⟩
    ·rw[e] at hg;cases hg
    ·rw[e] at hg;have:=aK hg;simp at this;omega
   ·rcases t3 with⟨e,e2⟩|⟨g',cap,e,e1,-⟩
    ·exact⟨none,0,by rw[e,e2];rfl,by rw[e2];exact ag _⟩
    ·exact⟨_,cap,e,e1⟩
   ·rcases rG hj with rfl|rfl|rfl|rfl|rfl<;>simp[lu,dB,Oz,e24,e26,e28,e30,Zz]
  ·rw[O9] at q;cases q
 refine bO ?_;refine iL rfl rfl ai rfl func53 af rfl (av:=#[.pointer (some ⟨K.kb,4,none⟩)]) aC (fun σ o' w' H hS=>?_) ?_
 ·obtain⟨hf,hk,hb⟩:=hS.std h2.ay h2.own cV;refine(Ym hf K.kb 4 s.lost hk ((cell_of hb).trans c5)).mono ?_;rintro y o3 w3 ⟨rfl,rfl,rfl⟩;exact⟨rfl,hS⟩
 refine bO ?_;refine jg aX rfl rfl rfl ai ai (fun σ o' w' H TZ hS=>?_) ?_
 ·rcases hS with⟨q,-⟩|⟨y,q,L⟩
  ·rw[H.sV [21] 17 af rfl] at q;cases q
  ·have hA:=L.aU.more _ pH;have e24:=H.kF [] 24 af;have e26:=H.kF [24] 26 af;have e28:=H.kF [26,24] 28 af;have e30:=H.kF [28,26,24] 30 af;have Zz:=H.kF [30,28,26,24] 32 af;refine⟨L.aU.ay,fun x hx=>?_,fun wl aI=>aI=((((wl.setCell ⟨A,0,none⟩ (.int .i64 0)).setCell ⟨A,1,none⟩ (.int .i64 0)).setCell ⟨A,2,none⟩ (.int .i64 0)).setCell ⟨A,3,none⟩ (.slice none 0 0)).setCell ⟨A,4,none⟩ (.bool false),fun wl aE=>⟨_,?_,rfl⟩,fun wl aI w9 aE hR ba=>?_⟩
   ·simp[Op.operands] at hx;rcases hx with rfl|rfl
    ·simp[Act.eval];exact aH hA
    ·simp[Act.eval];refine cJ (vs:=[_,_,_,_,_]) (fun x hx=>?_);simp at hx;rcases hx with rfl|rfl|rfl
     ·exact bN
     ·exact gS
     ·exact kn
   ·have rl:=World.rowIs.of_block L.row (aE.heap _ hA);have f:=rl.frozen;have e0:=rl.cell (i:=0) aa;have e1:=rl.cell (i:=1) aa;have e2:=rl.cell (i:=2) aa;have e3:=rl.cell (i:=3) aa;have e4:=rl.cell (i:=4) aa;simp[go_sem,Act.eval,e0,e1,e2,e3,e4,f]
   ·have hO:cN A wl aI:=by rw[hR];exact((((fW wl A 0 _).at 1 _).at 2 _).at 3 _).at 4 _
    obtain⟨on,kr,e9⟩:=ba.only aE hA hO;have gw:=ba.ay;rw[e9] at gw |-;rw[hR] at kr;have rl:=World.rowIs.of_block L.row (aE.heap _ hA);refine .inr ⟨y,by simpa[dB] using q,L.put K5 gw on ((World.rowIs.of_block (((((rl.set 0 _).set 1 _).set 2 _).set 3 _).set 4 _) kr).congr fun j hj=>?_)⟩;rcases rG hj with rfl|rfl|rfl|rfl|rfl<;>simp[lu,dB,Oz,e24,e26,e28,e30,Zz]
 refine bO ?_;refine jg aX rfl rfl rfl ai ai (fun σ o' w' H TZ hS=>?_) ?_
 ·rcases hS with⟨q,-⟩|⟨y,q,L⟩
  ·rw[H.sV [22,21] 17 af rfl] at q;cases q
  ·have hA:=L.aU.more _ pH;refine⟨L.aU.ay,fun x hx=>?_,fun wl aI=>aI=wl.setCell ⟨A,0,none⟩ (.int .i64 s.phase),fun wl aE=>⟨_,?_,rfl⟩,fun wl aI w9 aE hR ba=>?_⟩
   ·simp[Op.operands] at hx;rcases hx with rfl|rfl
    ·simp[Act.eval];exact aH hA
    ·simp[Act.eval];exact bN
   ·have rl:=World.rowIs.of_block L.row (aE.heap _ hA);have f:=rl.frozen;have e0:=rl.cell (i:=0) aa;have e1:=rl.cell (i:=1) aa;have e2:=rl.cell (i:=2) aa;have e3:=rl.cell (i:=3) aa;have e4:=rl.cell (i:=4) aa;simp[go_sem,Act.eval,e0,e1,e2,e3,e4,f]
   ·have hO:cN A wl aI:=by rw[hR];exact fW wl A 0 _
    obtain⟨on,kr,e9⟩:=ba.only aE hA hO;have gw:=ba.ay;rw[e9] at gw |-;rw[hR] at kr;have rl:=World.rowIs.of_block L.row (aE.heap _ hA);refine .inr ⟨y,by simpa[dB] using q,L.put K5 gw on ((World.rowIs.of_block (rl.set 0 _) kr).congr fun j hj=>?_)⟩;rcases rG hj with rfl|rfl|rfl|rfl|rfl<;>simp[lu,dB,Oz]
 refine bO ?_;refine jg aX rfl rfl rfl ai ai (fun σ o' w' H TZ hS=>?_) ?_
 ·rcases hS with⟨q,-⟩|⟨y,q,L⟩
  ·rw[H.sV [24,22,21] 17 af rfl] at q;cases q
  ·have hA:=L.aU.more _ pH;refine⟨L.aU.ay,fun x hx=>?_,fun wl aI=>aI=wl.setCell ⟨A,1,none⟩ (.int .i64 s.time),fun wl aE=>⟨_,?_,rfl⟩,fun wl aI w9 aE hR ba=>?_⟩
   ·simp[Op.operands] at hx;rcases hx with rfl|rfl
    ·simp[Act.eval];exact aH hA
    ·simp[Act.eval];exact bN
   ·have rl:=World.rowIs.of_block L.row (aE.heap _ hA);have f:=rl.frozen;have e0:=rl.cell (i:=0) aa;have e1:=rl.cell (i:=1) aa;have e2:=rl.cell (i:=2) aa;have e3:=rl.cell (i:=3) aa;have e4:=rl.cell (i:=4) aa;simp[go_sem,Act.eval,e0,e1,e2,e3,e4,f]
   ·have hO:cN A wl aI:=by rw[hR];exact fW wl A 1 _
    obtain⟨on,kr,e9⟩:=ba.only aE hA hO;have gw:=ba.ay;rw[e9] at gw |-;rw[hR] at kr;have rl:=World.rowIs.of_block L.row (aE.heap _ hA);refine .inr ⟨y,by simpa[dB] using q,L.put K5 gw on ((World.rowIs.of_block (rl.set 1 _) kr).congr fun j hj=>?_)⟩;rcases rG hj with rfl|rfl|rfl|rfl|rfl<;>simp[lu,dB,Oz]
 refine bO ?_;refine jg aX rfl rfl rfl ai ai (fun σ o' w' H TZ hS=>?_) ?_
 ·rcases hS with⟨q,-⟩|⟨y,q,L⟩
  ·rw[H.sV [26,24,22,21] 17 af rfl] at q;cases q
  ·have hA:=L.aU.more _ pH;refine⟨L.aU.ay,fun x hx=>?_,fun wl aI=>aI=wl.setCell ⟨A,2,none⟩ (.int .i64 s.since),fun wl aE=>⟨_,?_,rfl⟩,fun wl aI w9 aE hR ba=>?_⟩
   ·simp[Op.operands] at hx;rcases hx with rfl|rfl
    ·simp[Act.eval];exact aH hA
    ·simp[Act.eval];exact bN
   ·have rl:=World.rowIs.of_block L.row (aE.heap _ hA);have f:=rl.frozen;have e0:=rl.cell (i:=0) aa;have e1:=rl.cell (i:=1) aa;have e2:=rl.cell (i:=2) aa;have e3:=rl.cell (i:=3) aa;have e4:=rl.cell (i:=4) aa;simp[go_sem,Act.eval,e0,e1,e2,e3,e4,f]
   ·have hO:cN A wl aI:=by rw[hR];exact fW wl A 2 _
    obtain⟨on,kr,e9⟩:=ba.only aE hA hO;have gw:=ba.ay;rw[e9] at gw |-;rw[hR] at kr;have rl:=World.rowIs.of_block L.row (aE.heap _ hA);refine .inr ⟨y,by simpa[dB] using q,L.put K5 gw on ((World.rowIs.of_block (rl.set 2 _) kr).congr fun j hj=>?_)⟩;rcases rG hj with rfl|rfl|rfl|rfl|rfl<;>simp[lu,dB,Oz]
 refine bO ?_;refine jg aX rfl rfl rfl ai ai (fun σ o' w' H TZ hS=>?_) ?_
 ·rcases hS with⟨q,-⟩|⟨y,q,L⟩
  ·rw[H.sV [28,26,24,22,21] 17 af rfl] at q;cases q
  ·have hA:=L.aU.more _ pH;obtain⟨yp,yb,yc,Fo,-⟩:=L.Jm.row;have hv:v 17=y:=aK ((H.done 17 af rfl).symm.trans q);refine⟨L.aU.ay,fun x hx=>?_,fun wl aI=>aI=wl.setCell ⟨A,3,none⟩ y,fun wl aE=>⟨_,?_,rfl⟩,fun wl aI w9 aE hR ba=>?_⟩
   ·simp[Op.operands] at hx;rcases hx with rfl|rfl
    ·simp[Act.eval];exact aH hA
    ·simp[Act.eval];rw[hv];exact L.Jm.cl
   ·have rl:=World.rowIs.of_block L.row (aE.heap _ hA);have f:=rl.frozen;have e0:=rl.cell (i:=0) aa;have e1:=rl.cell (i:=1) aa;have e2:=rl.cell (i:=2) aa;have e3:=rl.cell (i:=3) aa;have e4:=rl.cell (i:=4) aa;simp[go_sem,Act.eval,e0,e1,e2,e3,e4,f,hv,Fo]
   ·have hO:cN A wl aI:=by rw[hR];exact fW wl A 3 _
    obtain⟨on,kr,e9⟩:=ba.only aE hA hO;have gw:=ba.ay;rw[e9] at gw |-;rw[hR] at kr;have rl:=World.rowIs.of_block L.row (aE.heap _ hA);refine .inr ⟨y,by simpa[dB] using q,L.put K5 gw on ((World.rowIs.of_block (rl.set 3 _) kr).congr fun j hj=>?_)⟩;rcases rG hj with rfl|rfl|rfl|rfl|rfl<;>simp[lu,dB,Oz]
 refine bO ?_;refine jg aX rfl rfl rfl ai ai (fun σ o' w' H TZ hS=>?_) ?_
 ·rcases hS with⟨q,-⟩|⟨y,q,L⟩
  ·rw[H.sV [30,28,26,24,22,21] 17 af rfl] at q;cases q
  ·have hA:=L.aU.more _ pH;refine⟨L.aU.ay,fun x hx=>?_,fun wl aI=>aI=wl.setCell ⟨A,4,none⟩ (.bool s.lost),fun wl aE=>⟨_,?_,rfl⟩,fun wl aI w9 aE hR ba=>?_⟩
   ·simp[Op.operands] at hx;rcases hx with rfl|rfl
    ·simp[Act.eval];exact aH hA
    ·simp[Act.eval];exact kn
   ·have rl:=World.rowIs.of_block L.row (aE.heap _ hA);have f:=rl.frozen;have e0:=rl.cell (i:=0) aa;have e1:=rl.cell (i:=1) aa;have e2:=rl.cell (i:=2) aa;have e3:=rl.cell (i:=3) aa;have e4:=rl.cell (i:=4) aa;simp[go_sem,Act.eval,e0,e1,e2,e3,e4,f]
   ·have hO:cN A wl aI:=by rw[hR];exact fW wl A 4 _
    obtain⟨on,kr,e9⟩:=ba.only aE hA hO;have gw:=ba.ay;rw[e9] at gw |-;rw[hR] at kr;have rl:=World.rowIs.of_block L.row (aE.heap _ hA);refine .inr ⟨y,by simpa[dB] using q,L.put K5 gw on ((World.rowIs.of_block (rl.set 4 _) kr).congr fun j hj=>?_)⟩;rcases rG hj with rfl|rfl|rfl|rfl|rfl<;>simp[lu,dB,Oz]
 walk_nrm;refine cd fun σ o5 w5 kP hS=>?_;rcases hS with⟨q,-⟩|⟨y,q,L⟩
 ·rw[kP 17 dh rfl] at q;cases q
 have ab5:w5.rowIs A 70 5 (fun j=>match j with|0=>.int .i64 s.phase|1=>.int .i64 s.time|2=>.int .i64 s.since|3=>y|_=>.bool s.lost):=L.row.congr fun j hj=>by
  rcases rG hj with rfl|rfl|rfl|rfl|rfl<;>simp[lu,Oz,kP 24 dh rfl,kP 26 dh rfl,kP 28 dh rfl,kP 30 dh rfl,kP 32 dh rfl]
 have qi:=L.aU.more _ pH;have Wl:∀g,y.ownBlock=some g->w.heap.size<=g:=fun g hg=>by have:=L.Wl g hg;omega
 have h5:=h2.aside L.aU fun b hb=>by rw[hb];exact od
 have S5:=S12.beside L.aU aa;have Jm:=L.Jm;have E1:=L.cap;clear kP q L;simp only[gN,cZ,if_true,if_false,reduceIte,Nat.reduceEqDiff];refine aA ?_;refine⟨.inr trivial,h5.unlock _ fun w' hk hz hs=>Bq W func28 rfl (v:=.agg #[.int .i64 s.phase,.int .i64 s.time,.int .i64 s.since,y,.bool s.lost]) (p7 (fun n=>?_) (fun n e he=>?_)) ⟨y,eN,rfl,Jm.keep (fun _ q=>q) (fun g hg=>hs g fun e=>?_),(fun g hg=>hAe▸Wl g hg),E1,hk,S5.trans (.of (bu.db (ex:=(·=K.kb)) hk.ay ⟨hz,hs⟩ rfl) fun b hb=>by rw[hb,h5.l0];omega)⟩⟩
 ·have rn:=World.rowIs.of_block ab5 (hs A cV);have c0:(w'.at n).cell? ⟨A,0,none⟩=_:=rn.cell (i:=0) aa;have c1:(w'.at n).cell? ⟨A,1,none⟩=_:=rn.cell (i:=1) aa;have c2:(w'.at n).cell? ⟨A,2,none⟩=_:=rn.cell (i:=2) aa;have c3:(w'.at n).cell? ⟨A,3,none⟩=_:=rn.cell (i:=3) aa;have c4:(w'.at n).cell? ⟨A,4,none⟩=_:=rn.cell (i:=4) aa;simp[results,results28,go_sem,c0,c1,c2,c3,c4]
 ·have rn:=World.rowIs.of_block ab5 (hs A cV);have c0:(w'.at n).cell? ⟨A,0,none⟩=_:=rn.cell (i:=0) aa;have c1:(w'.at n).cell? ⟨A,1,none⟩=_:=rn.cell (i:=1) aa;have c2:(w'.at n).cell? ⟨A,2,none⟩=_:=rn.cell (i:=2) aa;have c3:(w'.at n).cell? ⟨A,3,none⟩=_:=rn.cell (i:=3) aa;have c4:(w'.at n).cell? ⟨A,4,none⟩=_:=rn.cell (i:=4) aa;simp[results,results28,go_sem,c0,c1,c2,c3,c4] at he;rcases he with rfl|rfl|rfl|rfl|rfl;all_goals exact⟨_,_,_,rfl,qi⟩
 ·have:=Wl g hg;have:=h.ay.lt h.own;omega
end
section
variable {Fin:bH} {o o' o2 o3:aM} {w w' w2 w3:ae} {K:sj} {s:kT} {lk:Int} {lab gP:Nat->Nat}
theorem cK.refl(hF:bE ar L0 o w):cK o w lab o w lab:=⟨bu.refl hF,fun _ _=>rfl⟩
theorem bg.grown(h:bg o2 w2 K s lk gP)(S:cK o w lab o2 w2 gP)(hW:bu (fun _=>False) o2 w2 o3 w3):∃oI,bg o3 w3 K s lk oI/\cK o w lab o3 w3 oI/\(∀b,b<w2.heap.size->oI b=gP b)/\∀b,w2.heap.size<=b->oI b=7:=by
 have hl:∀b,b<w2.heap.size->(if b<w2.heap.size then gP b else 7)=gP b:=fun b hb=>if_pos hb;refine⟨fun b=>if b<w2.heap.size then gP b else 7,((h.Ix fun b hb=>hl b (h.ay.lt hb)).xl hW).1,S.trans ⟨hW.mono fun b hb=>hb.elim,hl⟩,hl,fun b hb=>if_neg aa⟩
theorem bg.wrote{A:Nat}(h:bg o2 w2 K s lk gP)(S:cK o w lab o2 w2 gP)(hl:gP A=7)(hA:w.heap.size<=A)(hF:bE ar L0 o2 w3)(on:cN A w2 w3):bg o2 w3 K s lk gP/\cK o w lab o2 w3 gP :=
 ⟨h.aside (ex:=fun b=>b=A) (bu.db hF on rfl) fun b hb=>by rw[hb];exact hl,S.beside (bu.db hF on rfl) hA⟩
theorem bu.mn(hF:bE ar L0 (grow o w w') w')(z:w'.heap.size=w.heap.size+1)(k:∀b,b<w.heap.size->w'.heap[b]?=w.heap[b]?):bu (fun _=>False) o w (grow o w w') w'/\grow o w w' w.heap.size :=
 ⟨⟨hF,iK,fun b hb=>hb.imp id fun q=>q.1,aa,fun b hb _=>k b hb⟩,.inr ⟨ag _,aa⟩⟩
end
section
open Go.RowKit
theorem K6:(ar.info? 65).map (fun i=>(i.zero,i.size,i.bytes))=some (some (.agg #[.string aN,.string aN,.bool false]),3,40):=af
theorem Fy(b c n:Nat)(p:Option Addr)(xs:List Value)(w:ae)(hl:xs.length=n*3)(hn:n<=1000)(hp:p=none->n=0)(hq:n≠0->p=some ⟨b,0,none⟩)(hx:∀j u,xs[j]?=some u->w.cell? ⟨b,j,none⟩=some u)(h1:∀u∈xs,u.oneCell'=true):
  Calls ar 50 #[.slice p n c] w fun e w'=>∃v,e=.returned v/\w'.ownsRow w.heap.size 65 3 v n xs/\Below w.heap.size w w'/\w.heap.size<=w'.heap.size:=by
 have q24:∀(w:ae) (a:Option Addr) (n c n' c':Nat),(binOp .eql 46 (.slice a n c) (.slice none n' c')).run ar w=.ok (.bool a.isNone) w:=fun w a n c n' c'=>Lib.run_eql_slice_nil w _ _ a n c n' c' underlying46;go_enter func50,ntmps50;cases p with
 |none =>
  have JG:=hp rfl;subst JG;have FP:xs=[]:=List.length_eq_zero_iff.1 aa;subst FP;go_wp2;go_ret;exact⟨_,rfl,⟨an,.inl ⟨rfl,rfl⟩⟩,Below.refl _ _,ag _⟩
 |some a =>
  obtain⟨i,hi,oF⟩:=Option.map_eq_some_iff.1 K6;simp only[Prod.mk.injEq] at oF;have eH:(w.alloc (.cells #[] 65)).ownsRow w.heap.size 65 3 (.slice (some ⟨w.heap.size,0,none⟩) 0 0) 0 []:=⟨an,.inr ⟨w.heap.size,0,#[],rfl,ag _,jR w _,ag _,by simp[maxLen],an,an⟩⟩;have kB:∀j u,xs[j]?=some u->(w.alloc (.cells #[] 65)).cell? (a.add j)=some u:=fun j u hu=>by
   have JG:n≠0:=fun e=>by
    subst e;have FP:xs=[]:=List.length_eq_zero_iff.1 aa;subst FP;simp at hu
   have ha:=hq JG;cases ha;have hc:=hx j u hu;have hb:b<w.heap.size:=aO fun q=>by
    simp[World.cell?,Array.getElem?_eq_none (Nat.le_of_not_lt q)] at hc
   have:(⟨b,0,none⟩:Addr).add j=⟨b,j,none⟩:=by simp[Addr.add];omega
   rw[this,((Below.refl w.heap.size w).alloc (ag _) _).cell (p:=⟨b,j,none⟩) hb];exact hc
  obtain⟨v',W',e1,e2,e3,_⟩:=run_append_own (P:=ar) (w.alloc (.cells #[] 65)) w.heap.size 46 46 65 i _ 3 40 underlying46 hi oF.1 oF.2.1 oF.2.2 rfl aa _ 0 [] eH a n c xs hl kB h1 (by simp[maxLen];omega) aa an;have vE:=Below.grown ((Below.refl w.heap.size w).alloc (ag _) (.cells #[] 65)) e3 an (fun k hk=>by cases hk;exact ag _);go_wp2_with (at_builtin;refine fM rfl _ _ 46 rfl rfl rfl e1 ?_);go_ret;exact⟨_,rfl,by simpa using e2,vE,vE.size⟩
theorem Dd(b c n:Nat)(p:Option Addr)(xs:List Value)(w:ae)(hl:xs.length=n*3)(hn:n<=1000)(hp:p=none->n=0)(hq:n≠0->p=some ⟨b,0,none⟩)(hx:∀j u,xs[j]?=some u->w.cell? ⟨b,j,none⟩=some u)(h1:∀u∈xs,u.oneCell'=true):
  Calls ar 71 #[.slice p n c] w fun e w'=>∃v,e=.returned v/\w'.ownsRow w.heap.size 42 3 v n xs/\Below w.heap.size w w'/\w.heap.size<=w'.heap.size:=by
 have q24:∀(w:ae) (a:Option Addr) (n c n' c':Nat),(binOp .eql 35 (.slice a n c) (.slice none n' c')).run ar w=.ok (.bool a.isNone) w:=fun w a n c n' c'=>Lib.run_eql_slice_nil w _ _ a n c n' c' underlying35;go_enter func71,ntmps71;cases p with
 |none =>
  have JG:=hp rfl;subst JG;have FP:xs=[]:=List.length_eq_zero_iff.1 aa;subst FP;go_wp2;go_ret;exact⟨_,rfl,⟨an,.inl ⟨rfl,rfl⟩⟩,Below.refl _ _,ag _⟩
 |some a =>
  obtain⟨i,hi,oF⟩:=Option.map_eq_some_iff.1 BF;simp only[Prod.mk.injEq] at oF;have eH:(w.alloc (.cells #[] 42)).ownsRow w.heap.size 42 3 (.slice (some ⟨w.heap.size,0,none⟩) 0 0) 0 []:=⟨an,.inr ⟨w.heap.size,0,#[],rfl,ag _,jR w _,ag _,by simp[maxLen],an,an⟩⟩;have kB:∀j u,xs[j]?=some u->(w.alloc (.cells #[] 42)).cell? (a.add j)=some u:=fun j u hu=>by
   have JG:n≠0:=fun e=>by
    subst e;have FP:xs=[]:=List.length_eq_zero_iff.1 aa;subst FP;simp at hu
   have ha:=hq JG;cases ha;have hc:=hx j u hu;have hb:b<w.heap.size:=aO fun q=>by
    simp[World.cell?,Array.getElem?_eq_none (Nat.le_of_not_lt q)] at hc
   have:(⟨b,0,none⟩:Addr).add j=⟨b,j,none⟩:=by simp[Addr.add];omega
   rw[this,((Below.refl w.heap.size w).alloc (ag _) _).cell (p:=⟨b,j,none⟩) hb];exact hc
  obtain⟨v',W',e1,e2,e3,_⟩:=run_append_own (P:=ar) (w.alloc (.cells #[] 42)) w.heap.size 35 35 42 i _ 3 48 underlying35 hi oF.1 oF.2.1 oF.2.2 rfl aa _ 0 [] eH a n c xs hl kB h1 (by simp[maxLen];omega) aa an;have vE:=Below.grown ((Below.refl w.heap.size w).alloc (ag _) (.cells #[] 42)) e3 an (fun k hk=>by cases hk;exact ag _);go_wp2_with (at_builtin;refine fM rfl _ _ 35 rfl rfl rfl e1 ?_);go_ret;exact⟨_,rfl,by simpa using e2,vE,vE.size⟩
end
section
variable {Fin:bH} {o o':aM} {w w':ae} {K:sj} {s:kT} {lk:Int} {lab:Nat->Nat}
def YA(lo:Nat)(rs:List (ah×V))(v:Value)(w':ae):Prop:=(v=.slice none 0 0/\rs=[])\/∃g cap,v=.slice (some ⟨g,0,none⟩) rs.length cap/\lo<=g/\g<w'.heap.size/\zi w' g rs
def fP(rs:List (ah×V)):List Value:=(rs.map fun r=>[Value.string r.1,.string r.2.2,.bool (!r.2.1)]).flatten
theorem xm(rs:List (ah×V)):(fP rs).length=rs.length*3:=by
 induction rs with
 |nil=>rfl
 |cons r rs ih =>
  have e:fP (r::rs)=.string r.1 :: .string r.2.2 :: .bool (!r.2.1)::fP rs:=by simp[fP]
  rw[e];simp[ih];omega
theorem rH:∀(rs:List (ah×V)) (i:Nat) (h:i<rs.length),(fP rs)[i*3]?=some (.string rs[i].1)/\(fP rs)[i*3+1]?=some (.string rs[i].2.2)/\(fP rs)[i*3+2]?=some (.bool (!rs[i].2.1))
 |r::rs,0,h=>by simp[fP]
 |r::rs,i+1,h=>by
  have ih:=rH rs i (by simpa using h);have e:fP (r::rs)=.string r.1 :: .string r.2.2 :: .bool (!r.2.1)::fP rs:=by simp[fP]
  have e2:(i+1)*3=i*3+1+1+1:=aa;rw[e,e2];simpa using ih
theorem Fz(rs:List (ah×V)):∀u∈fP rs,u.oneCell'=true:=fun u hu=>by
 simp only[fP,List.mem_flatten,List.mem_map] at hu;obtain⟨l,⟨r,-,rfl⟩,hu⟩:=hu;simp at hu;rcases hu with rfl|rfl|rfl<;>rfl
theorem Iz{b:Nat}{rs:List (ah×V)}(h:zi w b rs):∀j u,(fP rs)[j]?=some u->w.cell? ⟨b,j,none⟩=some u:=fun j u hu=>by
 have hj:j<rs.length*3:=by
  rw[<- xm];exact(List.getElem?_eq_some_iff.1 hu).1
 have hi:j/3<rs.length:=aa;obtain⟨c0,c1,c2⟩:=rH rs (j/3) hi;obtain⟨d0,d1,d2⟩:=h (j/3) hi;have h3:j=j/3*3\/j=j/3*3+1\/j=j/3*3+2:=aa;generalize j/3=i at *;rcases h3 with rfl|rfl|rfl
 ·rw[c0] at hu;rw[d0];exact hu
 ·rw[c1] at hu;rw[d1];exact hu
 ·rw[c2] at hu;rw[d2];exact hu
theorem zo{w w':ae}{b:Nat}{rs:List (ah×V)}(h:zi w b rs)(e:w'.heap[b]?=w.heap[b]?):zi w' b rs:=fun i hi=>⟨(cell_of e).trans (h i hi).1,(cell_of e).trans (h i hi).2.1,(cell_of e).trans (h i hi).2.2⟩
theorem K7(hF:bE ar L0 o w)(v0:Value)(b c:Nat)(p:Option Addr)(rs:List (ah×V))(ME:v0=.slice p rs.length c)(hn:rs.length<=1000)(hp:p=none->rs=[])(hq:rs≠[]->p=some ⟨b,0,none⟩/\o b)(ht:zi w b rs)(hc:Cl ar L0 o v0):
  bp ar (XB ar Fin 0) 50 #[v0] o w fun v o' w'=>fw o w v o' w'/\YA w.heap.size rs v w':=by
 refine bp.mono (dS af hF (fun x hx=>by simp at hx;subst hx;exact hc) (Q:=fun wl v w'=>w'.ownsRow wl.heap.size 65 3 v rs.length (fP rs)) (fun wl Ai v w1 w2 e1 e2 h=>?_) (fun wl hz aE=>?_)) (fun v o' w' hq=>?_)
 ·rw[e1];exact cQ h fun g _ _=>by rw[e2]
 ·subst ME;refine(Fy b c rs.length p (fP rs) wl (xm rs) hn (fun e=>by rw[hp e];rfl) (fun cV=>(hq (fun e=>cV (by rw[e];rfl))).1) ?_ (Fz rs)).mono fun e w' hq=>?_
  ·by_cases cV:rs=[]
   ·subst cV;intro j u hu;simp[fP] at hu
   ·exact Iz (zo ht (aE b (hq cV).2))
  ·obtain⟨v,rfl,h1,h2,h3⟩:=hq;exact⟨_,rfl,h3,fun b hb=>h2.block b hb,h1⟩
 ·obtain⟨hN,wl,aI,z1,z2,hs,h3⟩:=hq;rw[z1] at h3;refine⟨hN,?_⟩;obtain⟨h4,h5⟩:=h3;rcases h5 with⟨e1,e2⟩|⟨g,cap,cur,rfl,q1,q2,q3,q4,q5,q6⟩
  ·refine .inl ⟨e1,?_⟩;cases rs with
   |nil=>rfl
   |cons r rs=>simp at e2
  ·have hg:g<aI.heap.size:=aO fun q=>by
    rw[cb (cL q)] at q2;cases q2
   refine .inr ⟨g,cap,rfl,q1,aa,fun i hi=>?_⟩;have hb:=hs g q1 aa;have own:aI.ownsRow w.heap.size 65 3 (.slice (some ⟨g,0,none⟩) rs.length cap) rs.length (fP rs):=⟨h4,.inr ⟨g,cap,cur,rfl,q1,q2,q3,q4,q5,q6⟩⟩;have hc:∀j u,(fP rs)[j]?=some u->aI.cell? ⟨g,j,none⟩=some u:=fun j u hu=>by
    have:=own.cells (g:=g) rfl j u hu;have ha:(⟨g,0,none⟩:Addr).add j=⟨g,j,none⟩:=by simp[Addr.add];omega
    rw[ha] at this;exact this
   obtain⟨c0,c1,c2⟩:=rH rs i hi;refine⟨(cell_of hb).trans ?_,(cell_of hb).trans ?_,(cell_of hb).trans ?_⟩
   ·exact hc _ _ c0
   ·exact hc _ _ c1
   ·exact hc _ _ c2
structure UP(s:kT)(v:Value)(o':aM)(w':ae):Prop where
 ex:∃rv tv,v=.agg #[.int .i64 s.num,rv,tv]/\(∃p b c,rv=.slice p s.res.length c/\(s.res≠[]->p=some ⟨b,0,none⟩/\o' b)/\zi w' b s.res)/\Cl ar L0 o' rv/\Mh o' w' tv s.ku
theorem YB(h:bg o w K s lk lab):
  bp ar (XB ar Fin 0) 24 #[.pointer (some ⟨K.kb,0,none⟩)] o w fun v o' w'=>UP s v o' w'/\∃lab',bg o' w' K s lk lab'/\cK o w lab o' w' lab':=by
 have W:=bJ (P:=ar) (Fin:=Fin) (d:=0);refine dJ W func24 ai ?_;walk_nrmf Tryz.f24;refine aA ?_;refine cq aX h.ay rfl ai ai kp rfl (R:=fun wl v aI=>v=.pointer (some ⟨wl.heap.size,0,none⟩)/\aI=wl.alloc (Obj.cells #[.int .i64 0,.slice none 0 0,.slice none 0 0] 59)) (fun wl aE=>⟨_,_,by first|(simp[go_sem];done)|(simp[go_sem];rfl),rfl,rfl⟩) fun wl v1 aI w1 aE hR ba=>?_;obtain⟨rfl,hR⟩:=hR;obtain⟨z1,k1,qK⟩:=ba.alloc h.ay aE hR;obtain⟨W1,pH⟩:=bu.mn ba.ay z1 k1;rw[aE.size];clear hR ba aE wl aI;obtain⟨eN,h1,S1,uW,O0⟩:=h.grown (cK.refl h.ay) W1;have uX:=O0 w.heap.size (ag _);generalize grow o w w1=o1 at *;have hAl:w.heap.size<w1.heap.size:=aa;generalize hAe:w.heap.size=A at *;refine aA ?_;refine aF W rfl ai rfl func49 af rfl aC rfl ((Eb K.kb 12 s.pb _ _ _ (by rw[h1.row.cell aa];rfl) h1.set.blk).mono ?_);rintro v0 o2 w2 ⟨rfl,rfl,rfl⟩;refine aA ?_;obtain⟨p0,p1,p2,-,-,-⟩:=eE h1.set.blk;refine aP aX h1.ay rfl ai ai ?_ rfl (v:=.agg #[.int .i64 s.num,s.kW,s.mz]) (fun wl aE=>by
  have e:=aE.heap _ h1.set.own;simp[go_sem,(cell_of e).trans p0,(cell_of e).trans p1,(cell_of e).trans p2]) fun _=>?_
 ·exact cj (aH h1.set.own)
 refine aA ?_;refine cq aX h1.ay rfl ai ai kp rfl (R:=fun wl v aI=>v=.pointer (some ⟨wl.heap.size,0,none⟩)/\aI=wl.alloc (Obj.cells #[.int .i64 0,.slice none 0 0,.slice none 0 0] 59)) (fun wl aE=>⟨_,_,by first|(simp[go_sem];done)|(simp[go_sem];rfl),rfl,rfl⟩) fun wl v1 aI w3 aE hR ba=>?_;obtain⟨rfl,hR⟩:=hR;obtain⟨z3,k3,vz⟩:=ba.alloc h1.ay aE hR;obtain⟨W3,NU⟩:=bu.mn ba.ay z3 k3;rw[aE.size];clear hR ba aE wl aI;obtain⟨oI,h3,S3,Cy,SY⟩:=h1.grown S1 W3;have rZ:=W3.more _ pH;have kA3:=(k3 A hAl).trans qK;have ago:=(Cy A hAl).trans uX;have ab6:=SY _ (ag _);generalize grow o2 w2 w3=o3 at *;have hBl:w2.heap.size<w3.heap.size:=aa;have hAB:A<w2.heap.size:=hAl;clear z1;generalize w2.heap.size=B at *;obtain⟨rp,rb,rc,r1,r2,r3,r4⟩:=h3.set.res;obtain⟨tp,tb,tc,t1,t2,t3,t4⟩:=h3.set.ku.row;have PC:=h3.set.cl;have agp:=h3.set.ku.cl;have ab7:=h3.set.gT;have ab8:=h3.set.ku.gT;walk_nrm;refine bD aX h3.ay rfl ai ai ?_ rfl (R:=fun wl aI=>aI=((wl.setCell ⟨B,0,none⟩ (.int .i64 s.num)).setCell ⟨B,1,none⟩ s.kW).setCell ⟨B,2,none⟩ s.mz) (fun wl aE=>⟨_,?_,rfl⟩) fun wl aI w4 aE hR ba=>?_
 ·refine dU ?_ ?_
  ·exact aH NU
  ·exact cJ (vs:=[_,_,_]) (fun x hx=>by
    simp at hx;rcases hx with rfl|rfl|rfl
    ·exact bN
    ·exact PC
    ·exact agp)
 ·obtain⟨e0,e1,e2,f0,f1,f2⟩:=eE ((aE.heap _ NU).trans vz);rw[r1,t1];simp[go_sem,e0,e1,e2,f0,f1,f2]
 have hO:cN B wl aI:=by rw[hR];exact uR _ _ _ _ _ _ _ _
 obtain⟨FV,nL,e4⟩:=ba.only aE NU hO;have D9:=ba.ay;rw[e4] at D9 |-;rw[hR,KL ((aE.heap _ NU).trans vz)] at nL;obtain⟨h4,S4⟩:=h3.wrote S3 ab6 aa D9 FV;have kA4:=(FV.2 A aa).trans kA3;clear hR ba aE hO wl aI e4;refine aA ?_;refine aP aX h4.ay rfl ai ai ?_ rfl (v:=s.kW) (fun wl aE=>by
  have e:=(aE.cell NU).trans (eE nL).2.1;rw[r1] at e |-;simp[go_sem,e]) fun _=>?_
 ·exact cj (aH NU)
 refine aA ?_;obtain⟨rp,rb,rc,r1,r2,r3,r4⟩:=h4.set.res;refine aF W rfl ai rfl func50 af rfl aC rfl ((K7 h4.ay s.kW rb rc rp s.res r1 ab7 r2 r3 r4 h4.set.cl).mono ?_);rintro v5 o5 w5 ⟨N5,q5⟩;obtain⟨nJ,h5,S5,O7,hn5⟩:=h4.grown S4 (bu.dL N5);have qi:=bu.more (bu.dL (ex:=fun _=>False) N5) _ rZ;have YC:=bu.more (bu.dL (ex:=fun _=>False) N5) _ NU;have z4:=FV.1;have kA5:=(N5.old A aa).trans kA4;have kB5:=(N5.old B aa).trans nL;have r9:=(O7 A aa).trans ago;have ab9:=(O7 B aa).trans ab6;have z5:=N5.size;have cl5:=N5.cl;obtain⟨ZA,ZB,ZC,rfl⟩:∃p l c,v5=.slice p l c:=by
  rcases q5 with⟨rfl,-⟩|⟨g,cap,rfl,-⟩
  ·exact⟨_,_,_,rfl⟩
  ·exact⟨_,_,_,rfl⟩
 refine aA ?_;refine bD aX h5.ay rfl ai ai ?_ rfl (R:=fun wl aI=>aI=wl.setCell ⟨B,1,none⟩ (.slice ZA ZB ZC)) (fun wl aE=>⟨_,?_,rfl⟩) fun wl aI w6 aE hR ba=>?_
 ·refine dU ?_ ?_
  ·exact aH YC
  ·exact cl5
 ·obtain⟨e0,e1,e2,f0,f1,f2⟩:=eE ((aE.heap _ YC).trans kB5);simp[go_sem,e1,f1]
 have hO:cN B wl aI:=by rw[hR];exact fW _ _ _ _
 obtain⟨RG,Us,e6⟩:=ba.only aE YC hO;have C3:=ba.ay;rw[e6] at C3 |-;have kB6:w6.heap[B]?=some (.cells #[.int .i64 s.num,.slice ZA ZB ZC,s.mz] 59):=by
  rw[Us,hR];have e:=(aE.heap _ YC).trans kB5;simp[World.setCell,Array.getElem?_modify,e]
 obtain⟨h6,S6⟩:=h5.wrote S5 ab9 aa C3 RG;have kA6:=(RG.2 A aa).trans kA5;have z6:=RG.1;clear hR ba aE hO wl aI e6 Us;refine aA ?_;refine aP aX h6.ay rfl ai ai ?_ rfl (v:=s.mz) (fun wl aE=>by
  have e:=(aE.cell YC).trans (eE kB6).2.2.1;rw[t1] at e |-;simp[go_sem,e]) fun _=>?_
 ·exact cj (aH YC)
 refine aA ?_;obtain⟨tp,tb,tc,t1,t2,t3,t4⟩:=h6.set.ku.row;refine aF W rfl ai rfl func51 af rfl aC rfl ((xe h6.ay s.mz tb tc tp s.ku t1 aa t2 t3 t4 h6.set.ku.cl).mono ?_);rintro v7 o7 w7 ⟨N7,q7⟩;obtain⟨B7,h7,S7,od,UQ⟩:=h6.grown S6 (bu.dL N7);have W7:=bu.dL (ex:=fun _=>False) N7;have Jf:=W7.more _ qi;have ZD:=W7.more _ YC;have kA7:=(N7.old A aa).trans kA6;have kB7:=(N7.old B aa).trans kB6;have K8:=(od A aa).trans r9;have ags:=(od B aa).trans ab9;have z7:=N7.size;have cl7:=N7.cl;have aca:=cl5.up W7.more;have agt:Mh o7 w7 v7 s.ku:=q7.Jm cl7 (fun g l c e=>fO N7.ay cl7 g (by rw[e];rfl)) ab8;have agu:∀g,v7.ownBlock=some g->w6.heap.size<=g:=fun g hg=>by
  rcases q7 with⟨e,-⟩|⟨g',cap,e,-,e2,-⟩
  ·rw[e] at hg;cases hg
  ·rw[e] at hg;have:=aK hg;simp at this;omega
 obtain⟨tp7,tb7,tc7,rfl⟩:∃p l c,v7=.slice p l c:=by
  rcases q7 with⟨rfl,-⟩|⟨g,cap,rfl,-⟩
  ·exact⟨_,_,_,rfl⟩
  ·exact⟨_,_,_,rfl⟩
 refine aA ?_;refine bD aX h7.ay rfl ai ai ?_ rfl (R:=fun wl aI=>aI=wl.setCell ⟨B,2,none⟩ (.slice tp7 tb7 tc7)) (fun wl aE=>⟨_,?_,rfl⟩) fun wl aI w8 aE hR ba=>?_
 ·refine dU ?_ ?_
  ·exact aH ZD
  ·exact cl7
 ·obtain⟨e0,e1,e2,f0,f1,f2⟩:=eE ((aE.heap _ ZD).trans kB7);rw[t1] at e2;simp[go_sem,e2,f2]
 have hO:cN B wl aI:=by rw[hR];exact fW _ _ _ _
 obtain⟨Aj,Zt,e8⟩:=ba.only aE ZD hO;have C8:=ba.ay;rw[e8] at C8 |-;have kB8:w8.heap[B]?=some (.cells #[.int .i64 s.num,.slice ZA ZB ZC,.slice tp7 tb7 tc7] 59):=by
  rw[Zt,hR];have e:=(aE.heap _ ZD).trans kB7;simp[World.setCell,Array.getElem?_modify,e]
 obtain⟨h8,S8⟩:=h7.wrote S7 ags aa C8 Aj;have UR:=(Aj.2 A aa).trans kA7;have z8:=Aj.1;clear hR ba aE hO wl aI e8 Zt;refine aA ?_;refine aP aX h8.ay rfl ai ai ?_ rfl (v:=.agg #[.int .i64 s.num,.slice ZA ZB ZC,.slice tp7 tb7 tc7]) (fun wl aE=>by
  obtain⟨e0,e1,e2,-⟩:=eE ((aE.heap _ ZD).trans kB8);simp[go_sem,e0,e1,e2]) fun _=>?_
 ·exact cj (aH ZD)
 walk_nrm;refine bD aX h8.ay rfl ai ai ?_ rfl (R:=fun wl aI=>aI=((wl.setCell ⟨A,0,none⟩ (.int .i64 s.num)).setCell ⟨A,1,none⟩ (.slice ZA ZB ZC)).setCell ⟨A,2,none⟩ (.slice tp7 tb7 tc7)) (fun wl aE=>⟨_,?_,rfl⟩) fun wl aI w9 aE hR ba=>?_
 ·refine dU ?_ ?_
  ·exact aH Jf
  ·exact cJ (vs:=[_,_,_]) (fun x hx=>by
    simp at hx;rcases hx with rfl|rfl|rfl
    ·exact bN
    ·exact aca
    ·exact cl7)
 ·obtain⟨e0,e1,e2,f0,f1,f2⟩:=eE ((aE.heap _ Jf).trans UR);simp[go_sem,e0,e1,e2,f0,f1,f2]
 have hO:cN A wl aI:=by rw[hR];exact uR _ _ _ _ _ _ _ _
 obtain⟨kK,kr,e9⟩:=ba.only aE Jf hO;have gw:=ba.ay;rw[e9] at gw |-;rw[hR,KL ((aE.heap _ Jf).trans UR)] at kr;obtain⟨h9,S9⟩:=h8.wrote S8 K8 aa gw kK;clear hR ba aE hO wl aI e9;refine aA ?_;refine⟨.inr trivial,trivial,.agg #[.int .i64 s.num,.slice ZA ZB ZC,.slice tp7 tb7 tc7],p7 (fun n=>?_) (fun n e he=>?_),⟨⟨_,_,rfl,?_,aca,agt.keep (fun _ q=>q) fun g hg=>?_⟩⟩,B7,h9,S9⟩
 ·obtain⟨c0,c1,c2,-⟩:=eE (w:=w9.at n) kr;simp[results,results24,go_sem,c0,c1,c2]
 ·obtain⟨c0,c1,c2,-⟩:=eE (w:=w9.at n) kr;simp[results,results24,go_sem,c0,c1,c2] at he;rcases he with rfl|rfl|rfl;all_goals exact⟨_,_,_,rfl,Jf⟩
 ·rcases q5 with⟨e,e2⟩|⟨g,cap,e,g1,g2,g3⟩
  ·exact⟨none,0,0,by rw[e2];exact e,fun q=>absurd e2 q,fun i hi=>by rw[e2] at hi;simp at hi⟩
  ·refine⟨_,g,cap,e,fun _=>⟨rfl,W7.more _ (fO N5.ay cl5 g (by rw[e];rfl))⟩,zo g3 ?_⟩;rw[kK.2 g aa,Aj.2 g aa,N7.old g aa,RG.2 g aa]
 ·have:=agu g hg;rw[kK.2 g aa,Aj.2 g aa]
end
section
open Go.RowKit
theorem tV{x y:ah}(h:¬x=y):(x.toList==y.toList)=false:=by
 rw[beq_eq_false_iff_ne];intro e;rw[ByteArray.toList_eq,ByteArray.toList_eq] at e;exact h (ByteArray.ext (Array.toList_inj.1 e))
def cW(c:Int)(n:Nat):Nat:=(if c<0 then -(c+1) else c).toNat%n
theorem lv(c:Int){n:Nat}(h:0<n):cW c n<n:=jh _ h
theorem IA(c:Int)(n:Nat)(w:ae)(h1:-9223372036854775808<=c)(h2:c<=9223372036854775807)(hn:0<n)(O1:n<=1000):
  Calls ar 19 #[.int .i64 c,.int .i64 n] w fun e w'=>e=.returned (.int .i64 (cW c n:Nat))/\w'=w:=by
 have JG:¬(n:Int)=0:=aa;go_enter func19,ntmps19;by_cases hc:c<0
 ·have e1:IntKind.i64.wrap (c+1)=c+1:=by rw[IntKind.wrap_i64]<;>omega
  have e2:IntKind.i64.wrap (-(c+1))=-(c+1):=by rw[IntKind.wrap_i64]<;>omega
  have e3:-((c+1).tmod n)=((cW c n:Nat):Int):=by
   rw[<- Int.neg_tmod,Int.tmod_eq_emod_of_nonneg aa];unfold cW;rw[if_pos hc,Int.natCast_emod,fY aa]
  go_wp2;go_ret;exact⟨rfl,rfl⟩
 ·have e3:c%n=((cW c n:Nat):Int):=by
   unfold cW;rw[if_neg hc,Int.natCast_emod,fY aa]
  go_wp2;go_ret;exact⟨rfl,rfl⟩
def je:List ah:=[⟨#[97]⟩,⟨#[98]⟩,⟨#[99]⟩,⟨#[100]⟩,⟨#[101]⟩,⟨#[102]⟩]
theorem OA(w:ae):Calls ar 18 #[] w fun e w'=>e=.returned (.slice (some ⟨w.heap.size,0,none⟩) 6 6)/\w'=w.alloc (.cells (je.map Value.string).toArray 9):=by
 go_enter func18,ntmps18;go_wp2;go_ret;exact⟨rfl,rfl⟩
def gu(i:Nat):ah:=(⟨#[111]⟩:ah)++⟨#[97+UInt8.ofNat i]⟩
theorem nK(w:ae)(cs:Array Value)(t:TypeId)(j:Nat):(w.alloc (.cells cs t)).cell? ⟨w.heap.size,j,none⟩=cs[j]?:=by
 simp only[World.cell?];rw[show(w.alloc (.cells cs t)).heap[w.heap.size]?=some (.cells cs t) from by show(w.heap.push _)[w.heap.size]?=_;simp];rfl
theorem US(i:Nat)(hi:i<8)(w:ae):Calls ar 15 #[.int .i64 i] w fun e w'=>e=.returned (.string (gu i))/\Below w.heap.size w w'/\w.heap.size<=w'.heap.size:=by
 have e1:IntKind.i64.wrap (97+(i:Int))=97+(i:Int):=by rw[IntKind.wrap_i64]<;>omega
 have e2:IntKind.u8.wrap (97+(i:Int))=97+(i:Int):=by simp[IntKind.wrap,IntKind.signed,IntKind.bits];omega
 have hu:(UInt8.ofNat (97+i)).toNat=97+i:=by rw[UInt8.toNat_ofNat'];omega
 have hcv:(convert 90 9 (.slice (some ⟨w.heap.size,0,none⟩) 1 1)).run ar (w.alloc (.cells #[.int .u8 (97+(i:Int))] 5))=.ok (.string ⟨#[UInt8.ofNat (97+i)]⟩) (w.alloc (.cells #[.int .u8 (97+(i:Int))] 5)):=by
  refine run_convert_bytes_back (P:=ar) (w.alloc (.cells #[.int .u8 (97+(i:Int))] 5)) 90 9 5 ⟨w.heap.size,0,none⟩ 1 [UInt8.ofNat (97+i)] underlying90 underlying5 underlying9 (fun j hj=>?_);have TZ:j=0:=Nat.lt_one_iff.1 hj;subst TZ;refine(nK w _ _ 0).trans ?_;show some (Value.int .u8 (97+(i:Int)))=some (Value.int .u8 ((UInt8.ofNat (97+i)).toNat:Int));rw[hu];rfl
 have hz:=(Below.refl w.heap.size w).alloc (ag _) (.cells #[.int .u8 (97+(i:Int))] 5);go_enter func15,ntmps15;go_wp2;go_ret;exact⟨rfl,hz,an⟩
def qH(c:Int):ah:=(⟨#[116,104,114,101,101,32,119,111,114,100,115,32,33]⟩:ah).extract 0 (cW c 13)
theorem B8(c:Int):(qH c).size<=12:=by
 have:=lv c (n:=13) aa;unfold qH;rw[ByteArray.size_extract];omega
theorem OB(c:Int)(w:ae)(h1:-9223372036854775808<=c)(h2:c<=9223372036854775807):
  Calls ar 20 #[.int .i64 c] w fun e w'=>e=.returned (.string (qH c))/\w'=w:=by
 have hp:=IA c 13 w h1 h2 aa aa;have bZ:=lv c (n:=13) aa;have X6:qH c=(⟨#[116,104,114,101,101,32,119,111,114,100,115,32,33]⟩:ah).extract 0 (cW c 13):=rfl;rw[X6];generalize cW c 13=n at *;go_enter func20,ntmps20;go_wp2_with (go_at_call 19;refine hp.mono ?_;rintro e w' ⟨rfl,rfl⟩);go_ret;exact⟨rfl,rfl⟩
def Jn:List ah->ah->Bool
 | [],_=>false
 |y::l,x=>if y=x then true else Jn l x
theorem oJ(x:ah):∀l:List ah,Jn l x=true↔x∈l
 | []=>by simp[Jn]
 |y::l=>by
  unfold Jn;by_cases h:y=x
  ·simp[h]
  ·rw[if_neg h,oJ x l,gQ];exact⟨.inr,fun q=>q.elim (fun e=>absurd e.symm h) id⟩
theorem OC(b off c:Nat)(p:Option Addr)(ts:List ah)(x:ah)(w:ae)(hn:ts.length<9000000000000000000)(hp:ts≠[]->p=some ⟨b,off,none⟩)(ht:dP w b off ts):
  Calls ar 27 #[.slice p ts.length c,.string x] w fun e w'=>e=.returned (.bool (Jn ts x))/\w'=w:=by
 go_enter func27,ntmps27;go_wp2;go_loop [5] (fun i=>∃k:Nat,k<=ts.length/\i=.int .i64 k/\x∉ts.take k) (fun i=>ts.length-(intOf i).toNat)
 case atStart=>exact⟨0,aQ _,rfl,an⟩
 case round =>
  obtain⟨k,hk,rfl,hs⟩:=hrel;by_cases bZ:k<ts.length
  ·have e:=hp (fun e=>by rw[e] at bZ;simp at bZ);subst e;have h1:=ht k bZ;have hm:ts[k]∈ts:=aD bZ;have qJ:ts.take (k+1)=ts.take k++[ts[k]]:=take_succ ts k bZ;generalize ts[k]=y at *;by_cases hx:y=x
   ·have pd:=(oJ x ts).2 (hx▸hm);clear qJ hm hs;subst hx;go_wp2;go_ret;exact⟨rfl,rfl⟩
   ·have Zv:=tV hx;go_wp2
    go_round
    case rel=>exact⟨k+1,aa,by go_num,by rw[qJ];simp[hs];exact fun e=>hx e.symm⟩
    case measure=>simp[intOf];omega
  ·rw[cE aa] at hs;have pd:Jn ts x=false:=by
    cases h:Jn ts x
    ·rfl
    ·exact absurd ((oJ x ts).1 h) hs
   go_wp2;go_ret;exact⟨rfl,rfl⟩
theorem B9{j:Nat}(h:j<8):j=0\/j=1\/j=2\/j=3\/j=4\/j=5\/j=6\/j=7:=aa
theorem tW(i:Nat)(h:i<8):(gu i).data=#[111,97+UInt8.ofNat i]:=by
 rcases B9 h with rfl|rfl|rfl|rfl|rfl|rfl|rfl|rfl<;>decide
theorem IB{i j:Nat}(hi:i<8)(hj:j<8)(h:gu i=gu j):i=j:=by
 have h:=congrArg ByteArray.data h;rw[tW i hi,tW j hj] at h;revert h;rcases B9 hi with rfl|rfl|rfl|rfl|rfl|rfl|rfl|rfl<;>rcases B9 hj with rfl|rfl|rfl|rfl|rfl|rfl|rfl|rfl<;>decide
theorem Ej(i:Nat)(h:i<8):gu i∉je:=fun q=>by
 have hs:(gu i).data.size=2:=by rw[tW i h];rfl
 simp only[je,List.mem_cons,List.not_mem_nil,or_false] at q;rcases q with q|q|q|q|q|q<;>(rw[q] at hs;cases hs)
end
section
open Go.RowKit
open Go.Ren (fW cN)
structure IxR(rs:List aL)(x:ah)(r:Int):Prop where
 ex:(r=-1/\∀q∈rs,q.out≠x)\/∃i,∃h:i<rs.length,r=(i:Nat)/\rs[i].out=x
def Ca:List aL->ah->Nat->Int
 | [],_,_=>-1
 |r::l,x,k=>if r.out=x then(k:Nat) else Ca l x (k+1)
theorem Ek(x:ah):∀(l:List aL) (k:Nat),(Ca l x k=-1/\∀q∈l,q.out≠x)\/∃i,∃h:i<l.length,Ca l x k=((k+i:Nat):Int)/\l[i].out=x
 | [],k=>.inl ⟨rfl,an⟩
 |r::l,k=>by
  unfold Ca;by_cases h:r.out=x
  ·rw[if_pos h];exact .inr ⟨0,an,an,by simpa using h⟩
  ·rw[if_neg h];rcases Ek x l (k+1) with⟨h1,h2⟩|⟨i,hi,h1,h2⟩
   ·refine .inl ⟨h1,fun q hq=>?_⟩;rcases List.mem_cons.1 hq with rfl|hq
    ·exact h
    ·exact h2 q hq
   ·exact .inr ⟨i+1,eR,by rw[h1];congr 1;omega,by simpa using h2⟩
theorem IC(rs:List aL)(x:ah):IxR rs x (Ca rs x 0):=by
 rcases Ek x rs 0 with h|⟨i,hi,h1,h2⟩
 ·exact⟨.inl h⟩
 ·exact⟨.inr ⟨i,hi,by simpa using h1,h2⟩⟩
theorem Cb(b c:Nat)(p:Option Addr)(rs:List aL)(x:ah)(w:ae)(hn:rs.length<=100000)(hp:rs≠[]->p=some ⟨b,0,none⟩)(hv:dX w b rs):
  Calls ar 107 #[.slice p rs.length c,.string x] w fun e w'=>e=.returned (.int .i64 (Ca rs x 0))/\w'=w:=by
 go_enter func107,ntmps107;go_wp2;go_loop [8] (fun i=>∃k:Nat,k<=rs.length/\i=.int .i64 k/\Ca rs x 0=Ca (rs.drop k) x k) (fun i=>rs.length-(intOf i).toNat)
 case atStart=>exact⟨0,aQ _,rfl,rfl⟩
 case round =>
  obtain⟨k,hk,rfl,hs⟩:=hrel;by_cases bZ:k<rs.length
  ·have e:=hp (fun e=>by rw[e] at bZ;simp at bZ);subst e;obtain⟨h1,-,-⟩:=hv k bZ;rw[List.drop_eq_getElem_cons bZ,Ca] at hs;generalize rs[k].out=y at *;by_cases hx:y=x
   ·rw[if_pos hx] at hs;subst hx;go_wp2;go_ret;exact⟨rfl,rfl⟩
   ·rw[if_neg hx] at hs;have Zv:=tV hx;go_wp2
    go_round
    case rel=>exact⟨k+1,aa,by go_num,hs⟩
    case measure=>simp[intOf];omega
  ·rw[List.drop_of_length_le aa,Ca] at hs;go_wp2;go_ret;exact⟨rfl,rfl⟩
theorem ID(x:ah)(h:isName x)(w:ae):Calls ar 68 #[.string x] w fun e w'=>e=.returned (.bool true)/\w'=w:=by
 refine(It x w (by have:=h.2.1;omega)).mono fun e w' hq=>?_;obtain⟨⟨b,rfl,hb⟩,rfl⟩:=hq;rw[hb.2 h];exact⟨rfl,rfl⟩
theorem FA(b c:Nat)(p:Option Addr)(ts:List ah)(w:ae)(hn:ts.length<=100000)(hp:ts≠[]->p=some ⟨b,0,none⟩)(ht:dP w b 0 ts)(ha:∀x∈ts,isName x):
  Calls ar 105 #[.slice p ts.length c] w fun e w'=>e=.returned (.bool true)/\w'=w:=by
 go_enter func105,ntmps105;go_wp2;go_loop [7] (fun i=>∃k:Nat,k<=ts.length/\i=.int .i64 k) (fun i=>ts.length-(intOf i).toNat)
 case atStart=>exact⟨0,aQ _,rfl⟩
 case round =>
  obtain⟨k,hk,rfl⟩:=hrel;by_cases bZ:k<ts.length
  ·have e:=hp (fun e=>by rw[e] at bZ;simp at bZ);subst e;have h1:=ht k bZ;rw[bh] at h1;have xV:=ID ts[k] (ha _ (aD bZ)) w;go_wp2_with (go_at_call 68;refine xV.mono ?_;rintro e w' ⟨rfl,rfl⟩)
   go_round
   case rel=>exact⟨k+1,aa,by go_num⟩
   case measure=>simp[intOf];omega
  ·go_wp2;go_ret;exact⟨rfl,rfl⟩
theorem OD(n:Int)(w:ae)(h1:1<=n)(h5:n<=5):Calls ar 106 #[.int .i64 n] w fun e w'=>e=.returned (.bool true)/\w'=w:=by
 go_enter func106,ntmps106;go_wp2;go_ret;exact⟨rfl,rfl⟩
structure oK(w:ae)(p:Option Addr)(b:Nat)(rs:List aL)(NM:aL->List ah)(NB:aL->Nat):Prop where
 gT:rs.length<=8
 ptr:rs≠[]->p=some ⟨b,0,none⟩/\b<w.heap.size
 at_:dX w b rs
 nm:∀r∈rs,r.sl=(NM r).length/\(NM r≠[]->r.sa=some ⟨NB r,0,none⟩/\NB r<w.heap.size)/\dP w (NB r) 0 (NM r)/\(NM r).length<=4
theorem oK.below{w w':ae}{p:Option Addr}{b:Nat}{rs:List aL}{NM:aL->List ah}{NB:aL->Nat}(h:oK w p b rs NM NB)(hw:Below w.heap.size w w'):oK w' p b rs NM NB:=by
 refine⟨h.gT,fun q=>⟨(h.ptr q).1,bm (h.ptr q).2 hw.size⟩,fun i hi=>?_,fun r hr=>⟨(h.nm r hr).1,fun q=>⟨((h.nm r hr).2.1 q).1,bm ((h.nm r hr).2.1 q).2 hw.size⟩,fun k hk=>?_,(h.nm r hr).2.2.2⟩⟩
 ·exact h.at_.below (h.ptr (fun q=>by rw[q] at hi;simp at hi)).2 hw i hi
 ·exact(h.nm r hr).2.2.1.below ((h.nm r hr).2.1 (fun q=>by rw[q] at hk;simp at hk)).2 hw k hk
structure Cc(rs:List aL)(NM:aL->List ah)(RK:ah->Nat):Prop where
 outs:∀r∈rs,isName r.out
 ins:∀r∈rs,∀x∈NM r,isName x
 eD:∀r∈rs,1<=r.eD/\r.eD<=5
 nodup:(rs.map (·.out)).Nodup
 Ig:∀r∈rs,∀x∈NM r,x∈rs.map (·.out)->RK x<RK r.out
def Mn(rk:Nat->Nat)(g:Nat->Bool):Prop:=∀i j,i<8->j<8->g (i*8+j)=true->rk j<rk i
structure qa(rk:Nat->Nat)(cs:Array Value):Prop where
 size:cs.size=64
 ex:∃g:Nat->Bool,(∀k,k<64->cs[k]?=some (.bool (g k)))/\Mn rk g
theorem qa.one{rk:Nat->Nat}{cs:Array Value}(h:qa rk cs):cs.all (·.oneCell')=true:=by
 obtain⟨g,hg,-⟩:=h.ex;rw[Array.all_eq_true_iff_forall_mem];intro v hv;obtain⟨k,hk,rfl⟩:=Array.getElem_of_mem hv;have:=hg k (by rw[<- h.size];exact hk);rw[aG hk] at this;rw[aK this];rfl
theorem vB:(ar.info? 201).map (·.size)=some 64:=af
structure lA(w:ae)(b:Nat)(rk:Nat->Nat):Prop where
 ex:∃g:Nat->Bool,w.rowIs b 201 64 (fun j=>.bool (g j))/\Mn rk g
theorem lA.blk{w:ae}{b:Nat}{rk:Nat->Nat}(h:lA w b rk):∃cs,w.heap[b]?=some (.cells cs 201 (0,0))/\qa rk cs:=by
 obtain⟨g,⟨cs,h1,h2,h3⟩,hg⟩:=h.ex;exact⟨cs,h1,h2,g,fun k hk=>h3 k hk,hg⟩
theorem qa.at{w:ae}{b:Nat}{rk:Nat->Nat}{cs:Array Value}(h:qa rk cs)(hb:w.heap[b]?=some (.cells cs 201 (0,0))):lA w b rk:=by
 obtain⟨g,h1,hg⟩:=h.ex;exact⟨g,⟨cs,hb,h.size,fun k hk=>h1 k hk⟩,hg⟩
theorem lA.of_block{w w':ae}{b:Nat}{rk:Nat->Nat}(h:lA w b rk)(e:w'.heap[b]?=w.heap[b]?):lA w' b rk:=by
 obtain⟨g,h1,hg⟩:=h.ex;exact⟨g,h1.of_block e,hg⟩
theorem lA.set{w:ae}{b:Nat}{rk:Nat->Nat}(h:lA w b rk){i j:Nat}(hi:i<8)(hj:j<8)(hr:rk j<rk i):lA (w.setCell ⟨b,i*8+j,none⟩ (.bool true)) b rk:=by
 obtain⟨g,h1,hg⟩:=h.ex;refine⟨fun k=>if k=i*8+j then true else g k,(h1.set (i*8+j) _).congr fun k hk=>?_,fun i' j' lQ rY hq=>?_⟩
 ·by_cases e:k=i*8+j
  ·simp[e]
  ·simp[e]
 ·by_cases e:i'*8+j'=i*8+j
  ·have e1:i'=i:=aa;have e2:j'=j:=aa;rw[e1,e2];exact hr
  ·simp only[if_neg e] at hq;exact hg i' j' lQ rY hq
structure NS(w:ae)(rk:Nat->Nat)(w':ae):Prop where
 K9:Below w.heap.size w w'
 size:w'.heap.size=w.heap.size+2
 ua:lA w' w.heap.size rk
 res:∃z:Array Value,w'.heap[w.heap.size+1]?=some (.cells z 201 (0,0))/\z.size=64
theorem NS.set{w w':ae}{rk:Nat->Nat}(h:NS w rk w'){i j:Nat}(hi:i<8)(hj:j<8)(hr:rk j<rk i):NS w rk (w'.setCell ⟨w.heap.size,i*8+j,none⟩ (.bool true)):=by
 obtain⟨z,h1,h2⟩:=h.res;have on:=fW w' w.heap.size (i*8+j) (.bool true);exact⟨h.K9.setCell (ag _) _,on.1.trans h.size,h.ua.set hi hj hr,z,(on.2 _ aa).trans h1,h2⟩
theorem alloc_old(w:ae)(x:Obj)(b:Nat)(h:b<w.heap.size):(w.alloc x).heap[b]?=w.heap[b]?:=by
 show(w.heap.push x)[b]?=_;rw[cT h,aG h]
theorem rI{B g:Nat}{a w:ae}(h:Below B a w)(hg:B<=g)(cs:Array Value):Below B a (w.setRow g cs) :=
 ⟨h.os,h.tape,h.output,by rw[setRow_size];exact h.size,fun b hb=>(setRow_other w g b cs aa).trans (h.block b hb)⟩
end
section
open Go.RowKit
open Go.Ren (fW cN)
theorem IE(rk:Nat->Nat)(cs:Array Value)(Ps:qa rk cs)(w:ae):
  Calls ar 108 #[.agg cs] w fun e w'=>∃Ct,e=.returned (.agg Ct)/\qa rk Ct/\Below w.heap.size w w'/\w.heap.size<=w'.heap.size:=by
 have ft:=Ps.size;go_enter func108,ntmps108;go_wp2;go_loopw [6] (fun i w'=>∃m:Nat,m<=8/\i=.int .i64 m/\NS w rk w') (fun i _=>8-(intOf i).toNat)
 case atStart =>
  refine⟨0,aa,rfl,((Below.refl _ _).alloc (ag _) _).alloc an _,an,Ps.at (heap_alloc2_old w _ _),Array.replicate 64 (.bool false),heap_alloc2_new w _ _,an⟩
 case round =>
  obtain⟨m,hm,rfl,hS⟩:=hrel;by_cases bZ:m<8
  ·have hmI:(m:Int)<8:=aa;go_wp2;go_loopw [9] (fun i w'=>∃f:Nat,f<=8/\i=.int .i64 f/\NS w rk w') (fun i _=>8-(intOf i).toNat)
   case atStart=>exact⟨0,aa,rfl,hS⟩
   case round =>
    clear hS;obtain⟨f,hf,rfl,hS⟩:=hrel;by_cases Jc:f<8
    ·have hfI:(f:Int)<8:=aa;go_wp2;go_loopw [12] (fun i w'=>∃t:Nat,t<=8/\i=.int .i64 t/\NS w rk w') (fun i _=>8-(intOf i).toNat)
     case atStart=>exact⟨0,aa,rfl,hS⟩
     case round =>
      clear hS;obtain⟨t,ht,rfl,hS⟩:=hrel;by_cases xD:t<8
      ·have htI:(t:Int)<8:=aa;obtain⟨g,b6,ja⟩:=hS.ua.ex;have c1:=b6.cell (show f*8+m<64 by omega);have c2:=b6.cell (show m*8+t<64 by omega);have c3:=b6.cell (show f*8+t<64 by omega);have f3:=b6.frozen (f*8+t);cases h1:g (f*8+m)
       ·rw[h1] at c1;go_wp2;exact⟨⟨t+1,aa,by go_num,hS⟩,by simp[intOf];omega⟩
       ·rw[h1] at c1;cases h2:g (m*8+t)
        ·rw[h2] at c2;go_wp2;exact⟨⟨t+1,aa,by go_num,hS⟩,by simp[intOf];omega⟩
        ·rw[h2] at c2;have hr:rk t<rk f:=jN (ja m t bZ xD h2) (ja f m Jc bZ h1);go_wp2;exact⟨⟨t+1,aa,by go_num,hS.set Jc xD hr⟩,by simp[intOf];omega⟩
      ·go_wp2;exact⟨⟨f+1,aa,by go_num,hS⟩,by simp[intOf];omega⟩
    ·go_wp2;exact⟨⟨m+1,aa,by go_num,hS⟩,by simp[intOf];omega⟩
  ·obtain⟨Ct,mo,UT⟩:=hS.ua.blk;obtain⟨z,hz,WZ⟩:=hS.res;have hi:(ar.info? 201).map (·.size)=some Ct.size:=by rw[UT.size];exact vB
   go_wp2_with (first
    | (refine wpList_load_row rfl 201 _ rfl w.heap.size rfl 201 Ct (0,0) _ mo underlying201 rfl hi ?_)
    | (refine wpList_plain rfl fun _ hK=>wp_store_row 201 _ _ rfl (w.heap.size+1) Ct rfl rfl 201 z hz hi (WZ.trans UT.size.symm) UT.one (hK _ _ ?_)))
   refine bodyPost_ret (results_cell_row ai _ _ (w.heap.size+1) 201 Ct (0,0) _ rfl (setRow_heap _ _ _ _ _ _ hz) underlying201 rfl hi) rfl ⟨Ct,rfl,UT,?_,?_⟩
   ·exact rI hS.K9 aa _
   ·rw[setRow_size,hS.size];omega
structure DS(w:ae)(rk:Nat->Nat)(w':ae):Prop where
 K9:Below w.heap.size w w'
 size:w.heap.size+2<=w'.heap.size
 ua:lA w' (w.heap.size+1) rk
 res:∃z:Array Value,w'.heap[w.heap.size]?=some (.cells z 201 (0,0))/\z.size=64
theorem DS.set{w w':ae}{rk:Nat->Nat}(h:DS w rk w'){i j:Nat}(hi:i<8)(hj:j<8)(hr:rk j<rk i):DS w rk (w'.setCell ⟨w.heap.size+1,i*8+j,none⟩ (.bool true)):=by
 obtain⟨z,h1,h2⟩:=h.res;have on:=fW w' (w.heap.size+1) (i*8+j) (.bool true);exact⟨h.K9.setCell an _,by rw[on.1];exact h.size,h.ua.set hi hj hr,z,(on.2 _ aa).trans h1,h2⟩
theorem DS.alloc{w w':ae}{rk:Nat->Nat}(h:DS w rk w')(x:Obj):DS w rk (w'.alloc x):=by
 obtain⟨z,h1,h2⟩:=h.res;have:=h.size;exact⟨h.K9.alloc aa _,eR,h.ua.of_block (alloc_old _ _ _ aa),z,(alloc_old _ _ _ aa).trans h1,h2⟩
theorem La(rk:Nat->Nat)(p:Option Addr)(b c:Nat)(rs:List aL)(NM:aL->List ah)(NB:aL->Nat)(w:ae)(hR:oK w p b rs NM NB)(Un:∀i (hi:i<rs.length),∀x∈NM rs[i],∀j (hj:j<rs.length),rs[j].out=x->rk j<rk i):
  Calls ar 109 #[.slice p rs.length c] w fun e w'=>∃Ct,e=.returned (.agg Ct)/\qa rk Ct/\Below w.heap.size w w'/\w.heap.size<=w'.heap.size:=by
 have E6:=hR.gT;go_enter func109,ntmps109;go_wp2;go_loopw [11] (fun i w'=>∃m:Nat,m<=rs.length/\i=.int .i64 m/\DS w rk w') (fun i _=>rs.length-(intOf i).toNat)
 case atStart =>
  refine⟨0,aa,rfl,((Below.refl _ _).alloc (ag _) _).alloc an _,an,⟨fun _=>false,⟨Array.replicate 64 (.bool false),heap_alloc2_new w _ _,an,fun k hk=>by simp[hk]⟩,fun i j _ _ q=>by cases q⟩,Array.replicate 64 (.bool false),heap_alloc2_old w _ _,an⟩
 case round =>
  obtain⟨m,hm,rfl,hS⟩:=hrel;by_cases bZ:m<rs.length
  ·obtain⟨ep,hb⟩:=hR.ptr (fun e=>by rw[e] at bZ;simp at bZ);subst ep;have Jh:=hR.below hS.K9;obtain⟨c0,c1,c2⟩:=Jh.at_ m bZ;obtain⟨n1,n2,n3,n4⟩:=hR.nm rs[m] (aD bZ);rw[n1] at c2;have hrm:=Un m bZ;generalize amY:NM rs[m]=ts at *;generalize rs[m].sa=sa at *;generalize NB rs[m]=nb at *;generalize rs[m].sc=sc at *;have hSa:=hS.alloc (.cells #[.string rs[m].out,.int .i64 rs[m].eD,.slice sa ts.length sc] 42);go_wp2;go_loopw [19] (fun i w'=>∃t:Nat,t<=ts.length/\i=.int .i64 t/\DS w rk w') (fun i _=>ts.length-(intOf i).toNat)
   case atStart=>exact⟨0,aa,rfl,hSa⟩
   case round =>
    clear hSa hS Jh;obtain⟨t,ht,rfl,hS⟩:=hrel;by_cases xD:t<ts.length
    ·obtain⟨e1,e2⟩:=n2 (fun e=>by rw[e] at xD;simp at xD);subst e1;have h1:=n3.below e2 hS.K9 t xD;rw[bh] at h1;have Jh:=hR.below hS.K9;have D4:=Cb b c _ rs ts[t] _ aa (fun q=>rfl) Jh.at_;obtain⟨g,b6,ja⟩:=hS.ua.ex;have hx:=IC rs ts[t];generalize Ca rs ts[t] 0=r at *;rcases hx.ex with⟨rfl,-⟩|⟨j,hj,rfl,hj2⟩
     ·go_wp2_with (go_at_call 107;refine D4.mono ?_;rintro e w' ⟨rfl,rfl⟩);exact⟨⟨t+1,aa,by go_num,hS⟩,by simp[intOf];omega⟩
     ·have hj8:j<8:=aa;have hjI:(j:Int)<8:=aa;have hmI:(m:Int)<8:=aa;have c3:=b6.cell (show m*8+j<64 by omega);have f3:=b6.frozen (m*8+j);go_wp2_with (go_at_call 107;refine D4.mono ?_;rintro e w' ⟨rfl,rfl⟩);exact⟨⟨t+1,aa,by go_num,hS.set aa hj8 (hrm _ (aD xD) j hj hj2)⟩,by simp[intOf];omega⟩
    ·go_wp2;exact⟨⟨m+1,aa,by go_num,hS⟩,by simp[intOf];omega⟩
  ·obtain⟨Ct,mo,UT⟩:=hS.ua.blk;obtain⟨z,hz,WZ⟩:=hS.res;have hi:(ar.info? 201).map (·.size)=some Ct.size:=by rw[UT.size];exact vB
   go_wp2_with (first
    | (refine wpList_load_row rfl 201 _ rfl (w.heap.size+1) rfl 201 Ct (0,0) _ mo underlying201 rfl hi ?_)
    | (refine wpList_plain rfl fun _ hK=>wp_store_row 201 _ _ rfl w.heap.size Ct rfl rfl 201 z hz hi (WZ.trans UT.size.symm) UT.one (hK _ _ ?_)))
   refine bodyPost_ret (results_cell_row ai _ _ w.heap.size 201 Ct (0,0) _ rfl (setRow_heap _ _ _ _ _ _ hz) underlying201 rfl hi) rfl ⟨Ct,rfl,UT,?_,?_⟩
   ·exact rI hS.K9 (ag _) _
   ·rw[setRow_size];have:=hS.size;omega
end
end Go.Proofs.Kz
