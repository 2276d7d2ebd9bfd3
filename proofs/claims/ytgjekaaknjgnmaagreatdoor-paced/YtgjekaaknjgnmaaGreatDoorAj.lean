import Derived.Test.YtgjekaaknjgnmaaGreatDoorAi
set_option linter.all false
set_option maxHeartbeats 40000000
set_option maxRecDepth 200000
namespace Go.Proofs.Kz
open Go.Proofs.Tryz
open Go.Proofs.Tryz renaming prog → ar
open _root_.ByteArray renaming empty → aN
open Go.Ren Go.Conc Go.Proofs
theorem ab3(d:Nat)(a b:Int)(w:ae)(es:Array Event):(Op.equalIn (d+1) 3 (.int .i64 a) (.int .i64 b)).events ar w es=es:=by
 simp[Op.equalIn,go_sem,Sem.events_bind,events_underlying]
theorem abG(e:Nat)(w:ae)(es:Array Event)(a c:Int)(b d:ah):(Op.equalIn (e+2) 32 (.agg #[.int .i64 a,.string b]) (.agg #[.int .i64 c,.string d])).events ar w es=es:=by
 rw[Op.equalIn];simp[go_sem,Sem.events_bind,ab3,Ks]
theorem aaT(b d:ah):b.toList=d.toList↔b=d:=by
 rw[ByteArray.toList_eq,ByteArray.toList_eq];constructor
 ·intro h;obtain⟨⟨x⟩⟩:=b;obtain⟨⟨y⟩⟩:=d;have h:x=y:=h;rw[h]
 ·rintro rfl;rfl
theorem aaB(w:ae)(a c:Int)(b d:ah):(binOp .neq 32 (.agg #[.int .i64 a,.string b]) (.agg #[.int .i64 c,.string d])).run ar w=.ok (.bool (!decide ((a,b)=(c,d)))) w:=by
 simp[go_sem,aaT];by_cases h1:a=c<;>by_cases h2:b=d<;>simp[h1,h2]
theorem aaM(w:ae)(a c:Int)(b d:ah):(binOp .eql 32 (.agg #[.int .i64 a,.string b]) (.agg #[.int .i64 c,.string d])).run ar w=.ok (.bool (decide ((a,b)=(c,d)))) w:=by
 simp[go_sem,aaT];by_cases h1:a=c<;>by_cases h2:b=d<;>simp[h1,h2]
theorem aaC(w:ae)(es:Array Event)(a c:Int)(b d:ah):(binOp .neq 32 (.agg #[.int .i64 a,.string b]) (.agg #[.int .i64 c,.string d])).events ar w es=es:=by
 simp only[binOp];simp[Op.equal,Op.maxDepth,Sem.events_bind,abG 9998]
theorem aaO(w:ae)(es:Array Event)(a c:Int)(b d:ah):(binOp .eql 32 (.agg #[.int .i64 a,.string b]) (.agg #[.int .i64 c,.string d])).events ar w es=es:=by
 simp only[binOp];simp[Op.equal,Op.maxDepth,Sem.events_bind,abG 9998]
theorem aas(op:BinOp)(x y:Operand)(xs ys:Array Value)(w:ae)(es:Array Event):(eqGuard op 32 x y (.agg xs) (.agg ys)).events ar w es=es:=by
 cases op<;>simp[eqGuard,run_program,Sem.events_bind,show ar.eqGuardType ar.depth 32=false by kernel_rfl]
section
open Go.RowKit
def aau(NM:aL->List ah)(rs:List aL)(x:ah):Bool:=rs.any fun r=>Jn (NM r) x
def aaK(NM:aL->List ah)(rs:List aL):List ah:=je.filter (aau NM rs)
theorem aa2(NM:aL->List ah)(rs:List aL)(x:ah)(k:Nat)(h:k<rs.length):aau NM (rs.take (k+1)) x=(aau NM (rs.take k) x||Jn (NM rs[k]) x):=by
 unfold aau;rw[take_succ rs k h,List.any_append];simp
theorem aa6{α:Type}(p:α->Bool)(l:List α)(k:Nat)(h:k<l.length):(l.take (k+1)).filter p=(l.take k).filter p++(if p l[k] then[l[k]] else[]):=by
 rw[take_succ l k h,aah]
 congr 1
 by_cases q:p l[k]=true
 ·rw[aap q,if_pos q,List.filter_nil]
 ·rw[aaj q,if_neg q,List.filter_nil]
theorem abM{w:ae}{lo Ra e sz n:Nat}{v:Value}{xs:List Value}(h:w.ownsRow lo e sz v n xs)(hl:Ra<=lo):w.ownsRow Ra e sz v n xs:=by
 obtain⟨h1,h2⟩:=h;refine⟨h1,h2.imp id ?_⟩;rintro⟨g,cap,cur,e1,k1,k2⟩;exact⟨g,cap,cur,e1,aR hl k1,k2⟩
theorem aaV(p:Option Addr)(b c:Nat)(rs:List aL)(NM:aL->List ah)(NB:aL->Nat)(w:ae)(hR:oK w p b rs NM NB):
  Calls ar 29 #[.slice p rs.length c] w fun e w'=>∃v,e=.returned v/\Below w.heap.size w w'/\w.heap.size<=w'.heap.size/\w'.ownsRow w.heap.size 9 1 v (aaK NM rs).length ((aaK NM rs).map .string):=by
 have xV:=OA w;have Tm:je.length=6:=rfl;have hN0:dP (w.alloc (.cells (je.map Value.string).toArray 9)) w.heap.size 0 je:=fun i hi=>by
  rw[nK];simp[hi]
 have hb0:Below w.heap.size w (w.alloc (.cells (je.map Value.string).toArray 9)):=(Below.refl _ _).alloc (ag _) _;have WI:(w.alloc (.cells (je.map Value.string).toArray 9)).heap.size=w.heap.size+1:=an;generalize w.alloc (.cells (je.map Value.string).toArray 9)=w0 at *;generalize acn:je=nl at *;go_enter func29,ntmps29;go_wp2_with (go_at_call 18;refine xV.mono ?_;rintro e w' ⟨rfl,rfl⟩);go_loopw [3,5] (fun v i w'=>∃k:Nat,k<=6/\i=.int .i64 k/\Below w.heap.size w w'/\w.heap.size<w'.heap.size/\dP w' w.heap.size 0 nl/\w'.ownsRow (w.heap.size+1) 9 1 v ((nl.take k).filter (aau NM rs)).length (((nl.take k).filter (aau NM rs)).map .string)) (fun v i _=>6-(intOf i).toNat)
 case atStart=>exact⟨0,aQ _,rfl,hb0,aa,hN0,an,.inl ⟨rfl,rfl⟩⟩
 case round =>
  clear hN0 hb0 WI;obtain⟨k,hk,rfl,gv,hz,hN,b6⟩:=hrel;by_cases bZ:k<6
  ·have ad5:(k:Int)<6:=aa;have V2:=aa6 (aau NM rs) nl k aa;have hll:((nl.take k).filter (aau NM rs)).length<=6:=aR (eC _ _) eR;generalize (nl.take k).filter (aau NM rs)=out at *;have ck:=hN k aa;rw[bh] at ck;generalize nl[k]=x at *;go_wp2;go_loopw [6,7] (fun u j w'=>∃q:Nat,q<=rs.length/\j=.int .i64 q/\u=.bool (aau NM (rs.take q) x)/\Below w.heap.size w w'/\w'.heap=wr.heap) (fun u j _=>rs.length-(intOf j).toNat)
   case atStart=>exact⟨0,aQ _,rfl,by simp[aau],gv,rfl⟩
   case round =>
    clear gv;obtain⟨q,hq,rfl,rfl,gv,hh⟩:=hrel;by_cases hqn:q<rs.length
    ·have hqI:(q:Int)<(rs.length:Int):=aa;obtain⟨rfl,hb⟩:=hR.ptr (fun e=>by rw[e] at hqn;simp at hqn);obtain⟨c0,c1,c2⟩:=hR.at_.below hb gv q hqn;obtain⟨n1,n2,n3,n4⟩:=hR.nm rs[q] (aD hqn);have n3':dP wr (NB rs[q]) 0 (NM rs[q]):=fun j hj=>n3.below (n2 (fun e=>by rw[e] at hj;simp at hj)).2 gv j hj;have OL:=aa2 NM rs x q hqn;have sd:=fun n=>OC (NB rs[q]) 0 rs[q].sc rs[q].sa (NM rs[q]) x (wr.drewN n) aa (fun e=>(n2 e).1) n3';have cx:wr.cell? ⟨w.heap.size,k,none⟩=some (.string x):=(by unfold World.cell? at ck |-;rw[hh];exact ck);rw[n1] at c2;generalize rs[q].out=ro at *;generalize rs[q].eD=rr at *;generalize rs[q].sa=sa at *;generalize rs[q].sc=sc at *;generalize pd:Jn (NM rs[q]) x=ib at *;generalize (NM rs[q]).length=nn at *;generalize hu:aau NM (rs.take q) x=ub at *;go_wp2
     go_quiet (first|(go_at_call 27;refine Calls.quiet_of_same (sd _)))
     have E6:=hR.gT;clear sd c0 c1 c2 n1 n2 n3 n3' n4 cx pd hu V2 b6 hN ck hR xV acn;cases ub
     ·go_wp2;refine⟨⟨q+1,aa,by go_num,?_,⟨gv.os,gv.tape,gv.output,gv.size,gv.block⟩,hh⟩,by simp[intOf];omega⟩;rw[OL];simp
     ·go_wp2;refine⟨⟨q+1,aa,by go_num,?_,⟨gv.os,gv.tape,gv.output,gv.size,gv.block⟩,hh⟩,by simp[intOf];omega⟩;rw[OL];simp
    ·have e:q=rs.length:=aa;subst e;rw[dz];have UT:dP wr w.heap.size 0 nl:=cI hN (by rw[hh]);have cx:wr.cell? ⟨w.heap.size,k,none⟩=some (.string x):=(by unfold World.cell? at ck |-;rw[hh];exact ck);have RP:wr.ownsRow (w.heap.size+1) 9 1 u3 out.length (out.map .string):=cQ b6 fun g hg _=>by rw[hh]
     have Cq:w.heap.size<wr.heap.size:=by rw[hh];exact hz
     have aoR:=hll;clear b6 hN hz ck hR xV acn hh;cases hu:aau NM rs x
     ·rw[hu] at V2;simp only[fl,if_false,List.append_nil] at V2;go_wp2;exact⟨⟨k+1,aa,by go_num,gv,Cq,UT,by rw[V2];exact RP⟩,by simp[intOf];omega⟩
     ·rw[hu,if_pos rfl] at V2;obtain⟨v',W',e1,e2,e3⟩:=pz (wr.alloc (.cells #[.string x] 9)) (w.heap.size+1) u3 out x wr.heap.size (oP RP _) aa eR (vw _ _ _ 0);have vE:=Below.grown (gv.alloc aa _) e3 eR (fun b hb=>aR aa (yh RP b hb));go_wp2_with (at_builtin;refine fM rfl _ _ 40 rfl rfl rfl e1 ?_);have hb4:=Below.grown ((Below.refl (w.heap.size+1) wr).alloc aa _) e3 eR (yh RP);refine⟨⟨k+1,aa,by go_num,vE,?_,cI UT (hb4.block _ aa),by rw[V2];exact e2⟩,by simp[intOf];omega⟩;have:=hb4.size;omega
  ·have e:k=6:=aa;subst e;rw[cE aa] at b6;go_wp2;go_ret;exact⟨_,rfl,gv,aa,by subst acn;exact abM b6 aa⟩
end
section
variable {K:sj} {s s2:kT} {fs YU:List (ah×ah)} {ed My:Nat} {at_ n kd a b:Int} {y:ah} {time since:Nat} {waiting:Bool} {want:List ah}
theorem abN:je.Pairwise fun x y=>Lib.compareBytes x.toList y.toList<0:=by decide +kernel
theorem aaY:nY je:=fun i j hi hj DU=>List.pairwise_iff_getElem.1 abN i j hi hj DU
theorem aaS{l:List ah}(h:nY l)(p:ah->Bool):nY (l.filter p):=by
 have h1:l.Pairwise fun x y=>Lib.compareBytes x.toList y.toList<0:=List.pairwise_iff_getElem.2 fun i j hi hj DU=>h i j hi hj DU;exact fun i j hi hj DU=>List.pairwise_iff_getElem.1 (h1.filter p) i j hi hj DU
theorem abU{rs:List aL}{NM:aL->List ah}{RK:ah->Nat}{B:zf}(hS:tX rs NM RK B)(hk:Em rs NM):iq B.NM B.rs=aaK NM rs:=by
 refine Dc (pA _).1 (aaS aaY _) fun x=>?_;show x∈iq B.NM B.rs↔x∈aaK NM rs;rw[tw,aaK,ix,aau,List.any_eq_true];constructor
 ·rintro⟨r,hr,hx,ho⟩;obtain⟨i,hi,rfl⟩:=a8 hr;have lQ:i<rs.length:=by rw[<- hS.len];exact hi
  obtain⟨-,-,e⟩:=hS.at_ i lQ hi;rw[e] at hx;rw[hS.outs] at ho;rcases hk.ins _ (aD lQ) x hx with q|q
  ·exact⟨q,_,aD lQ,(oJ _ _).2 hx⟩
  ·exact absurd q ho
 ·rintro⟨hx,r,hr,hi⟩;obtain⟨i,lQ,rfl⟩:=a8 hr;have hi2:i<B.rs.length:=by rw[hS.len];exact lQ
  obtain⟨-,-,e⟩:=hS.at_ i lQ hi2;refine⟨_,aD hi2,?_,fun q=>?_⟩
  ·rw[e];exact(oJ _ _).1 hi
  ·rw[hS.outs] at q;obtain⟨r',SJ,e'⟩:=List.mem_map.1 q;exact hk.out r' SJ (e'▸hx)
structure aaL(s:kT)(at_:Int)(time since:Nat)(waiting:Bool):Prop where
 time:s.time=time
 idle:s.phase<=1->at_=-1
 wait:waiting=true↔s.phase≠0
 since:s.phase=1->s.since=since
 read:s.phase=2->at_=s.rd.length
 chk:s.phase=3->at_=s.src.length+s.ck
def ace(want:List ah)(s2:kT)(at_:Int)(time since:Nat)(waiting:Bool)(n:Int)(y:ah):Prop :=
 (at_=-1/\n=2/\y=aN/\waiting=true/\since+5<=time/\aaL s2 0 time since waiting) \/
 (at_=-1/\n=0/\y=aN/\aaL s2 (-1) time since waiting) \/
 (at_=-1/\n=1/\y=aN/\aaL s2 (-1) time time true) \/
 (∃(k:Nat) (h:k<want.length),at_=k/\n=3/\y=want[k]/\aaL s2 (k+1) time since waiting) \/
 (∃(k:Nat) (h:k<want.length),at_=want.length+k/\n=4/\y=want[k]/\aaL s2 (want.length+k+1) time since waiting) \/
 (∃(k:Nat) (h:k<want.length),at_=want.length+k/\n=5/\y=want[k]/\aaL s2 (-1) time time true) \/
 (at_=want.length+want.length/\n=6/\y=aN/\aaL s2 (-1) time since false)
theorem aaR{k N:Nat}(hk:k<N)(h6:N<=6):(k:Int)<(N:Int)/\¬(k:Int)<0/\IntKind.i64.wrap (k:Int)=(k:Int)/\IntKind.i64.wrap ((k:Int)+1)=(k:Int)+1/\IntKind.i64.wrap (2*(N:Int))=2*(N:Int)/\¬(N:Int)+(k:Int)<0/\¬(N:Int)+(k:Int)<(N:Int)/\(N:Int)+(k:Int)<2*(N:Int)/\IntKind.i64.wrap ((N:Int)+(k:Int)-(N:Int))=(k:Int)/\IntKind.i64.wrap ((N:Int)+(k:Int)+1)=(N:Int)+(k:Int)+1:=by
 refine⟨?_,?_,?_,?_,?_,?_,?_,?_,?_,?_⟩<;>first|omega|(rw[IntKind.wrap_i64]<;>omega)
theorem Sf.edits(st:Sf K kd a b s s2 fs YU ed My n y):My<=ed+1:=by
 rcases st with⟨-,-,-,e,-⟩|⟨-,-,-,-,⟨-,e,-⟩|⟨-,e,-⟩⟩|⟨-,-,-,-,e,-⟩|⟨-,-,-,-,e,-⟩<;>omega
theorem aaA{m:Int}{x:ah}(h:did n y=did m x):n=m/\y=x:=by
 unfold did at h;injection h with h;have h0:=congrArg (fun a=>a[0]?) h;have h1:=congrArg (fun a=>a[1]?) h;simp at h0 h1;exact⟨h0,h1⟩
theorem aaL.step(h:aaL s at_ time since waiting)(hs:Sound K s)(hw:iq K.B.NM K.B.rs=want)(st:Sf K kd a b s s2 fs YU ed My n y):
  ((0<=kd/\kd<=2)/\s.time<=s2.time/\(kd≠2->s2.time=s.time)/\aaL s2 at_ s2.time since waiting)\/(¬(0<=kd/\kd<=2)/\s2.time=s.time/\ace want s2 at_ time since waiting n y):=by
 obtain⟨rfl,h2,h3,h4,h5,h6⟩:=h;rcases st with⟨rfl,-,-,-,-,rE,rfl⟩|⟨rfl,-,-,-,⟨-,-,rE,rfl⟩|⟨-,-,rfl⟩⟩|⟨rfl,-,-,-,-,q⟩|⟨k0,k1,k2,-,-,F,KZ,Ja⟩
 ·exact .inl ⟨aa,ag _,fun _=>rfl,rfl,h2,h3,h4,h5,h6⟩
 ·exact .inl ⟨aa,ag _,fun _=>rfl,rfl,h2,h3,h4,h5,h6⟩
 ·exact .inl ⟨aa,ag _,fun _=>rfl,rfl,h2,h3,h4,h5,h6⟩
 ·refine .inl ⟨aa,?_⟩;rcases q with⟨-,rfl⟩|⟨-,rfl⟩
  ·exact⟨ag _,fun q=>absurd rfl q,rfl,h2,h3,h4,h5,h6⟩
  ·exact⟨aaq _ _,fun q=>absurd rfl q,rfl,h2,h3,h4,h5,h6⟩
 ·have hph:=hs.ph;have chk:s.rd.length=s.src.length->s.phase=2\/s.phase=3->at_=s.src.length+s.ck->∀s1:kT,s1.phase=3->s1.rd=s.rd->s1.src=s.src->s1.ck=s.ck->s1.time=s.time->s1.st=s.st->Checked K s1 s2 F (fileOf s.src (s.rd.map (·.1))) (did n y)->s2.time=s.time/\ace want s2 at_ s.time since waiting n y:=by
   intro hl hp ha s1 e1 e2 e3 e4 e5 e6 hc;have NO:=(hs.src hp).trans hw;have hwt:waiting=true:=h3.2 aa;rcases hc with⟨c1,c2,ir,Wh,zk,zm,-,rfl⟩|⟨c1,c2,⟨-,c4,rfl⟩|⟨-,c4,rfl⟩⟩
   ·obtain⟨rfl,rfl⟩:=aaA c2;rw[e3,e4] at c1;refine⟨e5,.inr (.inr (.inr (.inr (.inr (.inr ⟨by rw[<- NO];omega,rfl,rfl,?_⟩)))))⟩;exact⟨e5,fun _=>rfl,by simp[kT.stand],fun q=>by simp[kT.stand] at q,fun q=>by simp[kT.stand] at q,fun q=>by simp[kT.stand] at q⟩
   ·obtain⟨rfl,rfl⟩:=aaA c4;have hk:s.ck<want.length:=by rw[<- NO,<- e3,<- e4];exact c1
    refine⟨e5,.inr (.inr (.inr (.inr (.inr (.inl ⟨s.ck,hk,by rw[<- NO];exact ha,rfl,?_,?_⟩)))))⟩
    ·simp only[e3,e4,NO]
    ·exact⟨e5,fun _=>rfl,by simp[kT.stand],fun q=>e5,fun q=>by simp[kT.stand] at q,fun q=>by simp[kT.stand] at q⟩
   ·obtain⟨rfl,rfl⟩:=aaA c4;have hk:s.ck<want.length:=by rw[<- NO,<- e3,<- e4];exact c1
    refine⟨e5,.inr (.inr (.inr (.inr (.inl ⟨s.ck,hk,by rw[<- NO];exact ha,rfl,?_,?_⟩))))⟩
    ·simp only[e3,e4,NO]
    ·refine⟨e5,fun q=>?_,?_,fun q=>?_,fun q=>?_,fun _=>?_⟩
     ·have:s1.phase<=1:=q;omega
     ·rw[hwt];simp[e1]
     ·have:s1.phase=1:=q;omega
     ·have:s1.phase=2:=q;omega
     ·show(want.length:Int)+s.ck+1=s1.src.length+((s1.ck+1:Nat):Int);rw[e3,e4,NO];omega
  refine .inr ⟨aa,?_⟩;rcases Ja with⟨p2,⟨c1,c2⟩|⟨c1,c2,SW,rfl⟩⟩|⟨p3,c2⟩|⟨n2,n3,hr⟩
  ·exact chk c1 (.inl p2) (by rw[h5 p2,hs.early p2,c1];simp) {s with phase:=3} rfl rfl rfl rfl rfl rfl c2
  ·have NO:=(hs.src (.inl p2)).trans hw;obtain⟨rfl,rfl⟩:=aaA c2;have hk:s.rd.length<want.length:=by rw[<- NO];exact c1
   refine⟨rfl,.inr (.inr (.inr (.inl ⟨s.rd.length,hk,h5 p2,rfl,?_,?_⟩)))⟩
   ·simp only[NO]
   ·refine⟨rfl,fun q=>?_,h3,fun q=>?_,fun q=>?_,fun q=>?_⟩
    ·have:s.phase<=1:=q;omega
    ·have:s.phase=1:=q;omega
    ·simp
    ·have:s.phase=3:=q;omega
  ·exact chk (hs.full p3) (.inr p3) (h6 p3) s p3 rfl rfl rfl rfl rfl c2
  ·have ha:=h2 aa;rcases hr with⟨-,c2,rfl⟩|⟨-,⟨p1,c3⟩,c2,lo,F',SX,rfl⟩|⟨-,-,c2,rfl⟩
   ·obtain⟨rfl,rfl⟩:=aaA c2;refine⟨rfl,.inr (.inr (.inl ⟨ha,rfl,rfl,?_⟩))⟩;exact⟨rfl,fun _=>rfl,by simp[kT.stand],fun q=>rfl,fun q=>by simp[kT.stand] at q,fun q=>by simp[kT.stand] at q⟩
   ·obtain⟨rfl,rfl⟩:=aaA c2;have hwt:waiting=true:=h3.2 aa;refine⟨rfl,.inl ⟨ha,rfl,rfl,hwt,by have:=h4 p1;omega,?_⟩⟩;exact⟨rfl,fun q=>by simp[kT.stand] at q,by rw[hwt];simp[kT.stand],fun q=>by simp[kT.stand] at q,fun q=>by simp[kT.stand],fun q=>by simp[kT.stand] at q⟩
   ·obtain⟨rfl,rfl⟩:=aaA c2;exact⟨rfl,.inr (.inl ⟨ha,rfl,rfl,ha▸⟨rfl,h2,h3,h4,h5,h6⟩⟩)⟩
end
open Go.ConcN
section
variable {Fin:bH} {o o' o1 o2:aM} {w w' w1 w2:ae} {S:Nat} {K:sj} {s s2:kT} {eN gP:Nat->Nat} {rv fv YT sv:Value} {fs YU:List (ah×ah)} {ed My:Nat} {want:List ah}
theorem abh(hF:bE ar L0 o w){p:Option Addr}{b c:Nat}{rs:List aL}{NM:aL->List ah}{NB:aL->Nat}{RK:ah->Nat}(hH:Hand o w p b c rs NM NB RK):
  bp ar (XB ar Fin 0) 29 #[.slice p rs.length c] o w fun v o' w'=>fw o w v o' w'/\w'.ownsRow w.heap.size 9 1 v (aaK NM rs).length ((aaK NM rs).map .string):=by
 have eY:∀x∈#[Value.slice p rs.length c],Cl ar L0 o x:=fun x hx=>by
  simp at hx;subst hx;exact hH.cl
 refine bp.mono (dS af hF eY (Q:=fun wl v w'=>w'.ownsRow wl.heap.size 9 1 v (aaK NM rs).length ((aaK NM rs).map .string)) (fun wl Ai v w1 w2 e1 e2 h=>?_) (fun wl hz aE=>?_)) (fun v o' w' hq=>?_)
 ·rw[e1];exact cQ h fun g hg _=>by rw[e2]
 ·refine(aaV p b c rs NM NB wl (hH.rin hF hz aE)).mono fun e w' hq=>?_;obtain⟨v,rfl,hB,Ya,hr⟩:=hq;exact⟨v,rfl,Ya,fun b hb=>hB.block b hb,hr⟩
 ·obtain⟨hN,wl,aI,z1,z2,hs,hq⟩:=hq;rw[z1] at hq;refine⟨hN,cQ hq fun g hg uL=>?_⟩;obtain⟨_,hc⟩:=hq;rcases hc with⟨rfl,_⟩|⟨g',cap,cur,rfl,h5,h6,_⟩
  ·cases hg
  ·have e:g=g':=aK hg;subst e;have:=(Array.getElem?_eq_some_iff.1 h6).1;exact hs g uL aa
structure PS(o:aM)(w:ae)(S:Nat)(K:sj)(rv:Value)(s:kT)(lab:Nat->Nat)(fv:Value)(fs:List (ah×ah))(ed:Nat)(sv:Value)(want:List ah)(o':aM)(w':ae):Prop where
 dQ:Vg o' w' S K s lab rv fv fs ed
 old:bu (fun _=>False) o w o' w'
 Vm:∀b,b<w.heap.size->7<=lab b
 sge:w.heap.size<=S
 row:lJ o' w' w.heap.size 9 1 sv want.length (want.map .string)
 Ln:∀g,sv.ownBlock=some g->lab g=7/\g≠S/\fv.ownBlock≠some g
theorem PS.go(h:PS o w S K rv s eN fv fs ed sv want o1 w1)(sh:Vg o2 w2 S K s2 gP rv YT YU My)(U:iw S o1 w1 eN o2 w2 gP)(hfv:∀g,YT.ownBlock=some g->fv.ownBlock=some g\/w1.heap.size<=g):PS o w S K rv s2 gP YT YU My sv want o2 w2:=by
 have z1:=h.old.size;have z2:=U.aU.size;refine⟨sh,⟨U.aU.ay,fun b hb=>U.aU.more b (h.old.more b hb),fun b hb=>(U.aU.new b hb).elim (fun q=>h.old.new b q) fun q=>.inr aa,aa,fun b hb hx=>(U.aU.same b aa ?_).trans (h.old.same b hb hx)⟩,fun b hb=>by rw[U.lab b aa];exact h.Vm b hb,h.sge,h.row.keep U.aU.more U.aU.size (fun g hg=>?_),fun g hg=>?_⟩
 ·have:=h.Vm b hb;have:=h.sge;omega
 ·obtain⟨q1,q2,-⟩:=h.Ln g hg;exact U.aU.same g (h.row.lt g hg).2 (by rw[q1];omega)
 ·obtain⟨q1,q2,q4⟩:=h.Ln g hg;refine⟨(U.lab g (h.row.lt g hg).2).trans q1,q2,fun e=>?_⟩;rcases hfv g e with q|q
  ·exact q4 q
  ·have:=(h.row.lt g hg).2;omega
theorem PS.k(h:PS o w S K rv s eN fv fs ed sv want o1 w1)(T:cK o1 w1 eN o2 w2 gP)(hk:bg o2 w2 K s 0 gP):PS o w S K rv s gP fv fs ed sv want o2 w2:=by
 have U:=(iw.refl (S:=S) h.dQ.fC.ay).k T;have sl:=h.dQ.fC.ay.lt h.dQ.own;obtain⟨hf,hl⟩:=h.dQ.files.step h.dQ.Vi U h.dQ.fC.ay;exact h.go ⟨hk,h.dQ.sound,(T.aU.same S sl (by rw[h.dQ.Vh];omega)).trans h.dQ.blk,T.aU.more _ h.dQ.own,(T.lab S sl).trans h.dQ.Vh,hf,hl,h.dQ.Mv⟩ U fun g hg=>.inl hg
end
open Go.ConcR (Payload)
section
variable {Fin:bH} {o o':aM} {w w':ae}
theorem lJ.texts{lo:Nat}{p:Option Addr}{c:Nat}{ts:List ah}(h:lJ o w lo 9 1 (.slice p ts.length c) ts.length (ts.map .string))(hF:bE ar L0 o w):∃b,(ts≠[]->p=some ⟨b,0,none⟩/\o b)/\dP w b 0 ts:=by
 have b6:=h.row;obtain⟨h0,hc⟩:=h.row;rcases hc with⟨e1,e2⟩|⟨g,cap,cur,e1,k1,k2,k3,k4,k5,k6⟩
 ·have hn:=List.length_eq_zero_iff.1 e2;exact⟨0,fun q=>absurd hn q,fun k hk=>by rw[hn] at hk;simp at hk⟩
 ·have kZ:=b6.cells (g:=g) (by rw[e1];rfl);have og:=fO hF h.cl g (by rw[e1];rfl);injection e1 with e1;refine⟨g,fun _=>⟨e1,og⟩,fun i hi=>?_⟩;have:=kZ i (.string ts[i]) (by simp[hi]);have ha:(⟨g,0,none⟩:Addr).add i=⟨g,i,none⟩:=by simp[Addr.add];omega
  rw[ha] at this;rw[bh];exact this
theorem acb[Payload](hF:bE ar L0 o w)(pow:jB w)(p:Option Addr)(b off c:Nat)(rw:List FF)(hR:uZ Fin w p b off rw)(q:Option Addr)(qb Dl d:Nat)(xs:List (Int×Int×Int))(hX:IZ Fin w q qb Dl xs):
  Et ar (XB ar Fin 0) 11 Tryz.f11 #[.slice p rw.length c,.slice q xs.length d] o w fun v o' w'=>v=.bool true/\bu (fun _=>False) o w o' w':=by
 have W:=bJ (P:=ar) (Fin:=Fin) (d:=0);have Bt:=hX.Eu;refine⟨_,ai,?_⟩;walk_nrmf Tryz.f11;refine aA ?_;refine aF W rfl ai rfl func13 af rfl aC rfl ((Sa hF pow p b off c rw hR).mono ?_);rintro v1 o1 w1 eu;obtain⟨S,K,pb,eN,rp,rb,rc,rs,NM,NB,rfl,kS1,oS1,lS1,h1,W1,uW,hH,hSR,hfo,SL,I4⟩:=eu.ex;clear eu;refine aA ?_;refine aP aX h1.ay rfl ai ai ?_ rfl (v:=.bool false) (fun wl aE=>by simp[go_sem,agP]) fun _=>?_
 ·exact dU (aH oS1) Aa
 refine aA ?_;refine aP aX h1.ay rfl ai ai ?_ rfl (v:=.slice rp rs.length rc) (gG oS1 (Cm kS1).2.1) fun _=>?_
 ·exact cj (aH oS1)
 refine aA ?_;refine aF W rfl ai rfl func29 af rfl aC rfl ((abh h1.ay hH).mono ?_);rintro v2 o2 w2 ⟨N2,afI⟩;have W2:bu (fun _=>False) o1 w1 o2 w2:=bu.dL N2;obtain⟨gP,h2,T2,Ge,O1⟩:=h1.grown (cK.refl h1.ay) W2;have sl1:=h1.ay.lt oS1;have zw1:=W1.size;have NO:=abU hSR I4;obtain⟨wp,wln,wc,rfl⟩:=jV afI;have hwl:=Ak afI rfl;subst hwl;have aco:lJ o2 w2 w1.heap.size 9 1 (.slice wp (aaK NM rs).length wc) (aaK NM rs).length ((aaK NM rs).map .string):=⟨afI,N2.cl,W2.size⟩;have hWS:PS o w S K (.slice rp rs.length rc) (s0 pb) gP (.slice none 0 0) [] 0 (.slice wp (aaK NM rs).length wc) (aaK NM rs) o2 w2:=by
  refine⟨⟨h2,RQ K pb,(N2.old S sl1).trans kS1,W2.more _ oS1,(Ge S sl1).trans lS1,⟨⟨none,0,0,rfl,fun q=>absurd rfl q,fun i hi=>by simp at hi⟩,gS⟩,(fun g hg=>by cases hg),⟨fun x=>rfl,by simp[s0],an⟩⟩,W1.trans W2,fun b hb=>by rw[Ge b aa];exact(uW b hb).1,SL,⟨abM afI zw1,aco.cl,by have:=W2.size;omega⟩,fun g hg=>?_⟩;have:=(aco.lt g hg).1;exact⟨O1 g this,aa,(fun e=>by cases e)⟩
 have hI0:aaL (s0 pb) (-1) 0 0 false:=⟨rfl,fun _=>rfl,by simp[s0],fun q=>by simp[s0] at q,fun q=>by simp[s0] at q,fun q=>by simp[s0] at q⟩;have hwn:(aaK NM rs).length<=6:=eC _ _;clear N2 W2 h2 T2 Ge O1 h1 uW kS1 oS1 lS1 W1 sl1 zw1 SL hH hSR hfo I4 afI aco;generalize aaK NM rs=want at *;generalize s0 pb=s at *;refine aA ?_;refine nu W (fun m a o' w'=>∃i,m+i=xs.length/\a.tmps.size=161/\a.defers=[]/\a.eval (.tmp 1)=.slice q xs.length d/\a.eval (.tmp 5)=.pointer (some ⟨S,0,none⟩)/\a.eval (.tmp 6)=.slice wp want.length wc/\a.eval (.tmp 11)=.int .i64 i/\∃at_ time since waiting s lab fv fs ed,a.eval (.tmp 7)=.int .i64 at_/\a.eval (.tmp 8)=.int .i64 (time:Nat)/\a.eval (.tmp 9)=.int .i64 (since:Nat)/\a.eval (.tmp 10)=.bool waiting/\ed<=i/\aaL s at_ time since waiting/\PS o w S K (.slice rp rs.length rc) s lab fv fs ed (.slice wp want.length wc) want o' w') (N:=xs.length) ⟨0,an,rfl,rfl,aC,aC,aC,aC,-1,0,0,false,_,_,_,_,_,aC,aC,aC,aC,ag _,hI0,hWS⟩ ?_;clear hWS hI0;rintro m a o1 w1 ⟨i,Ni,ft,pF,i1,i5,i6,i11,at_,time,since,waiting,s,lab,fv,fs,ed,i7,i8,i9,i10,hed,hI,hW⟩;obtain⟨tm,df⟩:=a;simp only at ft pF;subst pF;obtain⟨gs,rfl⟩:=fA ft;clear ft;simp only[List.range,List.range.loop,bU,oe] at i1 i5 i6 i7 i8 i9 i10 i11 |-;simp[Act.eval] at i1 i5 i6 i7 i8 i9 i10 i11;simp only[i1,i5,i6,i7,i8,i9,i10,i11];clear i1 i5 i6 i7 i8 i9 i10 i11;by_cases hi:i<xs.length;rotate_left
 ·have hiI:¬(i:Int)<(xs.length:Int):=aa;refine aA ?_;exact⟨.inr trivial,trivial,_,resultsC_tmp (t:=4) ai _,aC,hW.old⟩
 have hiI:(i:Int)<(xs.length:Int):=aa;obtain⟨eq,oqb,qbl⟩:=hX.ptr (fun e=>by rw[e] at hi;simp at hi);subst eq;obtain⟨c0,c1,c2⟩:=hX.at_ i hi;obtain⟨⟨ZH,ZI⟩,rg3,rg4⟩:=hX.Wp xs[i] (aD hi);rcases hxi:xs[i] with⟨kd,ea,eb⟩;rw[hxi] at c0 c1 c2 ZH ZI rg3 rg4;simp only at c0 c1 c2 ZH ZI rg3 rg4;clear hxi;have ZG:=hW.old.same qb qbl id;have c0':=(cell_of ZG).trans c0;have Cp:=(cell_of ZG).trans c1;have c2':=(cell_of ZG).trans c2;refine qY W ?_;refine qY W ?_;refine Kj ?_;have hwi:IntKind.i64.wrap ((i:Int)+1)=((i+1:Nat):Int):=by rw[IntKind.wrap_i64]<;>omega
 refine FM W (fun a o' w'=>a.tmps.size=161/\a.defers=[]/\a.eval (.tmp 1)=.slice (some ⟨qb,Dl,none⟩) xs.length d/\a.eval (.tmp 5)=.pointer (some ⟨S,0,none⟩)/\a.eval (.tmp 6)=.slice wp want.length wc/\a.eval (.tmp 11)=.int .i64 i/\∃at_ time since waiting s lab fv fs ed,a.eval (.tmp 7)=.int .i64 at_/\a.eval (.tmp 8)=.int .i64 (time:Nat)/\a.eval (.tmp 9)=.int .i64 (since:Nat)/\a.eval (.tmp 10)=.bool waiting/\ed<=i+1/\aaL s at_ time since waiting/\PS o w S K (.slice rp rs.length rc) s lab fv fs ed (.slice wp want.length wc) want o' w') ?_ ?_;rotate_left
 ·rintro a o5 w5 ⟨ft,pF,i1,i5,i6,i11,at2,ad6,acr,abV,s2,gP,YT,YU,My,i7,i8,i9,i10,ahw,ZY,FT⟩;obtain⟨tm,df⟩:=a;simp only at ft pF;subst pF;obtain⟨gs,rfl⟩:=fA ft;clear ft;simp only[List.range,List.range.loop,bU,oe] at i1 i5 i6 i7 i8 i9 i10 i11 |-;simp[Act.eval] at i1 i5 i6 i7 i8 i9 i10 i11;simp only[i1,i5,i6,i7,i8,i9,i10,i11];clear i1 i5 i6 i7 i8 i9 i10 i11;refine aA ?_;exact⟨m-1,aa,i+1,aa,eX,eX,aC,aC,aC,by simp[Act.eval,hwi],at2,ad6,acr,abV,s2,gP,YT,YU,My,aC,aC,aC,aC,ahw,ZY,FT⟩
 refine aA ?_;refine oQ oqb rfl ai rfl (v:=.agg #[.int .i64 kd,.int .i64 ea,.int .i64 eb]) (fun wl aE=>by simp[go_sem,aE.cell.trans c0',aE.cell.trans Cp,aE.cell.trans c2']) (fun wl aE x hx=>?_) ?_
 ·simp[go_sem,aE.cell.trans c0',aE.cell.trans Cp,aE.cell.trans c2'] at hx;rcases hx with rfl|rfl|rfl;all_goals exact⟨_,_,_,rfl,rfl⟩
 refine aA ?_;refine aF W rfl ai rfl func14 af rfl aC rfl ((YR hW.dQ kd ea eb ZH ZI rg3 rg4 aa).mono ?_);rintro v2 o2 w2 ⟨n,y,s2,gP,YT,YU,My,rfl,sh2,st2,U2,ac0⟩;have FT:=hW.go sh2 U2 ac0;have dW:=hI.step hW.dQ.sound NO st2;have ahw:My<=i+1:=by have:=st2.edits;omega
 have aiH:=hI.time;clear sh2 st2 hI U2 ac0;refine aA ?_;refine cq aX FT.dQ.fC.ay rfl ai ai kp rfl (R:=fun wl v aI=>v=.pointer (some ⟨wl.heap.size,0,none⟩)/\aI=wl.alloc (Obj.cells #[.int .i64 0,.string aN] 32)) (fun wl aE=>⟨_,_,by first|(simp[go_sem];done)|(simp[go_sem];rfl),rfl,rfl⟩) fun wl v1 aI w3 aE oR ba=>?_;obtain⟨rfl,oR⟩:=oR;obtain⟨z3,k3,vz⟩:=ba.alloc FT.dQ.fC.ay aE oR;obtain⟨W3,oD⟩:=bu.mn ba.ay z3 k3;rw[aE.size];clear oR ba aE wl aI;obtain⟨oI,h3,T3,Cy,SY⟩:=FT.dQ.fC.grown (cK.refl FT.dQ.fC.ay) W3;have hlD:=SY _ (ag _);generalize Go.Ren.grow o2 w2 w3=o3 at *;clear z3;walk_nrm;refine bD aX h3.ay rfl ai ai ?_ rfl (R:=fun wl aI=>aI=(wl.setCell ⟨w2.heap.size,0,none⟩ (.int .i64 n)).setCell ⟨w2.heap.size,1,none⟩ (.string y)) (fun wl aE=>⟨_,?_,rfl⟩) fun wl aI w4 aE K0 ba=>?_
 ·refine dU ?_ ?_
  ·exact aH oD
  ·refine cJ (vs:=[_,_]) (fun x hx=>?_);simp at hx;rcases hx with rfl|rfl
   ·exact bN
   ·exact bf
 ·obtain⟨e0,e1,f0,f1⟩:=bT ((aE.heap _ oD).trans vz)
  first
  | (simp[go_sem,e0,e1,f0,f1];done)
  | (simp[go_sem,e0,e1,f0,f1];rfl)
 have hO:cN w2.heap.size wl aI:=by rw[K0];exact iB _ _ _ _ _ _
 obtain⟨FV,kD4,ey⟩:=ba.only aE oD hO;have D9:=ba.ay;rw[ey] at D9 |-;rw[K0,nG ((aE.heap _ oD).trans vz)] at kD4;obtain⟨h4,T4⟩:=h3.wrote T3 hlD (ag _) D9 FV;have FW:=FT.k T4 h4;clear K0 ba aE hO wl aI ey T3 h3 Cy SY FV vz D9 W3 k3 T4 h4 FT;generalize w2.heap.size=D at *;refine aA ?_;refine rdC FW.dQ.fC.ay FW.dQ.own (Cm FW.dQ.blk).1 fun _=>?_;refine aA ?_;refine aF W rfl ai rfl func28 af rfl aC rfl ((Yz FW.dQ.fC).mono ?_);rintro v6 o6 w6 ⟨ey,Si,rfl,Jm,Wl,⟨ep,ec,rfl,E1⟩,h6,T6⟩;have FY:=FW.k T6 h6;have lD4:=FW.dQ.fC.ay.lt oD;have kD6:=(T6.aU.same D lD4 (by rw[hlD];omega)).trans kD4;have Mx:=T6.aU.more _ oD;have lD6:=h6.ay.lt Mx;have YY:=Jm.cl;clear T6 Wl Jm E1 kD4 oD lD4 hlD FW;refine aA ?_;refine cq aX FY.dQ.fC.ay rfl ai ai kp rfl (R:=fun wl v aI=>v=.pointer (some ⟨wl.heap.size,0,none⟩)/\aI=wl.alloc (Obj.cells #[.int .i64 0,.int .i64 0,.int .i64 0,.slice none 0 0,.bool false] 70)) (fun wl aE=>⟨_,_,by first|(simp[go_sem];done)|(simp[go_sem];rfl),rfl,rfl⟩) fun wl v1 aI w7 aE Of ba=>?_;obtain⟨rfl,Of⟩:=Of;obtain⟨z7,k7,kb7⟩:=ba.alloc FY.dQ.fC.ay aE Of;obtain⟨W7,oL⟩:=bu.mn ba.ay z7 k7;rw[aE.size];clear Of ba aE wl aI;obtain⟨B7,h7,T7,od,UQ⟩:=FY.dQ.fC.grown (cK.refl FY.dQ.fC.ay) W7;have hlL:=UQ _ (ag _);have Su:=YY.up W7.more;have oD7:=W7.more _ Mx;have kD7:=(k7 D lD6).trans kD6;generalize Go.Ren.grow o6 w6 w7=o7 at *;clear z7;walk_nrm;refine bD aX h7.ay rfl ai ai ?_ rfl (R:=fun wl aI=>aI=((((wl.setCell ⟨w6.heap.size,0,none⟩ (.int .i64 s2.phase)).setCell ⟨w6.heap.size,1,none⟩ (.int .i64 s2.time)).setCell ⟨w6.heap.size,2,none⟩ (.int .i64 s2.since)).setCell ⟨w6.heap.size,3,none⟩ (.slice ep s2.qn.length ec)).setCell ⟨w6.heap.size,4,none⟩ (.bool s2.lost)) (fun wl aE=>⟨_,?_,rfl⟩) fun wl aI w8 aE hR8 ba=>?_
 ·refine dU ?_ ?_
  ·exact aH oL
  ·refine cJ (vs:=[_,_,_,_,_]) (fun x hx=>?_);simp at hx;rcases hx with rfl|rfl|rfl|rfl|rfl
   ·exact bN
   ·exact bN
   ·exact bN
   ·exact Su
   ·exact kn
 ·have e:=(aE.heap _ oL).trans kb7;have g0:wl.cell? ⟨w6.heap.size,0,none⟩=some (.int .i64 0):=by simp[World.cell?,e]
  have g1:wl.cell? ⟨w6.heap.size,1,none⟩=some (.int .i64 0):=by simp[World.cell?,e]
  have g2:wl.cell? ⟨w6.heap.size,2,none⟩=some (.int .i64 0):=by simp[World.cell?,e]
  have g3:wl.cell? ⟨w6.heap.size,3,none⟩=some (.slice none 0 0):=by simp[World.cell?,e]
  have g4:wl.cell? ⟨w6.heap.size,4,none⟩=some (.bool false):=by simp[World.cell?,e]
  have f:∀j,wl.frozen? ⟨w6.heap.size,j,none⟩=false:=fun j=>by simp[World.frozen?,e]
  simp[go_sem,g0,g1,g2,g3,g4,f]
 have hO:cN w6.heap.size wl aI:=by rw[hR8];exact(((iB _ _ _ _ _ _).at 2 _).at 3 _).at 4 _
 obtain⟨Aj,kL8,ey8⟩:=ba.only aE oL hO;have C8:=ba.ay;rw[ey8] at C8 |-;have kL:w8.heap[w6.heap.size]?=some (.cells #[.int .i64 s2.phase,.int .i64 s2.time,.int .i64 s2.since,.slice ep s2.qn.length ec,.bool s2.lost] 70):=by
  rw[kL8,hR8];have e:=(aE.heap _ oL).trans kb7;simp[World.setCell,er,e]
 obtain⟨h8,T8⟩:=h7.wrote T7 hlL (ag _) C8 Aj;have Mz:=FY.k T8 h8;have kD8:=(Aj.2 D aa).trans kD7;clear hR8 ba aE hO wl aI ey8 T7 h7 od UQ hlL Aj kb7 C8 W7 k7 T8 h8 FY kL8 YY Su kD7 kD6 Mx lD6 h6;generalize w6.heap.size=L at *;obtain⟨-,cL1,-⟩:=ym kL;obtain⟨cD0,cD1,-⟩:=bT kD8;have c08:=(cell_of (Mz.old.same qb qbl id)).trans c0;have C8:=Mz.dQ.fC.ay;clear c0' Cp c2' kL;refine Kj ?_;refine FM W (fun a o' w'=>a.tmps.size=161/\a.defers=[]/\a.eval (.tmp 1)=.slice (some ⟨qb,Dl,none⟩) xs.length d/\a.eval (.tmp 5)=.pointer (some ⟨S,0,none⟩)/\a.eval (.tmp 6)=.slice wp want.length wc/\a.eval (.tmp 11)=.int .i64 i/\a.eval (.tmp 7)=.int .i64 at_/\a.eval (.tmp 8)=.int .i64 s2.time/\a.eval (.tmp 9)=.int .i64 (since:Nat)/\a.eval (.tmp 10)=.bool waiting/\a.eval (.tmp 12)=.pointer (some ⟨D,0,none⟩)/\o7=o'/\w8=w') ?_ ?_
 ·by_cases PD:kd=2
  ·subst PD;refine aA ?_;refine oQ oqb rfl ai rfl (v:=.int .i64 2) (fun wl aE=>by simp[go_sem,aE.cell.trans c08]) (fun wl aE x hx=>?_) ?_
   ·simp[go_sem,aE.cell.trans c08] at hx;rcases hx with rfl;all_goals exact⟨_,_,_,rfl,rfl⟩
   refine aA ?_;refine rdC C8 oL cL1 fun _=>?_;walk_nrm;by_cases bZ:time<s2.time
   ·have ad5:(time:Int)<(s2.time:Int):=aa;refine aA ?_;refine rdC C8 oL cL1 fun _=>?_;refine aA ?_;exact⟨eX,eX,aC,aC,aC,aC,aC,aC,aC,aC,aC,eX,eX⟩
   ·have ad5:¬(time:Int)<(s2.time:Int):=aa;have het:time=s2.time:=by rcases dW with⟨-,q,-⟩|⟨-,q,-⟩<;>omega
    refine aA ?_;exact⟨eX,eX,aC,aC,aC,aC,aC,by simp[Act.eval,het],aC,aC,aC,eX,eX⟩
  ·have aoY:(kd==2)=false:=by simp[PD]
   have het:time=s2.time:=by rcases dW with⟨-,-,q,-⟩|⟨-,q,-⟩<;>first|(have:=q PD;omega)|omega
   refine aA ?_;refine oQ oqb rfl ai rfl (v:=.int .i64 kd) (fun wl aE=>by simp[go_sem,aE.cell.trans c08]) (fun wl aE x hx=>?_) ?_
   ·simp[go_sem,aE.cell.trans c08] at hx;rcases hx with rfl;all_goals exact⟨_,_,_,rfl,rfl⟩
   refine aA ?_;exact⟨eX,eX,aC,aC,aC,aC,aC,by simp[Act.eval,het],aC,aC,aC,eX,eX⟩
 rintro a o' w' ⟨ft,pF,i1,i5,i6,i11,i7,i8,i9,i10,i12,rfl,rfl⟩;obtain⟨tm,df⟩:=a;simp only at ft pF;subst pF;obtain⟨gs,rfl⟩:=fA ft;clear ft;simp only[List.range,List.range.loop,bU,oe] at i1 i5 i6 i7 i8 i9 i10 i11 i12 |-;simp[Act.eval] at i1 i5 i6 i7 i8 i9 i10 i11 i12;simp only[i1,i5,i6,i7,i8,i9,i10,i11,i12];clear i1 i5 i6 i7 i8 i9 i10 i11 i12;rcases dW with⟨⟨Gc,PD⟩,-,-,ZY⟩|⟨hB,hT,hN⟩
 ·refine aA ?_;refine oQ oqb rfl ai rfl (v:=.int .i64 kd) (fun wl aE=>by simp[go_sem,aE.cell.trans c08]) (fun wl aE x hx=>?_) ?_
  ·simp[go_sem,aE.cell.trans c08] at hx;rcases hx with rfl;all_goals exact⟨_,_,_,rfl,rfl⟩
  refine aA ?_;refine oQ oqb rfl ai rfl (v:=.int .i64 kd) (fun wl aE=>by simp[go_sem,aE.cell.trans c08]) (fun wl aE x hx=>?_) ?_
  ·simp[go_sem,aE.cell.trans c08] at hx;rcases hx with rfl;all_goals exact⟨_,_,_,rfl,rfl⟩
  refine aA ?_;exact⟨eX,eX,aC,aC,aC,aC,at_,s2.time,since,waiting,s2,_,YT,YU,My,aC,aC,aC,aC,ahw,ZY,Mz⟩
 rw[<- aiH,<- hT] at hN;clear hT aiH;refine FM W (fun a o' w'=>a.tmps.size=161/\a.defers=[]/\a.eval (.tmp 1)=.slice (some ⟨qb,Dl,none⟩) xs.length d/\a.eval (.tmp 5)=.pointer (some ⟨S,0,none⟩)/\a.eval (.tmp 6)=.slice wp want.length wc/\a.eval (.tmp 11)=.int .i64 i/\a.eval (.tmp 7)=.int .i64 at_/\a.eval (.tmp 8)=.int .i64 s2.time/\a.eval (.tmp 9)=.int .i64 (since:Nat)/\a.eval (.tmp 10)=.bool waiting/\a.eval (.tmp 12)=.pointer (some ⟨D,0,none⟩)/\o7=o'/\w8=w') ?_ ?_
 ·by_cases Gc:0<=kd
  ·have PD:¬kd<=2:=fun q=>hB ⟨Gc,q⟩;refine aA ?_;refine oQ oqb rfl ai rfl (v:=.int .i64 kd) (fun wl aE=>by simp[go_sem,aE.cell.trans c08]) (fun wl aE x hx=>?_) ?_
   ·simp[go_sem,aE.cell.trans c08] at hx;rcases hx with rfl;all_goals exact⟨_,_,_,rfl,rfl⟩
   refine aA ?_;refine oQ oqb rfl ai rfl (v:=.int .i64 kd) (fun wl aE=>by simp[go_sem,aE.cell.trans c08]) (fun wl aE x hx=>?_) ?_
   ·simp[go_sem,aE.cell.trans c08] at hx;rcases hx with rfl;all_goals exact⟨_,_,_,rfl,rfl⟩
   refine aA ?_;exact⟨eX,eX,aC,aC,aC,aC,aC,aC,aC,aC,aC,eX,eX⟩
  ·refine aA ?_;refine oQ oqb rfl ai rfl (v:=.int .i64 kd) (fun wl aE=>by simp[go_sem,aE.cell.trans c08]) (fun wl aE x hx=>?_) ?_
   ·simp[go_sem,aE.cell.trans c08] at hx;rcases hx with rfl;all_goals exact⟨_,_,_,rfl,rfl⟩
   refine aA ?_;exact⟨eX,eX,aC,aC,aC,aC,aC,aC,aC,aC,aC,eX,eX⟩
 rintro a o' w' ⟨ft,pF,i1,i5,i6,i11,i7,i8,i9,i10,i12,rfl,rfl⟩;obtain⟨tm,df⟩:=a;simp only at ft pF;subst pF;obtain⟨gs,rfl⟩:=fA ft;clear ft;simp only[List.range,List.range.loop,bU,oe] at i1 i5 i6 i7 i8 i9 i10 i11 i12 |-;simp[Act.eval] at i1 i5 i6 i7 i8 i9 i10 i11 i12;simp only[i1,i5,i6,i7,i8,i9,i10,i11,i12];clear i1 i5 i6 i7 i8 i9 i10 i11 i12;obtain⟨wb,hwp,hwt⟩:=Mz.row.texts C8;have htm:=Mz.dQ.fC.gT.2.2.1;clear hB c08 cL1;rcases hN with⟨rfl,rfl,rfl,rfl,h5,ZY⟩|⟨rfl,rfl,rfl,ZY⟩|⟨rfl,rfl,rfl,ZY⟩|⟨k,hk,rfl,rfl,rfl,ZY⟩|⟨k,hk,rfl,rfl,rfl,ZY⟩|⟨k,hk,rfl,rfl,rfl,ZY⟩|⟨rfl,rfl,rfl,ZY⟩
 ·have aoZ:IntKind.i64.wrap ((s2.time:Int)-(since:Int))=(s2.time:Int)-(since:Int):=by rw[IntKind.wrap_i64]<;>omega
  have Nc:¬((s2.time:Int)-(since:Int))<5:=aa;refine aA ?_;refine rdC C8 oD7 cD0 fun _=>?_;refine aA ?_;refine rdC C8 oD7 cD0 fun _=>?_;refine aA ?_;refine rdC C8 oD7 cD0 fun _=>?_;refine aA ?_;exact⟨eX,eX,aC,aC,aC,aC,0,s2.time,since,true,s2,_,YT,YU,My,aC,aC,aC,aC,ahw,ZY,Mz⟩
 ·refine aA ?_;refine rdC C8 oD7 cD0 fun _=>?_;refine aA ?_;refine rdC C8 oD7 cD0 fun _=>?_;refine aA ?_;refine rdC C8 oD7 cD0 fun _=>?_;refine aA ?_;refine rdC C8 oD7 cD0 fun _=>?_;refine aA ?_;exact⟨eX,eX,aC,aC,aC,aC,(-1),s2.time,since,waiting,s2,_,YT,YU,My,aC,aC,aC,aC,ahw,ZY,Mz⟩
 ·refine aA ?_;refine rdC C8 oD7 cD0 fun _=>?_;refine aA ?_;refine rdC C8 oD7 cD0 fun _=>?_;refine aA ?_;refine rdC C8 oD7 cD0 fun _=>?_;refine aA ?_;refine rdC C8 oD7 cD0 fun _=>?_;refine aA ?_;exact⟨eX,eX,aC,aC,aC,aC,(-1),s2.time,s2.time,true,s2,_,YT,YU,My,aC,aC,aC,aC,ahw,ZY,Mz⟩
 ·obtain⟨rfl,owb⟩:=hwp (fun e=>by rw[e] at hk;simp at hk);have ctk:=hwt k hk;rw[bh] at ctk;obtain⟨Yf,Gc,Ja,abo,Y3,hnk,PT,xD,VC,abq⟩:=aaR hk hwn;generalize want[k]=x at *;clear hwt hwp;refine aA ?_;refine dq mixed af [some (some (.agg #[.int .i64 3,.string x])),some none,some none,some none,some (some (.string x)),some none,some none]
   (S:=fun σ o' w'=>o7=o'/\w8=w') ⟨rfl,rfl⟩ fun v9=>?_
  refine dp ?_;refine bK aX rfl rfl rfl ai ai (fun σ o' w' H hS=>?_) ?_
  ·obtain⟨rfl,rfl⟩:=hS;exact⟨C8,cj (aH oD7),fun wl aE=>by simp[go_sem,(aE.cell oD7).trans cD0,(aE.cell oD7).trans cD1]⟩
  walk_nrm;refine tM (y:=.slice (some ⟨wb,0,none⟩) want.length wc) rfl rfl rfl ai (fun w1=>by simp[go_sem,Act.eval]) (fun w1=>by simp[go_sem,Act.eval]) ?_;walk_nrm;refine tM (y:=.int .i64 (k:Int)) rfl rfl rfl ai (fun w1=>by simp[go_sem,Act.eval]) (fun w1=>by simp[go_sem,Act.eval]) ?_;walk_nrm;refine tM (y:=.pointer (some ⟨wb,k,none⟩)) rfl rfl rfl ai (fun w1=>by simp[go_sem,Act.eval,Yf,Gc]) (fun w1=>by simp[go_sem,Act.eval,Yf,Gc]) ?_;walk_nrm;refine bK aX rfl rfl rfl ai ai (fun σ o' w' H hS=>?_) ?_
  ·obtain⟨rfl,rfl⟩:=hS;exact rd3 C8 owb ctk
  walk_nrm;refine tM (y:=.agg #[.int .i64 3,.string x]) rfl rfl rfl ai (fun w1=>by simp[go_sem,Act.eval]) (fun w1=>by simp[go_sem,Act.eval]) ?_;walk_nrm;refine tM (y:=.bool false) rfl rfl rfl ai (fun w1=>by simp[go_sem,Act.eval,aaB]) (fun w1=>by simp[go_sem,Act.eval,aaC,aas]) ?_;walk_nrm;refine cd fun σ o10 Ws kP hS=>?_;obtain⟨rfl,rfl⟩:=hS;clear kP;simp only[gN,cZ,if_true,if_false,reduceIte,Nat.reduceEqDiff];refine aA ?_;refine rdC C8 oD7 cD0 fun _=>?_;refine aA ?_;refine rdC C8 oD7 cD0 fun _=>?_;refine aA ?_;exact⟨eX,eX,by simp[Act.eval,abo],by simp[Act.eval,abo],by simp[Act.eval,abo],by simp[Act.eval,abo],((k:Int)+1),s2.time,since,waiting,s2,_,YT,YU,My,by simp[Act.eval,abo],aC,aC,aC,ahw,ZY,Mz⟩
 ·obtain⟨rfl,owb⟩:=hwp (fun e=>by rw[e] at hk;simp at hk);have ctk:=hwt k hk;rw[bh] at ctk;obtain⟨Yf,Gc,Ja,abo,Y3,hnk,PT,xD,VC,abq⟩:=aaR hk hwn;generalize want[k]=x at *;clear hwt hwp;refine aA ?_;refine dq mixed af [some none,some none,some none,some none,some none,some (some (.agg #[.int .i64 4,.string x])),some none,some none,some none,some none,some none,some (some (.string x)),some none,some none,some none,some none]
   (S:=fun σ o' w'=>o7=o'/\w8=w') ⟨rfl,rfl⟩ fun v9=>?_
  refine dp ?_;refine tM (y:=.int .i64 ((want.length:Int)+(k:Int))) rfl rfl rfl ai (fun w1=>by simp[go_sem,Act.eval]) (fun w1=>by simp[go_sem,Act.eval]) ?_;walk_nrm;refine tM (y:=.int .i64 (want.length:Int)) rfl rfl rfl ai (fun w1=>by simp[go_sem,Act.eval]) (fun w1=>by simp[go_sem,Act.eval]) ?_;walk_nrm;refine tM (y:=.int .i64 (2*(want.length:Int))) rfl rfl rfl ai (fun w1=>by simp[go_sem,Act.eval,Y3]) (fun w1=>by simp[go_sem,Act.eval,Y3]) ?_;walk_nrm;refine tM (y:=.bool true) rfl rfl rfl ai (fun w1=>by simp[go_sem,Act.eval,xD]) (fun w1=>by simp[go_sem,Act.eval,xD]) ?_;walk_nrm;refine tM (y:=.bool true) rfl rfl rfl ai (fun w1=>by simp[go_sem,Act.eval]) (fun w1=>by simp[go_sem,Act.eval]) ?_;walk_nrm;refine bK aX rfl rfl rfl ai ai (fun σ o' w' H hS=>?_) ?_
  ·obtain⟨rfl,rfl⟩:=hS;exact⟨C8,cj (aH oD7),fun wl aE=>by simp[go_sem,(aE.cell oD7).trans cD0,(aE.cell oD7).trans cD1]⟩
  walk_nrm;refine tM (y:=.slice (some ⟨wb,0,none⟩) want.length wc) rfl rfl rfl ai (fun w1=>by simp[go_sem,Act.eval]) (fun w1=>by simp[go_sem,Act.eval]) ?_;walk_nrm;refine tM (y:=.int .i64 ((want.length:Int)+(k:Int))) rfl rfl rfl ai (fun w1=>by simp[go_sem,Act.eval]) (fun w1=>by simp[go_sem,Act.eval]) ?_;walk_nrm;refine tM (y:=.int .i64 (want.length:Int)) rfl rfl rfl ai (fun w1=>by simp[go_sem,Act.eval]) (fun w1=>by simp[go_sem,Act.eval]) ?_;walk_nrm;refine tM (y:=.int .i64 (k:Int)) rfl rfl rfl ai (fun w1=>by simp[go_sem,Act.eval,VC,Ja]) (fun w1=>by simp[go_sem,Act.eval,VC,Ja]) ?_;walk_nrm;refine tM (y:=.pointer (some ⟨wb,k,none⟩)) rfl rfl rfl ai (fun w1=>by simp[go_sem,Act.eval,Yf,Gc]) (fun w1=>by simp[go_sem,Act.eval,Yf,Gc]) ?_;walk_nrm;refine bK aX rfl rfl rfl ai ai (fun σ o' w' H hS=>?_) ?_
  ·obtain⟨rfl,rfl⟩:=hS;exact rd3 C8 owb ctk
  walk_nrm;refine tM (y:=.agg #[.int .i64 4,.string x]) rfl rfl rfl ai (fun w1=>by simp[go_sem,Act.eval]) (fun w1=>by simp[go_sem,Act.eval]) ?_;walk_nrm;refine tM (y:=.bool true) rfl rfl rfl ai (fun w1=>by simp[go_sem,Act.eval,aaM]) (fun w1=>by simp[go_sem,Act.eval,aaO,aas]) ?_;walk_nrm;refine tM (y:=.bool true) rfl rfl rfl ai (fun w1=>by simp[go_sem,Act.eval]) (fun w1=>by simp[go_sem,Act.eval]) ?_;walk_nrm;refine tM (y:=.bool true) rfl rfl rfl ai (fun w1=>by simp[go_sem,Act.eval]) (fun w1=>by simp[go_sem,Act.eval]) ?_;walk_nrm;refine cd fun σ o10 Ws kP hS=>?_;obtain⟨rfl,rfl⟩:=hS;clear kP;simp only[gN,cZ,if_true,if_false,reduceIte,Nat.reduceEqDiff];refine aA ?_;refine rdC C8 oD7 cD0 fun _=>?_;refine aA ?_;refine rdC C8 oD7 cD0 fun _=>?_;refine aA ?_;exact⟨eX,eX,by simp[Act.eval,abq],by simp[Act.eval,abq],by simp[Act.eval,abq],by simp[Act.eval,abq],((want.length:Int)+(k:Int)+1),s2.time,since,waiting,s2,_,YT,YU,My,by simp[Act.eval,abq],aC,aC,aC,ahw,ZY,Mz⟩
 ·obtain⟨rfl,owb⟩:=hwp (fun e=>by rw[e] at hk;simp at hk);have ctk:=hwt k hk;rw[bh] at ctk;obtain⟨Yf,Gc,Ja,abo,Y3,hnk,PT,xD,VC,abq⟩:=aaR hk hwn;generalize want[k]=x at *;clear hwt hwp;refine aA ?_;refine dq mixed af [some none,some none,some none,some none,some none,some (some (.agg #[.int .i64 5,.string x])),some none,some none,some none,some none,some none,some (some (.string x)),some none,some none,some none,some none]
   (S:=fun σ o' w'=>o7=o'/\w8=w') ⟨rfl,rfl⟩ fun v9=>?_
  refine dp ?_;refine tM (y:=.int .i64 ((want.length:Int)+(k:Int))) rfl rfl rfl ai (fun w1=>by simp[go_sem,Act.eval]) (fun w1=>by simp[go_sem,Act.eval]) ?_;walk_nrm;refine tM (y:=.int .i64 (want.length:Int)) rfl rfl rfl ai (fun w1=>by simp[go_sem,Act.eval]) (fun w1=>by simp[go_sem,Act.eval]) ?_;walk_nrm;refine tM (y:=.int .i64 (2*(want.length:Int))) rfl rfl rfl ai (fun w1=>by simp[go_sem,Act.eval,Y3]) (fun w1=>by simp[go_sem,Act.eval,Y3]) ?_;walk_nrm;refine tM (y:=.bool true) rfl rfl rfl ai (fun w1=>by simp[go_sem,Act.eval,xD]) (fun w1=>by simp[go_sem,Act.eval,xD]) ?_;walk_nrm;refine tM (y:=.bool true) rfl rfl rfl ai (fun w1=>by simp[go_sem,Act.eval]) (fun w1=>by simp[go_sem,Act.eval]) ?_;walk_nrm;refine bK aX rfl rfl rfl ai ai (fun σ o' w' H hS=>?_) ?_
  ·obtain⟨rfl,rfl⟩:=hS;exact⟨C8,cj (aH oD7),fun wl aE=>by simp[go_sem,(aE.cell oD7).trans cD0,(aE.cell oD7).trans cD1]⟩
  walk_nrm;refine tM (y:=.slice (some ⟨wb,0,none⟩) want.length wc) rfl rfl rfl ai (fun w1=>by simp[go_sem,Act.eval]) (fun w1=>by simp[go_sem,Act.eval]) ?_;walk_nrm;refine tM (y:=.int .i64 ((want.length:Int)+(k:Int))) rfl rfl rfl ai (fun w1=>by simp[go_sem,Act.eval]) (fun w1=>by simp[go_sem,Act.eval]) ?_;walk_nrm;refine tM (y:=.int .i64 (want.length:Int)) rfl rfl rfl ai (fun w1=>by simp[go_sem,Act.eval]) (fun w1=>by simp[go_sem,Act.eval]) ?_;walk_nrm;refine tM (y:=.int .i64 (k:Int)) rfl rfl rfl ai (fun w1=>by simp[go_sem,Act.eval,VC,Ja]) (fun w1=>by simp[go_sem,Act.eval,VC,Ja]) ?_;walk_nrm;refine tM (y:=.pointer (some ⟨wb,k,none⟩)) rfl rfl rfl ai (fun w1=>by simp[go_sem,Act.eval,Yf,Gc]) (fun w1=>by simp[go_sem,Act.eval,Yf,Gc]) ?_;walk_nrm;refine bK aX rfl rfl rfl ai ai (fun σ o' w' H hS=>?_) ?_
  ·obtain⟨rfl,rfl⟩:=hS;exact rd3 C8 owb ctk
  walk_nrm;refine tM (y:=.agg #[.int .i64 4,.string x]) rfl rfl rfl ai (fun w1=>by simp[go_sem,Act.eval]) (fun w1=>by simp[go_sem,Act.eval]) ?_;walk_nrm;refine tM (y:=.bool false) rfl rfl rfl ai (fun w1=>by simp[go_sem,Act.eval,aaM]) (fun w1=>by simp[go_sem,Act.eval,aaO,aas]) ?_;walk_nrm;refine tM (y:=.bool false) rfl rfl rfl ai (fun w1=>by simp[go_sem,Act.eval]) (fun w1=>by simp[go_sem,Act.eval]) ?_;walk_nrm;refine tM (y:=.bool false) rfl rfl rfl ai (fun w1=>by simp[go_sem,Act.eval]) (fun w1=>by simp[go_sem,Act.eval]) ?_;walk_nrm;refine cd fun σ o10 Ws kP hS=>?_;obtain⟨rfl,rfl⟩:=hS;clear kP;simp only[gN,cZ,if_true,if_false,reduceIte,Nat.reduceEqDiff];refine aA ?_;refine dq mixed af [some (some (.agg #[.int .i64 5,.string x])),some none,some none,some none,some none,some none,some (some (.string x)),some none,some none]
   (S:=fun σ o' w'=>o7=o'/\w8=w') ⟨rfl,rfl⟩ fun v9=>?_
  refine dp ?_;refine bK aX rfl rfl rfl ai ai (fun σ o' w' H hS=>?_) ?_
  ·obtain⟨rfl,rfl⟩:=hS;exact⟨C8,cj (aH oD7),fun wl aE=>by simp[go_sem,(aE.cell oD7).trans cD0,(aE.cell oD7).trans cD1]⟩
  walk_nrm;refine tM (y:=.slice (some ⟨wb,0,none⟩) want.length wc) rfl rfl rfl ai (fun w1=>by simp[go_sem,Act.eval]) (fun w1=>by simp[go_sem,Act.eval]) ?_;walk_nrm;refine tM (y:=.int .i64 ((want.length:Int)+(k:Int))) rfl rfl rfl ai (fun w1=>by simp[go_sem,Act.eval]) (fun w1=>by simp[go_sem,Act.eval]) ?_;walk_nrm;refine tM (y:=.int .i64 (want.length:Int)) rfl rfl rfl ai (fun w1=>by simp[go_sem,Act.eval]) (fun w1=>by simp[go_sem,Act.eval]) ?_;walk_nrm;refine tM (y:=.int .i64 (k:Int)) rfl rfl rfl ai (fun w1=>by simp[go_sem,Act.eval,VC,Ja]) (fun w1=>by simp[go_sem,Act.eval,VC,Ja]) ?_;walk_nrm;refine tM (y:=.pointer (some ⟨wb,k,none⟩)) rfl rfl rfl ai (fun w1=>by simp[go_sem,Act.eval,Yf,Gc]) (fun w1=>by simp[go_sem,Act.eval,Yf,Gc]) ?_;walk_nrm;refine bK aX rfl rfl rfl ai ai (fun σ o' w' H hS=>?_) ?_
  ·obtain⟨rfl,rfl⟩:=hS;exact rd3 C8 owb ctk
  walk_nrm;refine tM (y:=.agg #[.int .i64 5,.string x]) rfl rfl rfl ai (fun w1=>by simp[go_sem,Act.eval]) (fun w1=>by simp[go_sem,Act.eval]) ?_;walk_nrm;refine tM (y:=.bool false) rfl rfl rfl ai (fun w1=>by simp[go_sem,Act.eval,aaB]) (fun w1=>by simp[go_sem,Act.eval,aaC,aas]) ?_;walk_nrm;refine cd fun σ o10 Ws kP hS=>?_;obtain⟨rfl,rfl⟩:=hS;clear kP;simp only[gN,cZ,if_true,if_false,reduceIte,Nat.reduceEqDiff];refine aA ?_;refine rdC C8 oD7 cD0 fun _=>?_;refine aA ?_;refine rdC C8 oD7 cD0 fun _=>?_;refine aA ?_;exact⟨eX,eX,aC,aC,aC,aC,(-1),s2.time,s2.time,true,s2,_,YT,YU,My,aC,aC,aC,aC,ahw,ZY,Mz⟩
 ·have Y3:IntKind.i64.wrap (2*(want.length:Int))=2*(want.length:Int):=by rw[IntKind.wrap_i64]<;>omega
  have hnk:¬(want.length:Int)+(want.length:Int)<0:=aa;have PT:¬(want.length:Int)+(want.length:Int)<(want.length:Int):=aa;have xD:¬(want.length:Int)+(want.length:Int)<2*(want.length:Int):=aa;refine aA ?_;refine dq mixed af [some none,some none,some none,some none,some none,some (some undef),some (some undef),some (some undef),some (some undef),some (some undef),some (some undef),some (some undef),some (some undef),some (some undef),some none,some none]
   (S:=fun σ o' w'=>o7=o'/\w8=w') ⟨rfl,rfl⟩ fun v9=>?_
  refine dp ?_;refine tM (y:=.int .i64 ((want.length:Int)+(want.length:Int))) rfl rfl rfl ai (fun w1=>by simp[go_sem,Act.eval]) (fun w1=>by simp[go_sem,Act.eval]) ?_;walk_nrm;refine tM (y:=.int .i64 (want.length:Int)) rfl rfl rfl ai (fun w1=>by simp[go_sem,Act.eval]) (fun w1=>by simp[go_sem,Act.eval]) ?_;walk_nrm;refine tM (y:=.int .i64 (2*(want.length:Int))) rfl rfl rfl ai (fun w1=>by simp[go_sem,Act.eval,Y3]) (fun w1=>by simp[go_sem,Act.eval,Y3]) ?_;walk_nrm;refine tM (y:=.bool false) rfl rfl rfl ai (fun w1=>by simp[go_sem,Act.eval,xD]) (fun w1=>by simp[go_sem,Act.eval,xD]) ?_;walk_nrm;refine tM (y:=.bool false) rfl rfl rfl ai (fun w1=>by simp[go_sem,Act.eval]) (fun w1=>by simp[go_sem,Act.eval]) ?_;walk_nrm;refine Xz rfl rfl ai ?_;walk_nrm;refine Xz rfl rfl ai ?_;walk_nrm;refine Xz rfl rfl ai ?_;walk_nrm;refine Xz rfl rfl ai ?_;walk_nrm;refine Xz rfl rfl ai ?_;walk_nrm;refine Xz rfl rfl ai ?_;walk_nrm;refine Xz rfl rfl ai ?_;walk_nrm;refine Xz rfl rfl ai ?_;walk_nrm;refine Xz rfl rfl ai ?_;walk_nrm;refine tM (y:=.bool false) rfl rfl rfl ai (fun w1=>by simp[go_sem,Act.eval]) (fun w1=>by simp[go_sem,Act.eval]) ?_;walk_nrm;refine tM (y:=.bool false) rfl rfl rfl ai (fun w1=>by simp[go_sem,Act.eval]) (fun w1=>by simp[go_sem,Act.eval]) ?_;walk_nrm;refine cd fun σ o10 Ws kP hS=>?_;obtain⟨rfl,rfl⟩:=hS;clear kP;simp only[gN,cZ,if_true,if_false,reduceIte,Nat.reduceEqDiff];refine aA ?_;refine aP aX C8 rfl ai ai ?_ rfl (v:=.agg #[.int .i64 6,.string aN]) (fun wl aE=>by simp[go_sem,(aE.cell oD7).trans cD0,(aE.cell oD7).trans cD1]) fun _=>?_
  ·exact cj (aH oD7)
  refine aA ?_;refine DN W (v:=.bool false) rfl ai (fun w3=>by simp[go_sem,aaB];rfl) (fun w3=>by simp[go_sem,aaC,aas]) ?_;refine aA ?_;refine rdC C8 oD7 cD0 fun _=>?_;refine aA ?_;refine rdC C8 oD7 cD0 fun _=>?_;refine aA ?_;exact⟨eX,eX,aC,aC,aC,aC,(-1),s2.time,since,false,s2,_,YT,YU,My,aC,aC,aC,aC,ahw,ZY,Mz⟩
end
open Go
section
open YtgjekaaknjgnmaaGreatDoor
theorem abv:xy 11 Tryz.f11:=fun Fin o w hF pow p b off c rw hR q qb Dl d xs hX=>by
 letI:Go.ConcR.Payload:=⟨0⟩
 exact acb hF pow p b off c rw hR q qb Dl d xs hX
theorem paced_done:Rows.PacedCardSaid:=abe abv
end
end Go.Proofs.Kz
namespace Go.Proofs.YtgjekaaknjgnmaaGreatDoor
theorem paced_claim:Rows.PacedCardSaid:=Go.Proofs.Kz.paced_done
end Go.Proofs.YtgjekaaknjgnmaaGreatDoor
