import Derived.Test.YtgjekaaknjgnmaaGreatDoorAi
set_option linter.all false
set_option maxHeartbeats 32000000
set_option maxRecDepth 100000
namespace Go.Proofs.Kz
open Go.Proofs.Tryz
open Go.Proofs.Tryz renaming prog → ak
open _root_.ByteArray renaming empty → bF
open _root_.Option renaming some → so,none → we
open Go.Ren Go.Conc Go.Proofs Go.ConcN
open Go.ConcR (Payload)
def UN[Payload]{Fin:br}{o:aL}{w:ae}(hF:bJ ak L0 o w)(hT:nC w)(K5:jM w){p:Option Addr}{b off c:Nat}{xs:List vS}(hS:vT Fin o w p b off c xs):
  FV ak (XB ak Fin 0) 3 Tryz.f3 #[.slice p xs.length c] o w λv o' w'=>v=.bool true/\fl w w':=by
 have W:=bZ (P:=ak) (Fin:=Fin) (d:=0);refine⟨_,aG,?_⟩;walk_nrmf Tryz.f3;refine aD ?_;refine dq func12 (Xq hF hT K5 hS) ?_;rintro v1 o1 w1 ⟨rfl,hO⟩;refine aD ?_;exact⟨.inr trivial,trivial,_,resultsC_tmp (t:=2) aG _,ax,hO⟩
open Go
section
open YtgjekaaknjgnmaaGreatDoor
def La:vq 3 Tryz.f3:=λFin o w hF pow tab p b off c xs hS=>by
 letI:Go.ConcR.Payload:=⟨0⟩
 exact UN hF tab pow hS
def cleans_done:Rows.CleansCardSaid:=K8 La
end
end Go.Proofs.Kz
namespace Go.Proofs.YtgjekaaknjgnmaaGreatDoor
theorem cleans_claim:Rows.CleansCardSaid:=Go.Proofs.Kz.cleans_done
end Go.Proofs.YtgjekaaknjgnmaaGreatDoor
