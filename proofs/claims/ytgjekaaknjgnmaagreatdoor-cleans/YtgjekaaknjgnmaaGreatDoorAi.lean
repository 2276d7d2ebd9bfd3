import Derived.Test.YtgjekaaknjgnmaaGreatDoorAh
set_option linter.all false
set_option maxHeartbeats 32000000
set_option maxRecDepth 100000
namespace Go.Proofs.Kz
open Go.Proofs.Tryz
open Go.Proofs.Tryz renaming prog → ak
open _root_.ByteArray renaming empty → bF
open _root_.Option renaming some → so,none → we
open Go Go.Ren Go.Conc Go.Proofs Go.ConcN
section
open Go.ChangeShapes Go.WideShapes Go.Deep Go.RowKit Go.ConcM
open YtgjekaaknjgnmaaGreatDoor
def EW(hb:vq 3 Tryz.f3)(os:Os)(started:os.Started)(H:Type)(enc:TypeId×Value->H)(F:Stop.Interp):
  ReturnsInLeavingWide Rows.cleansRow.assume Tryz.checked os 3 .any (λw args=>(Rows.cleansSpec.pre enc ak Tryz.f3 [] false w args/\laidMetH ak T3 w)/\sizedMet enc ak Tryz.f3 (OpenSpec.ofChange Rows.cleansSpec) false w args)
   ((OpenSpec.ofChange Rows.cleansSpec).postWith enc ak Tryz.f3 F (outsideKept [.timePasses]) false true false) :=
 nF (C:=Tryz.checked) T4 started func3
  (ChangeSpec.Hq (C:=Tryz.checked) (World.doorLaid ak 400 os) #[.slice we 0 0] 8 rfl (World.shaped_of_RefB ah ah) ah ah ah (T6 os _))
  (λW base args ds gs before qP hW hwt hl tZ=>Rp func3 ah params3 ah rfl (λ_ _=>rfl) hb W base args ds gs before qP hW hwt hl tZ)
def HL(hb:vq 3 Tryz.f3):Rows.CleansSaid :=
 OpenClaim.holds_of_wide_leaving_time 3 Tryz.f3 rfl rfl rfl rfl rfl rfl rfl ⟨rfl,rfl,rfl,rfl,rfl⟩ rfl rfl rfl rfl rfl ah func3 ah
  (fR ah) (by unfold Func.isWrapper;first|(rw[if_pos (by decide +kernel)];kernel_rfl)|(rw[if_neg (by decide +kernel)];exact⟨rfl,rfl⟩))
  (λos started H enc _ F=>EW hb os started H enc F)
def K8(hb:vq 3 Tryz.f3):Rows.CleansCardSaid :=
 QO .later [.data,.data,.data] true (true,"272f22f5bcccea6d7e0721f040c47d03f23f0294770f25dab8d2c470e10df7bb") false
  (HL hb) ah cleans_row_tie rfl ⟨rfl,rfl⟩ ah rfl
  (λf fn hf sr=>by
   obtain rfl:f=3:=aP ((show ak.funcNamed "kiln/kilnlaw.Cleans" = so 3 by kernel_rfl).symm.trans hf) |>.symm;obtain rfl:fn=Tryz.f3:=(aP (Tryz.func3.symm.trans sr)).symm;exact⟨ah,λj t ht=>by
    rw[params3]at ht;have hm:t∈[22]:=by simpa using fI ht
    have eP:([22].all λu=>!ak.wantsStandIn u)=true:=ah;exact(show ak.wantsStandIn t=false by simpa using fY.1 eP t hm)⟩)
  ah
end
end Go.Proofs.Kz
