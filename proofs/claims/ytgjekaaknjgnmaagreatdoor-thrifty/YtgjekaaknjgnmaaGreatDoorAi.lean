import Derived.Test.YtgjekaaknjgnmaaGreatDoorAh
set_option linter.all false
set_option maxHeartbeats 40000000
set_option maxRecDepth 200000
namespace Go.Proofs.Kz
open Go.Proofs.Tryz
open Go.Proofs.Tryz renaming prog → ax
open _root_.ByteArray renaming empty → aR
open _root_.Option renaming some → so,none → we
open Go Go.Ren Go.Conc Go.Proofs Go.ConcN
section
open Go.ChangeShapes Go.WideShapes Go.Deep Go.RowKit Go.ConcM
open YtgjekaaknjgnmaaGreatDoor
def DR(hb:vc 6 Tryz.f6)(os:Os)(started:os.Started)(H:Type)(enc:TypeId×Value->H)(F:Stop.Interp):
  ReturnsInLeavingWide Rows.thriftyRow.assume Tryz.checked os 6 .any (λw args=>(Rows.thriftySpec.pre enc ax Tryz.f6 [] false w args/\laidMetH ax Vl w)/\sizedMet enc ax Tryz.f6 (OpenSpec.ofChange Rows.thriftySpec) false w args)
   ((OpenSpec.ofChange Rows.thriftySpec).postWith enc ax Tryz.f6 F (outsideKept [.timePasses]) false true false) :=
 mL (C:=Tryz.checked) Vm started func6
  (ChangeSpec.HD (C:=Tryz.checked) (World.doorLaid ax 400 os) #[.slice we 0 0,.slice we 0 0,.int .i64 0,.int .i64 0,.bool false] 8 rfl (World.shaped_of_RefB ai ai) ai ai ai (Vn os _))
  (λW base args ds gs before nK hW hwt hl tJ=>Re func6 ai params6 ai rfl (λ_ _ _ _ _ _=>rfl) hb W base args ds gs before nK hW hwt hl tJ)
def EY(hb:vc 6 Tryz.f6):Rows.ThriftySaid :=
 OpenClaim.holds_of_wide_leaving_time 6 Tryz.f6 rfl rfl rfl rfl rfl rfl rfl ⟨rfl,rfl,rfl,rfl,rfl⟩ rfl rfl rfl rfl rfl ai func6 ai
  (dP ai) (by unfold Func.isWrapper;first|(rw[if_pos (by decide +kernel)];kernel_rfl)|(rw[if_neg (by decide +kernel)];exact⟨rfl,rfl⟩))
  (λos started H enc _ F=>DR hb os started H enc F)
def HF(hb:vc 6 Tryz.f6):Rows.ThriftyCardSaid :=
 Rc .later [.data,.data,.data] true (true,"272f22f5bcccea6d7e0721f040c47d03f23f0294770f25dab8d2c470e10df7bb") false
  (EY hb) ai thrifty_row_tie rfl ⟨rfl,rfl⟩ ai rfl
  (λf fn hf rG=>by
   obtain rfl:f=6:=aT ((show ax.funcNamed "kiln/kilnkeep.Thrifty" = so 6 by kernel_rfl).symm.trans hf) |>.symm;obtain rfl:fn=Tryz.f6:=(aT (Tryz.func6.symm.trans rG)).symm;exact⟨ai,λj t ht=>by
    rw[params6]at ht;have hm:t∈[25,26,3,3,4]:=by simpa using fg ht
    have iJ:([25,26,3,3,4].all λu=>!ax.wantsStandIn u)=true:=ai;exact(show ax.wantsStandIn t=false by simpa using aaA.1 iJ t hm)⟩)
  ai
end
end Go.Proofs.Kz
