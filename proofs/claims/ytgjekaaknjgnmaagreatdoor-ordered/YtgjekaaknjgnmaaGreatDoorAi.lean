import Derived.Test.YtgjekaaknjgnmaaGreatDoorAh
set_option linter.all false
set_option maxHeartbeats 40000000
set_option maxRecDepth 200000
namespace Go.Proofs.Kz
open Go.Proofs.Tryz
open Go.Proofs.Tryz renaming prog → au
open _root_.ByteArray renaming empty → aO
open Go Go.Ren Go.Conc Go.Proofs Go.ConcN
section
open Go.ChangeShapes Go.WideShapes Go.Deep Go.RowKit Go.ConcM
open YtgjekaaknjgnmaaGreatDoor
theorem lW(hb:gp 5 Tryz.f5)(os:Os)(started:os.Started)(H:Type)(enc:TypeId×Value->H)(F:Stop.Interp):
  ReturnsInLeavingWide Rows.orderedRow.assume Tryz.checked os 5 .any (fun w args=>(Rows.orderedSpec.pre enc au Tryz.f5 [] false w args/\laidMetH au Ox w)/\sizedMet enc au Tryz.f5 (OpenSpec.ofChange Rows.orderedSpec) false w args)
   ((OpenSpec.ofChange Rows.orderedSpec).postWith enc au Tryz.f5 F (outsideKept [.timePasses]) false true false) :=
 ja (C:=Tryz.checked) Kt started func5
  (ChangeSpec.yQ (C:=Tryz.checked) (World.doorLaid au 400 os) #[.slice none 0 0,.slice none 0 0,.string aO] 8 rfl (World.shaped_of_RefB ah ah) ah ah ah (Kv os _))
  (fun W base args ds gs before oB hW hwt hl tf=>aau func5 ah params5 ah rfl (fun _ _ _ _=>rfl) hb W base args ds gs before oB hW hwt hl tf)
theorem oL(hb:gp 5 Tryz.f5):Rows.OrderedSaid :=
 OpenClaim.holds_of_wide_leaving_time 5 Tryz.f5 rfl rfl rfl rfl rfl rfl rfl ⟨rfl,rfl,rfl,rfl,rfl⟩ rfl rfl rfl rfl rfl ah func5 ah
  (fo ah) (by unfold Func.isWrapper;first|(rw[if_pos (by decide +kernel)];kernel_rfl)|(rw[if_neg (by decide +kernel)];exact⟨rfl,rfl⟩))
  (fun os started H enc _ F=>lW hb os started H enc F)
theorem P2(hb:gp 5 Tryz.f5):Rows.OrderedCardSaid :=
 FK .later [.data,.data,.data] true (true,"272f22f5bcccea6d7e0721f040c47d03f23f0294770f25dab8d2c470e10df7bb") false
  (oL hb) ah ordered_row_tie rfl ⟨rfl,rfl⟩ ah rfl
  (fun f fn hf qC=>by
   obtain rfl:f=5:=aQ ((show au.funcNamed "kiln/kilnkeep.Ordered" = some 5 by kernel_rfl).symm.trans hf) |>.symm;obtain rfl:fn=Tryz.f5:=(aQ (Tryz.func5.symm.trans qC)).symm;exact⟨ah,fun j t ht=>by
    rw[params5] at ht;have hm:t∈[25,26,9]:=by simpa using dW ht
    have iB:([25,26,9].all fun u=>!au.wantsStandIn u)=true:=ah;exact(show au.wantsStandIn t=false by simpa using List.all_eq_true.1 iB t hm)⟩)
  ah
end
end Go.Proofs.Kz
