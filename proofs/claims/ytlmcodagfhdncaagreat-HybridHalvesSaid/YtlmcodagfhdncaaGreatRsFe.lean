import Derived.Test.YtlmcodagfhdncaaGreatA5
import Derived.KernelRfl
import Derived.Test.YtlmcodagfhdncaaGreatProg
import Derived.Test.YtlmcodagfhdncaaGreatRsFd
set_option linter.unusedVariables false
set_option linter.unusedSimpArgs false

namespace Go.Vm.Mo
open Go
set_option linter.unusedVariables false
theorem wk5n0(x0:(List Int))(x0':List Int)(x1:Int)(x1':Int):Walks (runPure (kl5_8 Proofs.Tryz.prog).orc Proofs.Tryz.prog 400 5 as5 rs5 ((x0,x0',()),(x1,x1',()),())) (t5 x0 x0' x1 x1') [(bl 1 1,1::2::2::ww3x),(bl 3 6,ww3y),(bl 11 2042,pk 13 0 0x1084210842108421 ww3z),(bl 12 3066,pk 9 0 1134979744801 ww40),(bl 13 5114,pk 7 13 17717822497 ww41),(bl 15 25594,1::ww42),(bl 16 41978,ww43),(bl 18 205818,ww44),(bl 26 66921466,1::52::52::ww45),(bl 28 234693626,ww47),(bl 28 100475898,54::ww47),(bl 28 167584762,pk 20 28 0x8402108421084210842108421 ww48),(bl 30 838673402,pk 15 30 0x4210842100842108421 ww49),(bl 35 33587799034,1::ww4b),(bl 36 50767668218,ww4c),(bl 40 1047200080890,1::ww4d)]:=by
 repeat refine⟨by kernel_rfl,?_⟩
 exact trivial
theorem wk5n1(x0:(List Int))(x0':List Int)(x1:Int)(x1':Int):Walks (runPure (kl5_8 Proofs.Tryz.prog).orc Proofs.Tryz.prog 400 5 as5 rs5 ((x0,x0',()),(x1,x1',()),())) (t5 x0 x0' x1 x1') [(bl 41 1596955894778,ww4e),(bl 50 1124198327854074,ww4h),(bl 60 1152356853074437114,1::120::120::ww4k),(bl 62 4034660614591554554,ww4l),(bl 64 15563875660660024314,ww4m),(bl 68 283041664729448522746,ww4n),(bl 72 4562686289830064497658,ww4o),(bl 73 6923869531264887104506,ww4p),(bl 75 30535701945613113172986,ww4q),(bl 75 11646236014134532318202,ww4q),(bl 60 864126476922725370,ww4j),(bl 62 3746430238439842810,ww4r),(bl 66 70615877505636967418,ww4s),(bl 67 107509365653056070650,ww4t),(bl 69 476444247127247102970,ww4u),(bl 69 181296341947894277114,ww4u)]:=by
 repeat refine⟨by kernel_rfl,?_⟩
 exact trivial
theorem wk5n2(x0:(List Int))(x0':List Int)(x1:Int)(x1':Int):Walks (runPure (kl5_8 Proofs.Tryz.prog).orc Proofs.Tryz.prog 400 5 as5 rs5 ((x0,x0',()),(x1,x1',()),())) (t5 x0 x0' x1 x1') [(bl 53 7316647815488506,ww4v),(bl 57 137921037009232890,ww4w),(bl 58 209978631047160826,ww4x),(bl 60 930554571426440186,ww4y),(bl 60 354093819123016698,ww4y),(bl 59 576177575747724282,1::118::118::ww51),(bl 61 2017329456506283002,ww52),(bl 63 7781936979540517882,ww53),(bl 67 141520831513934767098,ww54),(bl 71 2281343144064242754554,ww55),(bl 72 3461934764781654057978,ww56),(bl 74 15267850971955767092218,ww57),(bl 74 5823118006216476664826,ww57),(bl 59 432062387671868410,ww50),(bl 61 1873214268430427130,ww58),(bl 65 35307937902028989434,ww59)]:=by
 repeat refine⟨by kernel_rfl,?_⟩
 exact trivial
theorem wk5n3(x0:(List Int))(x0':List Int)(x1:Int)(x1':Int):Walks (runPure (kl5_8 Proofs.Tryz.prog).orc Proofs.Tryz.prog 400 5 as5 rs5 ((x0,x0',()),(x1,x1',()),())) (t5 x0 x0' x1 x1') [(bl 66 53754681975738541050,ww5a),(bl 68 238222122712834057210,ww5b),(bl 68 90648170123157644282,ww5b),(bl 52 3657473118249978,ww5c),(bl 56 68959667715122170,ww5d),(bl 57 104988464734086138,ww5e),(bl 59 465276434923725818,ww5f),(bl 59 177046058772014074,ww5f),(bl 50 1119800281342970,ww5h),(bl 60 1152352455027926010,1::120::120::ww5k),(bl 62 4034656216545043450,ww5l),(bl 64 15563871262613513210,ww5m),(bl 68 283041660331402011642,ww5n),(bl 72 4562686285432017986554,ww5o),(bl 73 6923869526866840593402,ww5p),(bl 75 30535701941215066661882,ww5q)]:=by
 repeat refine⟨by kernel_rfl,?_⟩
 exact trivial
end Go.Vm.Mo
