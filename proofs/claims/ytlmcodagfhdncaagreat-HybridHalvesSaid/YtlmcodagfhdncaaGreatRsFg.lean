import Derived.Test.YtlmcodagfhdncaaGreatA5
import Derived.KernelRfl
import Derived.Test.YtlmcodagfhdncaaGreatProg
import Derived.Test.YtlmcodagfhdncaaGreatRsFd
set_option linter.unusedVariables false
set_option linter.unusedSimpArgs false

namespace Go.Vm.Mo
open Go
set_option linter.unusedVariables false
theorem wk5n8(x0:(List Int))(x0':List Int)(x1:Int)(x1':Int):Walks (runPure (kl5_8 Proofs.Tryz.prog).orc Proofs.Tryz.prog 400 5 as5 rs5 ((x0,x0',()),(x1,x1',()),())) (t5 x0 x0' x1 x1') [(bl 63 7492857073890042874,ww7d),(bl 67 141231751608284292090,ww7e),(bl 68 215018727903122498554,ww7f),(bl 70 952888490851504563194,ww7g),(bl 70 362592680492798911482,ww7g),(bl 54 14629892641334266,ww7h),(bl 58 275838671028823034,ww7i),(bl 59 419953859104678906,ww7j),(bl 61 1861105739863237626,ww7k),(bl 61 708184235256390650,ww7k),(bl 52 4479201293706234,ww7m),(bl 62 4609409820280038394,1::124::124::ww7p),(bl 64 16138624866348508154,ww7q),(bl 66 62255485050622387194,ww7r),(bl 70 1132166641325776380922,ww7s),(bl 74 18250745141728240280570,ww7t)]:=by
 repeat refine⟨by kernel_rfl,?_⟩
 exact trivial
theorem wk5n9(x0:(List Int))(x0':List Int)(x1:Int)(x1':Int):Walks (runPure (kl5_8 Proofs.Tryz.prog).orc Proofs.Tryz.prog 400 5 as5 rs5 ((x0,x0',()),(x1,x1',()),())) (t5 x0 x0' x1 x1') [(bl 75 27695478107467530707962,ww7u),(bl 77 122142807764860434981882,ww7v),(bl 77 46584944038946111562746,ww7v),(bl 62 3456488315673191418,ww7o),(bl 64 14985703361741661178,ww7w),(bl 68 282463492430530159610,ww7x),(bl 69 430037445020206572538,ww7y),(bl 71 1905776970916970701818,ww7z),(bl 71 725185350199559398394,ww7z),(bl 55 29248999244243962,ww80),(bl 59 551666556019221498,ww81),(bl 60 839896932170933242,ww82),(bl 62 3722200693688050682,ww83),(bl 62 1416357684474356730,ww83),(bl 61 2304692710973187066,1::122::122::ww86),(bl 63 8069300234007421946,ww87)]:=by
 repeat refine⟨by kernel_rfl,?_⟩
 exact trivial
theorem wk5n10(x0:(List Int))(x0':List Int)(x1:Int)(x1':Int):Walks (runPure (kl5_8 Proofs.Tryz.prog).orc Proofs.Tryz.prog 400 5 as5 rs5 ((x0,x0',()),(x1,x1',()),())) (t5 x0 x0' x1 x1') [(bl 65 31127730326144361466,ww88),(bl 69 566083308463721358330,ww89),(bl 73 9125372558664953308154,ww8a),(bl 74 13847739041534598521850,ww8b),(bl 76 61071403870231050658810,ww8c),(bl 76 23292472007273888949242,ww8c),(bl 61 1728231958669763578,ww85),(bl 63 7492839481703998458,ww8d),(bl 67 141231734016098247674,ww8e),(bl 68 215018710310936454138,ww8f),(bl 70 952888473259318518778,ww8g),(bl 70 362592662900612867066,ww8g),(bl 54 14612300455289850,ww8h),(bl 58 275821078842778618,ww8i),(bl 59 419936266918634490,ww8j),(bl 61 1861088147677193210,ww8k)]:=by
 repeat refine⟨by kernel_rfl,?_⟩
 exact trivial
theorem wk5n11(x0:(List Int))(x0':List Int)(x1:Int)(x1':Int):Walks (runPure (kl5_8 Proofs.Tryz.prog).orc Proofs.Tryz.prog 400 5 as5 rs5 ((x0,x0',()),(x1,x1',()),())) (t5 x0 x0' x1 x1') [(bl 61 708166643070346234,ww8k)]:=
 ⟨by kernel_rfl,trivial⟩
end Go.Vm.Mo
