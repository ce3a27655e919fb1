import Derived.Test.YtlmcodagfhdncaaGreatA5
import Derived.KernelRfl
import Derived.Test.YtlmcodagfhdncaaGreatProg
import Derived.Test.YtlmcodagfhdncaaGreatRsFe
import Derived.Test.YtlmcodagfhdncaaGreatRsFf
import Derived.Test.YtlmcodagfhdncaaGreatRsFg
set_option linter.unusedVariables false
set_option linter.unusedSimpArgs false

namespace Go.Vm.Mo
open Go
set_option linter.unusedVariables false
theorem ok5:PureOk Proofs.Tryz.prog 5 p5:=qac kl5_8_ok.base (T:=fun(d:Tys.data as5)=>t5 d.1.1 d.1.2.1 d.2.1.1 d.2.1.2.1) (by kernel_rfl) (fun(d:Tys.data as5)=>wP ((wk5n0 d.1.1 d.1.2.1 d.2.1.1 d.2.1.2.1).append ((wk5n1 d.1.1 d.1.2.1 d.2.1.1 d.2.1.2.1).append ((wk5n2 d.1.1 d.1.2.1 d.2.1.1 d.2.1.2.1).append ((wk5n3 d.1.1 d.1.2.1 d.2.1.1 d.2.1.2.1).append ((wk5n4 d.1.1 d.1.2.1 d.2.1.1 d.2.1.2.1).append ((wk5n5 d.1.1 d.1.2.1 d.2.1.1 d.2.1.2.1).append ((wk5n6 d.1.1 d.1.2.1 d.2.1.1 d.2.1.2.1).append ((wk5n7 d.1.1 d.1.2.1 d.2.1.1 d.2.1.2.1).append ((wk5n8 d.1.1 d.1.2.1 d.2.1.1 d.2.1.2.1).append ((wk5n9 d.1.1 d.1.2.1 d.2.1.1 d.2.1.2.1).append ((wk5n10 d.1.1 d.1.2.1 d.2.1.1 d.2.1.2.1).append (wk5n11 d.1.1 d.1.2.1 d.2.1.1 d.2.1.2.1)))))))))))) (by kernel_rfl))
end Go.Vm.Mo
