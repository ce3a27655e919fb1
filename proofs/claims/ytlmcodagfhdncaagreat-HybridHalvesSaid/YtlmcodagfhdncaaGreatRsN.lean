import Derived.Test.YtlmcodagfhdncaaGreatRsM
import Derived.Test.YtlmcodagfhdncaaGreatRsFh
set_option linter.unusedVariables false
set_option linter.unusedSimpArgs false

namespace Go.Vm.Mo
open Go
set_option linter.unusedVariables false
set_option linter.unusedSimpArgs false
theorem qbt{a b:Nat}(h:a≤b):Nat.ble a b=true:=Nat.ble_eq_true_of_le h
theorem qbC{a b:Nat}(h:a=b):Nat.beq a b=true:=by subst h;exact Nat.beq_refl a
theorem qbF{a b:Nat}(h:a≠b):Nat.beq a b=false:=by
 cases e:Nat.beq a b with
 |false=>rfl
 |true=>exact absurd (Nat.eq_of_beq_eq_true e) h
theorem qbA{a b:Nat}(h:b<a):Nat.ble a b=false:=by
 cases e:Nat.ble a b with
 |false=>rfl
 |true=>exact absurd (Nat.le_of_ble_eq_true e) (by omega)
theorem qvk{F:List Int}(u:List Fr)(K:List Int)(nK:Nat)(hF:F.length≤1000)(hb:∀i,i<F.length→(2*F.getD i 0).natAbs≤2000):l5_6 ((u,(0:Int),()),(nK,F.length,()),K,F,())=match dF1 F with
  |some k=>some (.inr ((true,()),(nK,F.length,()),K,dbI F (k+1),()))
  |none=>some (.inl ((u,()),(nK,F.length,()),K,dbl F,())):=by
 have key:=qbl (step:=s5_6) (fun i=>((u,(i:Int),()),(nK,F.length,()),K,dbI F i,())) (fun i=>decide (1000<(2*F.getD i 0).natAbs)) (fun k=>((true,()),(nK,F.length,()),K,dbI F (k+1),())) (n:=F.length) (m:=rounds) (b:=((u,()),(nK,F.length,()),K,dbl F,())) ?_ ?_ (qal (by omega))
 ·simp only[qqV]at key
  exact key
 ·intro i hi
  have hbi:=hb i hi
  have b0:(!decide ((F.length:Int)≤(i:Int)))=true:=nT (by omega)
  have b1:(decide ((0:Int)≤(i:Int))&&decide ((i:Int)<(F.length:Int)))=true:=dA (by omega) (by omega)
  have hl:=qmp F i
  have hl1:=qmp F (i+1)
  have gd:=qta F hi
  have w:wrap64 (2*F.getD i 0)=2*F.getD i 0:=qab (by omega) (by omega)
  have st:=qov F hi
  have gd1:=qrH F hi
  have e46:=qpd (2*F.getD i 0) (by omega)
  have c1:Nat.ble (i+1) F.length=true:=qbt (by omega)
  simp only[s5_6,t5_6,Tr.val_test,Tr.val_fin,Tr.val_stop,qad,b0,b1,if_true,Int.toNat_natCast,Nat.zero_add,hl,c1,gd,w,st,hl1,gd1,g46,e46,Option.isSome_some,Option.getD_some,qai (show i≤9223372036854775806 by omega)]
  by_cases h:1000<(2*F.getD i 0).natAbs
  ·rw[if_pos (nT (by omega)),if_pos (decide_eq_true h)]
  ·rw[if_neg (by rw[nF (by omega)];decide),if_neg (by rw[decide_eq_false h];decide)]
 ·have b0:(!decide ((F.length:Int)≤(F.length:Int)))=false:=nF (by omega)
  simp only[s5_6,t5_6,Tr.val_test,Tr.val_fin,Tr.val_stop,qad,b0,if_false,Bool.false_eq_true,qs5]
theorem w64_at{n:Nat}(h:n≤1000000):wrap64 ((n:Int)+1)=((n+1:Nat):Int):=qai (by omega)
set_option maxRecDepth 10000 in
set_option maxHeartbeats 40000000 in
theorem qvp{K F:List Int}(v:VC K F)(x x':Int):f5 ((K,F,()),(x,x',()),())=some (true,()):=by
 have h6:=v.n6
 have n0:=v.n0
 have hf:=v.fl
 have hml:=qam K F 0 K.length
 have e35:f35 ((K,F,()),())=some ((0:Int),()):=by rw[qr5 K F (by omega),qq2 v]
 have e26:=qso v
 have e26r:=qtu v
 have e36:=quU v
 have l0:=qvm v 0 x x' ((yld K).den:Int) (yld K).num
 have l2:=qvo v x x'
 have e22:=qcM v
 obtain⟨n,hxn⟩:∃n:Nat,x%(K.length:Int)=(n:Int):=⟨(x%(K.length:Int)).toNat,by have:=Int.emod_nonneg x (show(K.length:Int)≠0 by omega);omega⟩
 have hn:n<K.length:=by have:=Int.emod_lt_of_pos x (show 0<(K.length:Int)by omega);omega
 have e38:=qsg x K.length (by omega) (by omega)
 rw[hxn]at e38
 obtain⟨a,hxa⟩:∃a:Nat,x'%(K.length:Int)=(a:Int):=⟨(x'%(K.length:Int)).toNat,by have:=Int.emod_nonneg x' (show(K.length:Int)≠0 by omega);omega⟩
 have ha:a<K.length:=by have:=Int.emod_lt_of_pos x' (show 0<(K.length:Int)by omega);omega
 have e38b:=qsg x' K.length (by omega) (by omega)
 rw[hxa]at e38b
 have e23:=qt1 v hn
 have b6:(!decide ((K.length:Int)≤6))=false:=nF (by omega)
 have den0:decide (((yld K).den:Int)≤0)=false:=dF (by have:=(yld K).den_pos;omega)
 have same:(!(((yld K).den:Int)==((yld K).den:Int)&&((yld K).num==(yld K).num&&true)))=false:=by simp
 have wn:wrap64 ((n:Int)+1)=((n+1:Nat):Int):=qai (by omega)
 rcases qaA (mvL K F 0 K.length)with hl|hl
 rotate_left
 ·rw[if_neg (by rw[hl];decide)]at e22 e23
  simp(disch:=omega) only[f5,t5,t5_c0,t5_c1,t5_c2,t5_c3,t5_c4,t5_c5,t5_c6,t5_c7,t5_c8,t5_c9,t5_c10,t5_c11,Tr.val_test,Tr.val_fin,Tr.val_stop,qad,qag,b6,g35,e35,g26,e26,e26r,l0,qax,qas,b5_0,r5_2,b5_2,outB,outR,same,g36,e36,den0,l2,g22,e22,g38,e38,g23,e23,Option.isSome_some,Option.getD_some,Int.toNat_natCast,List.nil_append,Nat.zero_add,hf,hml,List.length_set,dT,dF,qbt,qbC,qbF,qbA,Bool.and_self,Bool.and_true,Bool.true_and,Bool.not_true,Bool.not_false,Bool.false_eq_true,Bool.and_false,↓reduceIte,wn,decide_true,decide_false,beq_self_eq_true]
 rw[if_pos hl]at e22 e23
 have e39:=qjZ (K:=K) (F:=F) (g:=0) (n:=K.length) (by omega) hl
 have e31:=qq3 (mvL K F 0 K.length) (by omega)
 have hap:(mvL K F 0 K.length).take (n+1)++(mvL K F 0 K.length).drop (n+1)=mvL K F 0 K.length:=List.take_append_drop _ _
 have hLl:((mvL K F 0 K.length).take (n+1)).length=n+1:=by rw[List.length_take];omega
 have hUl:((mvL K F 0 K.length).drop (n+1)).length=K.length-(n+1):=by rw[List.length_drop,hml]
 have e24:=qsL v hn hl
 have bd:=qk2 hl ha
 have q0:=qbb K F 0 K.length a ha
 have e56:=qvk (mvL K F 0 K.length) K K.length (F:=F) (by omega) (qsT v)
 have hdK:(K.drop (n+1)).length=K.length-(n+1):=List.length_drop ..
 have hdF:(F.drop (n+1)).length=K.length-(n+1):=by rw[List.length_drop,hf]
 rw[hf]at e56
 rcases Nat.lt_or_ge n a with hle|hle
 ·have q1:=(qsQ (mvL K F 0 K.length) (show n+1≤a by omega)).trans q0
  have e41:=qrD (mvR K F 0 (a+1)) bd.1 bd.2
  have w1:wrap64 (wrap64 ((a:Int)-(n:Int))-1)=((a-(n+1):Nat):Int):=by rw[qab (n:=(a:Int)-(n:Int)) (by omega) (by omega),qab (by omega) (by omega)];omega
  obtain⟨i,dd,e24b,hd⟩:=qtZ v hle ha hl
  simp only[pr]at e24b e41
  rcases hd with rfl|rfl
  ·skip
   by_cases hN:n+1<K.length
   ·have vd:=qjA v hN
    have e22d:=qcM vd
    rw[hdK]at e22d
    have hvl:=qam (K.drop (n+1)) (F.drop (n+1)) 0 (K.length-(n+1))
    rcases qaA (mvL (K.drop (n+1)) (F.drop (n+1)) 0 (K.length-(n+1)))with hv|hv
    ·rw[if_pos hv]at e22d
     have e39d:=qjZ (K:=K.drop (n+1)) (F:=F.drop (n+1)) (g:=0) (n:=K.length-(n+1)) (by omega) hv
     have l4:=qrG (K:=K) (F:=F) (by omega) hN hl hv ((mvL K F 0 K.length).take (n+1)) (sF F (n+1))
     cases hq:dF1 F with
     |some k=>
      rw[hq]at e56
      simp(disch:=omega) only[f5,t5,t5_c0,t5_c1,t5_c2,t5_c3,t5_c4,t5_c5,t5_c6,t5_c7,t5_c8,t5_c9,t5_c10,t5_c11,Tr.val_test,Tr.val_fin,Tr.val_stop,qad,qag,b6,g35,e35,g26,e26,e26r,l0,qax,qas,b5_0,r5_2,b5_2,outB,outR,same,g36,e36,den0,l2,g22,e22,g38,e38,g23,e23,Option.isSome_some,Option.getD_some,Int.toNat_natCast,List.nil_append,Nat.zero_add,hf,hml,List.length_set,dT,dF,qbt,qbC,qbF,qbA,Bool.and_self,Bool.and_true,Bool.true_and,Bool.not_true,Bool.not_false,Bool.false_eq_true,Bool.and_false,↓reduceIte,wn,decide_true,decide_false,beq_self_eq_true,g39,e39,g31,e31,hap,hLl,hUl,g24,e24,e38b,w1,g41,e41,q1,pr,e24b,hdK,hdF,e22d,hvl,e39d,l4,b5_4,r5_4,e56,r5_6,b5_6]
     |none=>
      rw[hq]at e56
      have vw:=qeO v hq
      have e22w:=qcM vw
      have hdl:(dbl F).length=K.length:=by rw[qcE,hf]
      have hwl:=qam K (dbl F) 0 K.length
      have e58:=qig (K:=K) (F:=F) (n:=K.length) (by omega) hl
      rcases qaA (mvL K (dbl F) 0 K.length)with hw|hw
      ·rw[if_pos hw]at e22w
       simp(disch:=omega) only[f5,t5,t5_c0,t5_c1,t5_c2,t5_c3,t5_c4,t5_c5,t5_c6,t5_c7,t5_c8,t5_c9,t5_c10,t5_c11,Tr.val_test,Tr.val_fin,Tr.val_stop,qad,qag,b6,g35,e35,g26,e26,e26r,l0,qax,qas,b5_0,r5_2,b5_2,outB,outR,same,g36,e36,den0,l2,g22,e22,g38,e38,g23,e23,Option.isSome_some,Option.getD_some,Int.toNat_natCast,List.nil_append,Nat.zero_add,hf,hml,List.length_set,dT,dF,qbt,qbC,qbF,qbA,Bool.and_self,Bool.and_true,Bool.true_and,Bool.not_true,Bool.not_false,Bool.false_eq_true,Bool.and_false,↓reduceIte,wn,decide_true,decide_false,beq_self_eq_true,g39,e39,g31,e31,hap,hLl,hUl,g24,e24,e38b,w1,g41,e41,q1,pr,e24b,hdK,hdF,e22d,hvl,e39d,l4,b5_4,r5_4,e56,r5_6,b5_6,hdl,e22w,hwl,e58]
      ·rw[if_neg (by rw[hw];decide)]at e22w
       simp(disch:=omega) only[f5,t5,t5_c0,t5_c1,t5_c2,t5_c3,t5_c4,t5_c5,t5_c6,t5_c7,t5_c8,t5_c9,t5_c10,t5_c11,Tr.val_test,Tr.val_fin,Tr.val_stop,qad,qag,b6,g35,e35,g26,e26,e26r,l0,qax,qas,b5_0,r5_2,b5_2,outB,outR,same,g36,e36,den0,l2,g22,e22,g38,e38,g23,e23,Option.isSome_some,Option.getD_some,Int.toNat_natCast,List.nil_append,Nat.zero_add,hf,hml,List.length_set,dT,dF,qbt,qbC,qbF,qbA,Bool.and_self,Bool.and_true,Bool.true_and,Bool.not_true,Bool.not_false,Bool.false_eq_true,Bool.and_false,↓reduceIte,wn,decide_true,decide_false,beq_self_eq_true,g39,e39,g31,e31,hap,hLl,hUl,g24,e24,e38b,w1,g41,e41,q1,pr,e24b,hdK,hdF,e22d,hvl,e39d,l4,b5_4,r5_4,e56,r5_6,b5_6,hdl,e22w,hwl]
    ·rw[if_neg (by rw[hv];decide)]at e22d
     cases hq:dF1 F with
     |some k=>
      rw[hq]at e56
      simp(disch:=omega) only[f5,t5,t5_c0,t5_c1,t5_c2,t5_c3,t5_c4,t5_c5,t5_c6,t5_c7,t5_c8,t5_c9,t5_c10,t5_c11,Tr.val_test,Tr.val_fin,Tr.val_stop,qad,qag,b6,g35,e35,g26,e26,e26r,l0,qax,qas,b5_0,r5_2,b5_2,outB,outR,same,g36,e36,den0,l2,g22,e22,g38,e38,g23,e23,Option.isSome_some,Option.getD_some,Int.toNat_natCast,List.nil_append,Nat.zero_add,hf,hml,List.length_set,dT,dF,qbt,qbC,qbF,qbA,Bool.and_self,Bool.and_true,Bool.true_and,Bool.not_true,Bool.not_false,Bool.false_eq_true,Bool.and_false,↓reduceIte,wn,decide_true,decide_false,beq_self_eq_true,g39,e39,g31,e31,hap,hLl,hUl,g24,e24,e38b,w1,g41,e41,q1,pr,e24b,hdK,hdF,e22d,e56,r5_6,b5_6]
     |none=>
      rw[hq]at e56
      have vw:=qeO v hq
      have e22w:=qcM vw
      have hdl:(dbl F).length=K.length:=by rw[qcE,hf]
      have hwl:=qam K (dbl F) 0 K.length
      have e58:=qig (K:=K) (F:=F) (n:=K.length) (by omega) hl
      rcases qaA (mvL K (dbl F) 0 K.length)with hw|hw
      ·rw[if_pos hw]at e22w
       simp(disch:=omega) only[f5,t5,t5_c0,t5_c1,t5_c2,t5_c3,t5_c4,t5_c5,t5_c6,t5_c7,t5_c8,t5_c9,t5_c10,t5_c11,Tr.val_test,Tr.val_fin,Tr.val_stop,qad,qag,b6,g35,e35,g26,e26,e26r,l0,qax,qas,b5_0,r5_2,b5_2,outB,outR,same,g36,e36,den0,l2,g22,e22,g38,e38,g23,e23,Option.isSome_some,Option.getD_some,Int.toNat_natCast,List.nil_append,Nat.zero_add,hf,hml,List.length_set,dT,dF,qbt,qbC,qbF,qbA,Bool.and_self,Bool.and_true,Bool.true_and,Bool.not_true,Bool.not_false,Bool.false_eq_true,Bool.and_false,↓reduceIte,wn,decide_true,decide_false,beq_self_eq_true,g39,e39,g31,e31,hap,hLl,hUl,g24,e24,e38b,w1,g41,e41,q1,pr,e24b,hdK,hdF,e22d,e56,r5_6,b5_6,hdl,e22w,hwl,e58]
      ·rw[if_neg (by rw[hw];decide)]at e22w
       simp(disch:=omega) only[f5,t5,t5_c0,t5_c1,t5_c2,t5_c3,t5_c4,t5_c5,t5_c6,t5_c7,t5_c8,t5_c9,t5_c10,t5_c11,Tr.val_test,Tr.val_fin,Tr.val_stop,qad,qag,b6,g35,e35,g26,e26,e26r,l0,qax,qas,b5_0,r5_2,b5_2,outB,outR,same,g36,e36,den0,l2,g22,e22,g38,e38,g23,e23,Option.isSome_some,Option.getD_some,Int.toNat_natCast,List.nil_append,Nat.zero_add,hf,hml,List.length_set,dT,dF,qbt,qbC,qbF,qbA,Bool.and_self,Bool.and_true,Bool.true_and,Bool.not_true,Bool.not_false,Bool.false_eq_true,Bool.and_false,↓reduceIte,wn,decide_true,decide_false,beq_self_eq_true,g39,e39,g31,e31,hap,hLl,hUl,g24,e24,e38b,w1,g41,e41,q1,pr,e24b,hdK,hdF,e22d,e56,r5_6,b5_6,hdl,e22w,hwl]
   ·omega
  ·skip
   by_cases hN:n+1<K.length
   ·have vd:=qjA v hN
    have e22d:=qcM vd
    rw[hdK]at e22d
    have hvl:=qam (K.drop (n+1)) (F.drop (n+1)) 0 (K.length-(n+1))
    rcases qaA (mvL (K.drop (n+1)) (F.drop (n+1)) 0 (K.length-(n+1)))with hv|hv
    ·rw[if_pos hv]at e22d
     have e39d:=qjZ (K:=K.drop (n+1)) (F:=F.drop (n+1)) (g:=0) (n:=K.length-(n+1)) (by omega) hv
     have l4:=qrG (K:=K) (F:=F) (by omega) hN hl hv ((mvL K F 0 K.length).take (n+1)) (sF F (n+1))
     cases hq:dF1 F with
     |some k=>
      rw[hq]at e56
      simp(disch:=omega) only[f5,t5,t5_c0,t5_c1,t5_c2,t5_c3,t5_c4,t5_c5,t5_c6,t5_c7,t5_c8,t5_c9,t5_c10,t5_c11,Tr.val_test,Tr.val_fin,Tr.val_stop,qad,qag,b6,g35,e35,g26,e26,e26r,l0,qax,qas,b5_0,r5_2,b5_2,outB,outR,same,g36,e36,den0,l2,g22,e22,g38,e38,g23,e23,Option.isSome_some,Option.getD_some,Int.toNat_natCast,List.nil_append,Nat.zero_add,hf,hml,List.length_set,dT,dF,qbt,qbC,qbF,qbA,Bool.and_self,Bool.and_true,Bool.true_and,Bool.not_true,Bool.not_false,Bool.false_eq_true,Bool.and_false,↓reduceIte,wn,decide_true,decide_false,beq_self_eq_true,g39,e39,g31,e31,hap,hLl,hUl,g24,e24,e38b,w1,g41,e41,q1,pr,e24b,hdK,hdF,e22d,hvl,e39d,l4,b5_4,r5_4,e56,r5_6,b5_6]
     |none=>
      rw[hq]at e56
      have vw:=qeO v hq
      have e22w:=qcM vw
      have hdl:(dbl F).length=K.length:=by rw[qcE,hf]
      have hwl:=qam K (dbl F) 0 K.length
      have e58:=qig (K:=K) (F:=F) (n:=K.length) (by omega) hl
      rcases qaA (mvL K (dbl F) 0 K.length)with hw|hw
      ·rw[if_pos hw]at e22w
       simp(disch:=omega) only[f5,t5,t5_c0,t5_c1,t5_c2,t5_c3,t5_c4,t5_c5,t5_c6,t5_c7,t5_c8,t5_c9,t5_c10,t5_c11,Tr.val_test,Tr.val_fin,Tr.val_stop,qad,qag,b6,g35,e35,g26,e26,e26r,l0,qax,qas,b5_0,r5_2,b5_2,outB,outR,same,g36,e36,den0,l2,g22,e22,g38,e38,g23,e23,Option.isSome_some,Option.getD_some,Int.toNat_natCast,List.nil_append,Nat.zero_add,hf,hml,List.length_set,dT,dF,qbt,qbC,qbF,qbA,Bool.and_self,Bool.and_true,Bool.true_and,Bool.not_true,Bool.not_false,Bool.false_eq_true,Bool.and_false,↓reduceIte,wn,decide_true,decide_false,beq_self_eq_true,g39,e39,g31,e31,hap,hLl,hUl,g24,e24,e38b,w1,g41,e41,q1,pr,e24b,hdK,hdF,e22d,hvl,e39d,l4,b5_4,r5_4,e56,r5_6,b5_6,hdl,e22w,hwl,e58]
      ·rw[if_neg (by rw[hw];decide)]at e22w
       simp(disch:=omega) only[f5,t5,t5_c0,t5_c1,t5_c2,t5_c3,t5_c4,t5_c5,t5_c6,t5_c7,t5_c8,t5_c9,t5_c10,t5_c11,Tr.val_test,Tr.val_fin,Tr.val_stop,qad,qag,b6,g35,e35,g26,e26,e26r,l0,qax,qas,b5_0,r5_2,b5_2,outB,outR,same,g36,e36,den0,l2,g22,e22,g38,e38,g23,e23,Option.isSome_some,Option.getD_some,Int.toNat_natCast,List.nil_append,Nat.zero_add,hf,hml,List.length_set,dT,dF,qbt,qbC,qbF,qbA,Bool.and_self,Bool.and_true,Bool.true_and,Bool.not_true,Bool.not_false,Bool.false_eq_true,Bool.and_false,↓reduceIte,wn,decide_true,decide_false,beq_self_eq_true,g39,e39,g31,e31,hap,hLl,hUl,g24,e24,e38b,w1,g41,e41,q1,pr,e24b,hdK,hdF,e22d,hvl,e39d,l4,b5_4,r5_4,e56,r5_6,b5_6,hdl,e22w,hwl]
    ·rw[if_neg (by rw[hv];decide)]at e22d
     cases hq:dF1 F with
     |some k=>
      rw[hq]at e56
      simp(disch:=omega) only[f5,t5,t5_c0,t5_c1,t5_c2,t5_c3,t5_c4,t5_c5,t5_c6,t5_c7,t5_c8,t5_c9,t5_c10,t5_c11,Tr.val_test,Tr.val_fin,Tr.val_stop,qad,qag,b6,g35,e35,g26,e26,e26r,l0,qax,qas,b5_0,r5_2,b5_2,outB,outR,same,g36,e36,den0,l2,g22,e22,g38,e38,g23,e23,Option.isSome_some,Option.getD_some,Int.toNat_natCast,List.nil_append,Nat.zero_add,hf,hml,List.length_set,dT,dF,qbt,qbC,qbF,qbA,Bool.and_self,Bool.and_true,Bool.true_and,Bool.not_true,Bool.not_false,Bool.false_eq_true,Bool.and_false,↓reduceIte,wn,decide_true,decide_false,beq_self_eq_true,g39,e39,g31,e31,hap,hLl,hUl,g24,e24,e38b,w1,g41,e41,q1,pr,e24b,hdK,hdF,e22d,e56,r5_6,b5_6]
     |none=>
      rw[hq]at e56
      have vw:=qeO v hq
      have e22w:=qcM vw
      have hdl:(dbl F).length=K.length:=by rw[qcE,hf]
      have hwl:=qam K (dbl F) 0 K.length
      have e58:=qig (K:=K) (F:=F) (n:=K.length) (by omega) hl
      rcases qaA (mvL K (dbl F) 0 K.length)with hw|hw
      ·rw[if_pos hw]at e22w
       simp(disch:=omega) only[f5,t5,t5_c0,t5_c1,t5_c2,t5_c3,t5_c4,t5_c5,t5_c6,t5_c7,t5_c8,t5_c9,t5_c10,t5_c11,Tr.val_test,Tr.val_fin,Tr.val_stop,qad,qag,b6,g35,e35,g26,e26,e26r,l0,qax,qas,b5_0,r5_2,b5_2,outB,outR,same,g36,e36,den0,l2,g22,e22,g38,e38,g23,e23,Option.isSome_some,Option.getD_some,Int.toNat_natCast,List.nil_append,Nat.zero_add,hf,hml,List.length_set,dT,dF,qbt,qbC,qbF,qbA,Bool.and_self,Bool.and_true,Bool.true_and,Bool.not_true,Bool.not_false,Bool.false_eq_true,Bool.and_false,↓reduceIte,wn,decide_true,decide_false,beq_self_eq_true,g39,e39,g31,e31,hap,hLl,hUl,g24,e24,e38b,w1,g41,e41,q1,pr,e24b,hdK,hdF,e22d,e56,r5_6,b5_6,hdl,e22w,hwl,e58]
      ·rw[if_neg (by rw[hw];decide)]at e22w
       simp(disch:=omega) only[f5,t5,t5_c0,t5_c1,t5_c2,t5_c3,t5_c4,t5_c5,t5_c6,t5_c7,t5_c8,t5_c9,t5_c10,t5_c11,Tr.val_test,Tr.val_fin,Tr.val_stop,qad,qag,b6,g35,e35,g26,e26,e26r,l0,qax,qas,b5_0,r5_2,b5_2,outB,outR,same,g36,e36,den0,l2,g22,e22,g38,e38,g23,e23,Option.isSome_some,Option.getD_some,Int.toNat_natCast,List.nil_append,Nat.zero_add,hf,hml,List.length_set,dT,dF,qbt,qbC,qbF,qbA,Bool.and_self,Bool.and_true,Bool.true_and,Bool.not_true,Bool.not_false,Bool.false_eq_true,Bool.and_false,↓reduceIte,wn,decide_true,decide_false,beq_self_eq_true,g39,e39,g31,e31,hap,hLl,hUl,g24,e24,e38b,w1,g41,e41,q1,pr,e24b,hdK,hdF,e22d,e56,r5_6,b5_6,hdl,e22w,hwl]
   ·omega
 ·have q1:=(qtB (mvL K F 0 K.length) (show a<n+1 by omega)).trans q0
  have e41:=qum (mvR K F 0 (a+1)) bd.1 bd.2
  obtain⟨i,dd,e24b,hd⟩:=qty v hn hle hl
  have a1:decide ((a:Int)<((n+1:Nat):Int))=true:=dT (by omega)
  simp only[pr]at e24b e41
  rcases hd with rfl|rfl
  ·skip
   by_cases hN:n+1<K.length
   ·have vd:=qjA v hN
    have e22d:=qcM vd
    rw[hdK]at e22d
    have hvl:=qam (K.drop (n+1)) (F.drop (n+1)) 0 (K.length-(n+1))
    rcases qaA (mvL (K.drop (n+1)) (F.drop (n+1)) 0 (K.length-(n+1)))with hv|hv
    ·rw[if_pos hv]at e22d
     have e39d:=qjZ (K:=K.drop (n+1)) (F:=F.drop (n+1)) (g:=0) (n:=K.length-(n+1)) (by omega) hv
     have l4:=qrG (K:=K) (F:=F) (by omega) hN hl hv ((mvL K F 0 K.length).take (n+1)) (sF F (n+1))
     cases hq:dF1 F with
     |some k=>
      rw[hq]at e56
      simp(disch:=omega) only[f5,t5,t5_c0,t5_c1,t5_c2,t5_c3,t5_c4,t5_c5,t5_c6,t5_c7,t5_c8,t5_c9,t5_c10,t5_c11,Tr.val_test,Tr.val_fin,Tr.val_stop,qad,qag,b6,g35,e35,g26,e26,e26r,l0,qax,qas,b5_0,r5_2,b5_2,outB,outR,same,g36,e36,den0,l2,g22,e22,g38,e38,g23,e23,Option.isSome_some,Option.getD_some,Int.toNat_natCast,List.nil_append,Nat.zero_add,hf,hml,List.length_set,dT,dF,qbt,qbC,qbF,qbA,Bool.and_self,Bool.and_true,Bool.true_and,Bool.not_true,Bool.not_false,Bool.false_eq_true,Bool.and_false,↓reduceIte,wn,decide_true,decide_false,beq_self_eq_true,g39,e39,g31,e31,hap,hLl,hUl,g24,e24,e38b,a1,g41,e41,q1,pr,e24b,hdK,hdF,e22d,hvl,e39d,l4,b5_4,r5_4,e56,r5_6,b5_6]
     |none=>
      rw[hq]at e56
      have vw:=qeO v hq
      have e22w:=qcM vw
      have hdl:(dbl F).length=K.length:=by rw[qcE,hf]
      have hwl:=qam K (dbl F) 0 K.length
      have e58:=qig (K:=K) (F:=F) (n:=K.length) (by omega) hl
      rcases qaA (mvL K (dbl F) 0 K.length)with hw|hw
      ·rw[if_pos hw]at e22w
       simp(disch:=omega) only[f5,t5,t5_c0,t5_c1,t5_c2,t5_c3,t5_c4,t5_c5,t5_c6,t5_c7,t5_c8,t5_c9,t5_c10,t5_c11,Tr.val_test,Tr.val_fin,Tr.val_stop,qad,qag,b6,g35,e35,g26,e26,e26r,l0,qax,qas,b5_0,r5_2,b5_2,outB,outR,same,g36,e36,den0,l2,g22,e22,g38,e38,g23,e23,Option.isSome_some,Option.getD_some,Int.toNat_natCast,List.nil_append,Nat.zero_add,hf,hml,List.length_set,dT,dF,qbt,qbC,qbF,qbA,Bool.and_self,Bool.and_true,Bool.true_and,Bool.not_true,Bool.not_false,Bool.false_eq_true,Bool.and_false,↓reduceIte,wn,decide_true,decide_false,beq_self_eq_true,g39,e39,g31,e31,hap,hLl,hUl,g24,e24,e38b,a1,g41,e41,q1,pr,e24b,hdK,hdF,e22d,hvl,e39d,l4,b5_4,r5_4,e56,r5_6,b5_6,hdl,e22w,hwl,e58]
      ·rw[if_neg (by rw[hw];decide)]at e22w
       simp(disch:=omega) only[f5,t5,t5_c0,t5_c1,t5_c2,t5_c3,t5_c4,t5_c5,t5_c6,t5_c7,t5_c8,t5_c9,t5_c10,t5_c11,Tr.val_test,Tr.val_fin,Tr.val_stop,qad,qag,b6,g35,e35,g26,e26,e26r,l0,qax,qas,b5_0,r5_2,b5_2,outB,outR,same,g36,e36,den0,l2,g22,e22,g38,e38,g23,e23,Option.isSome_some,Option.getD_some,Int.toNat_natCast,List.nil_append,Nat.zero_add,hf,hml,List.length_set,dT,dF,qbt,qbC,qbF,qbA,Bool.and_self,Bool.and_true,Bool.true_and,Bool.not_true,Bool.not_false,Bool.false_eq_true,Bool.and_false,↓reduceIte,wn,decide_true,decide_false,beq_self_eq_true,g39,e39,g31,e31,hap,hLl,hUl,g24,e24,e38b,a1,g41,e41,q1,pr,e24b,hdK,hdF,e22d,hvl,e39d,l4,b5_4,r5_4,e56,r5_6,b5_6,hdl,e22w,hwl]
    ·rw[if_neg (by rw[hv];decide)]at e22d
     cases hq:dF1 F with
     |some k=>
      rw[hq]at e56
      simp(disch:=omega) only[f5,t5,t5_c0,t5_c1,t5_c2,t5_c3,t5_c4,t5_c5,t5_c6,t5_c7,t5_c8,t5_c9,t5_c10,t5_c11,Tr.val_test,Tr.val_fin,Tr.val_stop,qad,qag,b6,g35,e35,g26,e26,e26r,l0,qax,qas,b5_0,r5_2,b5_2,outB,outR,same,g36,e36,den0,l2,g22,e22,g38,e38,g23,e23,Option.isSome_some,Option.getD_some,Int.toNat_natCast,List.nil_append,Nat.zero_add,hf,hml,List.length_set,dT,dF,qbt,qbC,qbF,qbA,Bool.and_self,Bool.and_true,Bool.true_and,Bool.not_true,Bool.not_false,Bool.false_eq_true,Bool.and_false,↓reduceIte,wn,decide_true,decide_false,beq_self_eq_true,g39,e39,g31,e31,hap,hLl,hUl,g24,e24,e38b,a1,g41,e41,q1,pr,e24b,hdK,hdF,e22d,e56,r5_6,b5_6]
     |none=>
      rw[hq]at e56
      have vw:=qeO v hq
      have e22w:=qcM vw
      have hdl:(dbl F).length=K.length:=by rw[qcE,hf]
      have hwl:=qam K (dbl F) 0 K.length
      have e58:=qig (K:=K) (F:=F) (n:=K.length) (by omega) hl
      rcases qaA (mvL K (dbl F) 0 K.length)with hw|hw
      ·rw[if_pos hw]at e22w
       simp(disch:=omega) only[f5,t5,t5_c0,t5_c1,t5_c2,t5_c3,t5_c4,t5_c5,t5_c6,t5_c7,t5_c8,t5_c9,t5_c10,t5_c11,Tr.val_test,Tr.val_fin,Tr.val_stop,qad,qag,b6,g35,e35,g26,e26,e26r,l0,qax,qas,b5_0,r5_2,b5_2,outB,outR,same,g36,e36,den0,l2,g22,e22,g38,e38,g23,e23,Option.isSome_some,Option.getD_some,Int.toNat_natCast,List.nil_append,Nat.zero_add,hf,hml,List.length_set,dT,dF,qbt,qbC,qbF,qbA,Bool.and_self,Bool.and_true,Bool.true_and,Bool.not_true,Bool.not_false,Bool.false_eq_true,Bool.and_false,↓reduceIte,wn,decide_true,decide_false,beq_self_eq_true,g39,e39,g31,e31,hap,hLl,hUl,g24,e24,e38b,a1,g41,e41,q1,pr,e24b,hdK,hdF,e22d,e56,r5_6,b5_6,hdl,e22w,hwl,e58]
      ·rw[if_neg (by rw[hw];decide)]at e22w
       simp(disch:=omega) only[f5,t5,t5_c0,t5_c1,t5_c2,t5_c3,t5_c4,t5_c5,t5_c6,t5_c7,t5_c8,t5_c9,t5_c10,t5_c11,Tr.val_test,Tr.val_fin,Tr.val_stop,qad,qag,b6,g35,e35,g26,e26,e26r,l0,qax,qas,b5_0,r5_2,b5_2,outB,outR,same,g36,e36,den0,l2,g22,e22,g38,e38,g23,e23,Option.isSome_some,Option.getD_some,Int.toNat_natCast,List.nil_append,Nat.zero_add,hf,hml,List.length_set,dT,dF,qbt,qbC,qbF,qbA,Bool.and_self,Bool.and_true,Bool.true_and,Bool.not_true,Bool.not_false,Bool.false_eq_true,Bool.and_false,↓reduceIte,wn,decide_true,decide_false,beq_self_eq_true,g39,e39,g31,e31,hap,hLl,hUl,g24,e24,e38b,a1,g41,e41,q1,pr,e24b,hdK,hdF,e22d,e56,r5_6,b5_6,hdl,e22w,hwl]
   ·have hT:(mvL K F 0 K.length).take (n+1)=mvL K F 0 K.length:=List.take_of_length_le (by rw[hml];omega)
    have e31t:f31 ((mvL K F 0 K.length).take (n+1),mvL K F 0 K.length,())=some (true,()):=by rw[hT];exact e31
    cases hq:dF1 F with
    |some k=>
     rw[hq]at e56
     simp(disch:=omega) only[f5,t5,t5_c0,t5_c1,t5_c2,t5_c3,t5_c4,t5_c5,t5_c6,t5_c7,t5_c8,t5_c9,t5_c10,t5_c11,Tr.val_test,Tr.val_fin,Tr.val_stop,qad,qag,b6,g35,e35,g26,e26,e26r,l0,qax,qas,b5_0,r5_2,b5_2,outB,outR,same,g36,e36,den0,l2,g22,e22,g38,e38,g23,e23,Option.isSome_some,Option.getD_some,Int.toNat_natCast,List.nil_append,Nat.zero_add,hf,hml,List.length_set,dT,dF,qbt,qbC,qbF,qbA,Bool.and_self,Bool.and_true,Bool.true_and,Bool.not_true,Bool.not_false,Bool.false_eq_true,Bool.and_false,↓reduceIte,wn,decide_true,decide_false,beq_self_eq_true,g39,e39,g31,e31,hap,hLl,hUl,g24,e24,e38b,a1,g41,e41,q1,pr,e24b,e31t,e56,r5_6,b5_6]
    |none=>
     rw[hq]at e56
     have vw:=qeO v hq
     have e22w:=qcM vw
     have hdl:(dbl F).length=K.length:=by rw[qcE,hf]
     have hwl:=qam K (dbl F) 0 K.length
     have e58:=qig (K:=K) (F:=F) (n:=K.length) (by omega) hl
     rcases qaA (mvL K (dbl F) 0 K.length)with hw|hw
     ·rw[if_pos hw]at e22w
      simp(disch:=omega) only[f5,t5,t5_c0,t5_c1,t5_c2,t5_c3,t5_c4,t5_c5,t5_c6,t5_c7,t5_c8,t5_c9,t5_c10,t5_c11,Tr.val_test,Tr.val_fin,Tr.val_stop,qad,qag,b6,g35,e35,g26,e26,e26r,l0,qax,qas,b5_0,r5_2,b5_2,outB,outR,same,g36,e36,den0,l2,g22,e22,g38,e38,g23,e23,Option.isSome_some,Option.getD_some,Int.toNat_natCast,List.nil_append,Nat.zero_add,hf,hml,List.length_set,dT,dF,qbt,qbC,qbF,qbA,Bool.and_self,Bool.and_true,Bool.true_and,Bool.not_true,Bool.not_false,Bool.false_eq_true,Bool.and_false,↓reduceIte,wn,decide_true,decide_false,beq_self_eq_true,g39,e39,g31,e31,hap,hLl,hUl,g24,e24,e38b,a1,g41,e41,q1,pr,e24b,e31t,e56,r5_6,b5_6,hdl,e22w,hwl,e58]
     ·rw[if_neg (by rw[hw];decide)]at e22w
      simp(disch:=omega) only[f5,t5,t5_c0,t5_c1,t5_c2,t5_c3,t5_c4,t5_c5,t5_c6,t5_c7,t5_c8,t5_c9,t5_c10,t5_c11,Tr.val_test,Tr.val_fin,Tr.val_stop,qad,qag,b6,g35,e35,g26,e26,e26r,l0,qax,qas,b5_0,r5_2,b5_2,outB,outR,same,g36,e36,den0,l2,g22,e22,g38,e38,g23,e23,Option.isSome_some,Option.getD_some,Int.toNat_natCast,List.nil_append,Nat.zero_add,hf,hml,List.length_set,dT,dF,qbt,qbC,qbF,qbA,Bool.and_self,Bool.and_true,Bool.true_and,Bool.not_true,Bool.not_false,Bool.false_eq_true,Bool.and_false,↓reduceIte,wn,decide_true,decide_false,beq_self_eq_true,g39,e39,g31,e31,hap,hLl,hUl,g24,e24,e38b,a1,g41,e41,q1,pr,e24b,e31t,e56,r5_6,b5_6,hdl,e22w,hwl]
  ·skip
   by_cases hN:n+1<K.length
   ·have vd:=qjA v hN
    have e22d:=qcM vd
    rw[hdK]at e22d
    have hvl:=qam (K.drop (n+1)) (F.drop (n+1)) 0 (K.length-(n+1))
    rcases qaA (mvL (K.drop (n+1)) (F.drop (n+1)) 0 (K.length-(n+1)))with hv|hv
    ·rw[if_pos hv]at e22d
     have e39d:=qjZ (K:=K.drop (n+1)) (F:=F.drop (n+1)) (g:=0) (n:=K.length-(n+1)) (by omega) hv
     have l4:=qrG (K:=K) (F:=F) (by omega) hN hl hv ((mvL K F 0 K.length).take (n+1)) (sF F (n+1))
     cases hq:dF1 F with
     |some k=>
      rw[hq]at e56
      simp(disch:=omega) only[f5,t5,t5_c0,t5_c1,t5_c2,t5_c3,t5_c4,t5_c5,t5_c6,t5_c7,t5_c8,t5_c9,t5_c10,t5_c11,Tr.val_test,Tr.val_fin,Tr.val_stop,qad,qag,b6,g35,e35,g26,e26,e26r,l0,qax,qas,b5_0,r5_2,b5_2,outB,outR,same,g36,e36,den0,l2,g22,e22,g38,e38,g23,e23,Option.isSome_some,Option.getD_some,Int.toNat_natCast,List.nil_append,Nat.zero_add,hf,hml,List.length_set,dT,dF,qbt,qbC,qbF,qbA,Bool.and_self,Bool.and_true,Bool.true_and,Bool.not_true,Bool.not_false,Bool.false_eq_true,Bool.and_false,↓reduceIte,wn,decide_true,decide_false,beq_self_eq_true,g39,e39,g31,e31,hap,hLl,hUl,g24,e24,e38b,a1,g41,e41,q1,pr,e24b,hdK,hdF,e22d,hvl,e39d,l4,b5_4,r5_4,e56,r5_6,b5_6]
     |none=>
      rw[hq]at e56
      have vw:=qeO v hq
      have e22w:=qcM vw
      have hdl:(dbl F).length=K.length:=by rw[qcE,hf]
      have hwl:=qam K (dbl F) 0 K.length
      have e58:=qig (K:=K) (F:=F) (n:=K.length) (by omega) hl
      rcases qaA (mvL K (dbl F) 0 K.length)with hw|hw
      ·rw[if_pos hw]at e22w
       simp(disch:=omega) only[f5,t5,t5_c0,t5_c1,t5_c2,t5_c3,t5_c4,t5_c5,t5_c6,t5_c7,t5_c8,t5_c9,t5_c10,t5_c11,Tr.val_test,Tr.val_fin,Tr.val_stop,qad,qag,b6,g35,e35,g26,e26,e26r,l0,qax,qas,b5_0,r5_2,b5_2,outB,outR,same,g36,e36,den0,l2,g22,e22,g38,e38,g23,e23,Option.isSome_some,Option.getD_some,Int.toNat_natCast,List.nil_append,Nat.zero_add,hf,hml,List.length_set,dT,dF,qbt,qbC,qbF,qbA,Bool.and_self,Bool.and_true,Bool.true_and,Bool.not_true,Bool.not_false,Bool.false_eq_true,Bool.and_false,↓reduceIte,wn,decide_true,decide_false,beq_self_eq_true,g39,e39,g31,e31,hap,hLl,hUl,g24,e24,e38b,a1,g41,e41,q1,pr,e24b,hdK,hdF,e22d,hvl,e39d,l4,b5_4,r5_4,e56,r5_6,b5_6,hdl,e22w,hwl,e58]
      ·rw[if_neg (by rw[hw];decide)]at e22w
       simp(disch:=omega) only[f5,t5,t5_c0,t5_c1,t5_c2,t5_c3,t5_c4,t5_c5,t5_c6,t5_c7,t5_c8,t5_c9,t5_c10,t5_c11,Tr.val_test,Tr.val_fin,Tr.val_stop,qad,qag,b6,g35,e35,g26,e26,e26r,l0,qax,qas,b5_0,r5_2,b5_2,outB,outR,same,g36,e36,den0,l2,g22,e22,g38,e38,g23,e23,Option.isSome_some,Option.getD_some,Int.toNat_natCast,List.nil_append,Nat.zero_add,hf,hml,List.length_set,dT,dF,qbt,qbC,qbF,qbA,Bool.and_self,Bool.and_true,Bool.true_and,Bool.not_true,Bool.not_false,Bool.false_eq_true,Bool.and_false,↓reduceIte,wn,decide_true,decide_false,beq_self_eq_true,g39,e39,g31,e31,hap,hLl,hUl,g24,e24,e38b,a1,g41,e41,q1,pr,e24b,hdK,hdF,e22d,hvl,e39d,l4,b5_4,r5_4,e56,r5_6,b5_6,hdl,e22w,hwl]
    ·rw[if_neg (by rw[hv];decide)]at e22d
     cases hq:dF1 F with
     |some k=>
      rw[hq]at e56
      simp(disch:=omega) only[f5,t5,t5_c0,t5_c1,t5_c2,t5_c3,t5_c4,t5_c5,t5_c6,t5_c7,t5_c8,t5_c9,t5_c10,t5_c11,Tr.val_test,Tr.val_fin,Tr.val_stop,qad,qag,b6,g35,e35,g26,e26,e26r,l0,qax,qas,b5_0,r5_2,b5_2,outB,outR,same,g36,e36,den0,l2,g22,e22,g38,e38,g23,e23,Option.isSome_some,Option.getD_some,Int.toNat_natCast,List.nil_append,Nat.zero_add,hf,hml,List.length_set,dT,dF,qbt,qbC,qbF,qbA,Bool.and_self,Bool.and_true,Bool.true_and,Bool.not_true,Bool.not_false,Bool.false_eq_true,Bool.and_false,↓reduceIte,wn,decide_true,decide_false,beq_self_eq_true,g39,e39,g31,e31,hap,hLl,hUl,g24,e24,e38b,a1,g41,e41,q1,pr,e24b,hdK,hdF,e22d,e56,r5_6,b5_6]
     |none=>
      rw[hq]at e56
      have vw:=qeO v hq
      have e22w:=qcM vw
      have hdl:(dbl F).length=K.length:=by rw[qcE,hf]
      have hwl:=qam K (dbl F) 0 K.length
      have e58:=qig (K:=K) (F:=F) (n:=K.length) (by omega) hl
      rcases qaA (mvL K (dbl F) 0 K.length)with hw|hw
      ·rw[if_pos hw]at e22w
       simp(disch:=omega) only[f5,t5,t5_c0,t5_c1,t5_c2,t5_c3,t5_c4,t5_c5,t5_c6,t5_c7,t5_c8,t5_c9,t5_c10,t5_c11,Tr.val_test,Tr.val_fin,Tr.val_stop,qad,qag,b6,g35,e35,g26,e26,e26r,l0,qax,qas,b5_0,r5_2,b5_2,outB,outR,same,g36,e36,den0,l2,g22,e22,g38,e38,g23,e23,Option.isSome_some,Option.getD_some,Int.toNat_natCast,List.nil_append,Nat.zero_add,hf,hml,List.length_set,dT,dF,qbt,qbC,qbF,qbA,Bool.and_self,Bool.and_true,Bool.true_and,Bool.not_true,Bool.not_false,Bool.false_eq_true,Bool.and_false,↓reduceIte,wn,decide_true,decide_false,beq_self_eq_true,g39,e39,g31,e31,hap,hLl,hUl,g24,e24,e38b,a1,g41,e41,q1,pr,e24b,hdK,hdF,e22d,e56,r5_6,b5_6,hdl,e22w,hwl,e58]
      ·rw[if_neg (by rw[hw];decide)]at e22w
       simp(disch:=omega) only[f5,t5,t5_c0,t5_c1,t5_c2,t5_c3,t5_c4,t5_c5,t5_c6,t5_c7,t5_c8,t5_c9,t5_c10,t5_c11,Tr.val_test,Tr.val_fin,Tr.val_stop,qad,qag,b6,g35,e35,g26,e26,e26r,l0,qax,qas,b5_0,r5_2,b5_2,outB,outR,same,g36,e36,den0,l2,g22,e22,g38,e38,g23,e23,Option.isSome_some,Option.getD_some,Int.toNat_natCast,List.nil_append,Nat.zero_add,hf,hml,List.length_set,dT,dF,qbt,qbC,qbF,qbA,Bool.and_self,Bool.and_true,Bool.true_and,Bool.not_true,Bool.not_false,Bool.false_eq_true,Bool.and_false,↓reduceIte,wn,decide_true,decide_false,beq_self_eq_true,g39,e39,g31,e31,hap,hLl,hUl,g24,e24,e38b,a1,g41,e41,q1,pr,e24b,hdK,hdF,e22d,e56,r5_6,b5_6,hdl,e22w,hwl]
   ·have hT:(mvL K F 0 K.length).take (n+1)=mvL K F 0 K.length:=List.take_of_length_le (by rw[hml];omega)
    have e31t:f31 ((mvL K F 0 K.length).take (n+1),mvL K F 0 K.length,())=some (true,()):=by rw[hT];exact e31
    cases hq:dF1 F with
    |some k=>
     rw[hq]at e56
     simp(disch:=omega) only[f5,t5,t5_c0,t5_c1,t5_c2,t5_c3,t5_c4,t5_c5,t5_c6,t5_c7,t5_c8,t5_c9,t5_c10,t5_c11,Tr.val_test,Tr.val_fin,Tr.val_stop,qad,qag,b6,g35,e35,g26,e26,e26r,l0,qax,qas,b5_0,r5_2,b5_2,outB,outR,same,g36,e36,den0,l2,g22,e22,g38,e38,g23,e23,Option.isSome_some,Option.getD_some,Int.toNat_natCast,List.nil_append,Nat.zero_add,hf,hml,List.length_set,dT,dF,qbt,qbC,qbF,qbA,Bool.and_self,Bool.and_true,Bool.true_and,Bool.not_true,Bool.not_false,Bool.false_eq_true,Bool.and_false,↓reduceIte,wn,decide_true,decide_false,beq_self_eq_true,g39,e39,g31,e31,hap,hLl,hUl,g24,e24,e38b,a1,g41,e41,q1,pr,e24b,e31t,e56,r5_6,b5_6]
    |none=>
     rw[hq]at e56
     have vw:=qeO v hq
     have e22w:=qcM vw
     have hdl:(dbl F).length=K.length:=by rw[qcE,hf]
     have hwl:=qam K (dbl F) 0 K.length
     have e58:=qig (K:=K) (F:=F) (n:=K.length) (by omega) hl
     rcases qaA (mvL K (dbl F) 0 K.length)with hw|hw
     ·rw[if_pos hw]at e22w
      simp(disch:=omega) only[f5,t5,t5_c0,t5_c1,t5_c2,t5_c3,t5_c4,t5_c5,t5_c6,t5_c7,t5_c8,t5_c9,t5_c10,t5_c11,Tr.val_test,Tr.val_fin,Tr.val_stop,qad,qag,b6,g35,e35,g26,e26,e26r,l0,qax,qas,b5_0,r5_2,b5_2,outB,outR,same,g36,e36,den0,l2,g22,e22,g38,e38,g23,e23,Option.isSome_some,Option.getD_some,Int.toNat_natCast,List.nil_append,Nat.zero_add,hf,hml,List.length_set,dT,dF,qbt,qbC,qbF,qbA,Bool.and_self,Bool.and_true,Bool.true_and,Bool.not_true,Bool.not_false,Bool.false_eq_true,Bool.and_false,↓reduceIte,wn,decide_true,decide_false,beq_self_eq_true,g39,e39,g31,e31,hap,hLl,hUl,g24,e24,e38b,a1,g41,e41,q1,pr,e24b,e31t,e56,r5_6,b5_6,hdl,e22w,hwl,e58]
     ·rw[if_neg (by rw[hw];decide)]at e22w
      simp(disch:=omega) only[f5,t5,t5_c0,t5_c1,t5_c2,t5_c3,t5_c4,t5_c5,t5_c6,t5_c7,t5_c8,t5_c9,t5_c10,t5_c11,Tr.val_test,Tr.val_fin,Tr.val_stop,qad,qag,b6,g35,e35,g26,e26,e26r,l0,qax,qas,b5_0,r5_2,b5_2,outB,outR,same,g36,e36,den0,l2,g22,e22,g38,e38,g23,e23,Option.isSome_some,Option.getD_some,Int.toNat_natCast,List.nil_append,Nat.zero_add,hf,hml,List.length_set,dT,dF,qbt,qbC,qbF,qbA,Bool.and_self,Bool.and_true,Bool.true_and,Bool.not_true,Bool.not_false,Bool.false_eq_true,Bool.and_false,↓reduceIte,wn,decide_true,decide_false,beq_self_eq_true,g39,e39,g31,e31,hap,hLl,hUl,g24,e24,e38b,a1,g41,e41,q1,pr,e24b,e31t,e56,r5_6,b5_6,hdl,e22w,hwl]
theorem quL(K F:List Int)(x x':Int):f5 ((K,F,()),(x,x',()),())=some (true,()):=by
 by_cases h6:K.length≤6
 ·by_cases h0:(cK K F).2=0
  ·exact qvp (qqf h0) x x'
  ·have b6:(!decide ((K.length:Int)≤6))=false:=nF (by omega)
   have e35:=qr5 K F (by omega)
   have bz:(!decide ((cK K F).2=0))=true:=nT h0
   simp only[f5,t5,Tr.val_test,Tr.val_fin,Tr.val_stop,qad,qag,b6,g35,e35,bz,Option.isSome_some,Option.getD_some,Bool.false_eq_true,↓reduceIte]
 ·have b6:(!decide ((K.length:Int)≤6))=true:=nT (by omega)
  simp only[f5,t5,Tr.val_test,Tr.val_fin,Tr.val_stop,qad,b6,↓reduceIte]
theorem law5(d:Tys.data as5)(hw:Tys.Wf as5 d):qnL Go.Proofs.Tryz.prog 5 as5 [.bool] d (true,()):=by
 have h:=quL d.1.1 d.1.2.1 d.2.1.1 d.2.1.2.1
 have hp:p5.pre d=true:=by
  show Option.isSome (f5 d)=true
  rw[show f5 d=some (true,())from h];rfl
 have hg:p5.fn d=(true,()):=by
  show(f5 d).getD _=_
  rw[show f5 d=some (true,())from h];rfl
 have:=ok5.runs d hp
 rw[hg]at this
 exact this
end Go.Vm.Mo
